/- Texts of the walk, one behind the other. -/
import Derived.Test.YtinbdkneakblfaaStatePlaysM29
import Derived.Test.YtinbdkneakblfaaStatePlaysM32
import Derived.Test.YtinbdkneakblfaaStatePlaysM15

section
/- Contracts for the statements of layer 12: what stands. -/
set_option maxRecDepth 100000
set_option linter.unusedVariables false
namespace Go.Proofs.Ytinbdkneakblfaa.Sta
open Go.RowKit Go.Proofs.Ytinbdkneakblfaa.Row

theorem enter_plain (args : Array Value) (w : World) : (callFunc 14 args).run Try.prog w = .ok (.enter 14 args) w := run_enter Try.func14 (by kernel_rfl) rfl args w
theorem enter_of (args : Array Value) (w : World) : (callFunc 11 args).run Try.prog w = .ok (.enter 11 args) w := run_enter Try.func11 (by kernel_rfl) rfl args w

/-- All that stood in w stands, and the row T behind it. -/
def One (w : World) (T : Array Value) (t : TypeId) (w' : World) : Prop := Below w.heap.size w w' ∧ At w' w.heap.size T t
theorem One.start (w : World) (T : Array Value) (t : TypeId) : One w T t (w.alloc (.cells T t)) := ⟨(Below.refl _ _).alloc (Nat.le_refl _) _, At.new _ _ _⟩
theorem One.next {w w1 w2 : World} {T : Array Value} {t : TypeId} (h : One w T t w1) (hb : Below w1.heap.size w1 w2) : One w T t w2 := ⟨below_trans h.1 hb h.1.size, h.2.below hb h.2.lt⟩
theorem One.alloc {w w1 : World} {T : Array Value} {t : TypeId} (h : One w T t w1) (o : Obj) : One w T t (w1.alloc o) := h.next ((Below.refl _ _).alloc (Nat.le_refl _) o)
theorem At.two {w1 w2 : World} {b : Nat} {T : Array Value} {t : TypeId} (h : At w1 b T t) (hb : Below w1.heap.size w1 w2) : At w2 b T t := h.below hb h.lt

/-- What is read of a right state's bytes is the state. -/
theorem read_same {T : Array Value} {f : Nat → Int} (hT : IsRow 38 f T) (h : Rt f) (w : World) :
    Calls Try.prog 13 #[.string ⟨(stL f).toArray⟩] w fun e w' => e = .returned (.tuple #[.agg T, .int .i64 0]) ∧ Below w.heap.size w w' := by
  refine (read_ok (stL f) (stL_len f) (h.ext fun k hk => (rd_back h k hk).symm) w).mono ?_
  rintro e w' ⟨⟨T', rfl, hT'⟩, hb⟩
  obtain rfl := hT'.eq hT fun k hk => rd_back h k hk
  exact ⟨rfl, hb⟩
end Go.Proofs.Ytinbdkneakblfaa.Sta
end
