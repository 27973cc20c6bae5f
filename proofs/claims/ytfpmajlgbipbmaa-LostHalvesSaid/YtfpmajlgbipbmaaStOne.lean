/- Of and Plain are entered; what stands; the zero state is right. -/
import Derived.Test.YtfpmajlgbipbmaaStD
import Derived.Test.YtfpmajlgbipbmaaRowMvY
set_option maxRecDepth 100000
set_option linter.unusedVariables false
namespace Go.Proofs.Ytfpmajlgbipbmaa.Sta
open Go.RowKit Go.Proofs.Ytfpmajlgbipbmaa.Row Go.Proofs.Ytfpmajlgbipbmaa.Md

theorem enter_of (args : Array Value) (w : World) : (callFunc 11 args).run Try.prog w = .ok (.enter 11 args) w := run_enter Try.func11 (by kernel_rfl) rfl args w

/-- All that stood in w stands, and the row T behind it. -/
def One (w : World) (T : Array Value) (t : TypeId) (w' : World) : Prop := Below w.heap.size w w' ∧ At w' w.heap.size T t

theorem One.start (w : World) (T : Array Value) (t : TypeId) : One w T t (w.alloc (.cells T t)) := ⟨(Below.refl _ _).alloc (Nat.le_refl _) _, At.new _ _ _⟩

theorem One.next {w w1 w2 : World} {T : Array Value} {t : TypeId} (h : One w T t w1) (hb : Below w1.heap.size w1 w2) : One w T t w2 := ⟨below_trans h.1 hb h.1.size, h.2.below hb h.2.lt⟩

theorem One.alloc {w w1 : World} {T : Array Value} {t : TypeId} (h : One w T t w1) (o : Obj) : One w T t (w1.alloc o) := h.next ((Below.refl _ _).alloc (Nat.le_refl _) o)

theorem At.two {w1 w2 : World} {b : Nat} {T : Array Value} {t : TypeId} (h : At w1 b T t) (hb : Below w1.heap.size w1 w2) : At w2 b T t := h.below hb h.lt

theorem rt_zero : Rt (fun _ => 0) := ⟨fun i _ => by dsimp only; omega, by dsimp only; omega, fun i _ => by dsimp only; omega, fun i _ => by show Md.ab 0 ≤ _; unfold Md.ab; omega, by dsimp only; omega⟩
end Go.Proofs.Ytfpmajlgbipbmaa.Sta
