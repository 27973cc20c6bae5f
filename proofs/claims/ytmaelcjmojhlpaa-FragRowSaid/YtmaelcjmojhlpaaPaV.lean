/- A page as a value of six cells; new blocks (carved out of PaR, PaO, PaC, PaD). -/
import Derived.Test.YtmaelcjmojhlpaaPaMath
import Derived.Test.YtmaelcjmojhlpaaCel0
import Derived.Test.YtmaelcjmojhlpaaFr
set_option maxRecDepth 100000
set_option linter.unusedVariables false
set_option linter.unusedSimpArgs false
namespace Go.Proofs.Ytmaelcjmojhlpaa.Pa
open Go.RowKit Go.Proofs.Ytmaelcjmojhlpaa.Row

/-- A page as a value. -/
def pgV (p : Pv) : Array Value := #[.int .u32 p.e, .int .u32 p.n, .int .i64 p.k, .bool p.f, .bool p.l, .string ⟨p.d.toArray⟩]

theorem rb {a b : Bool} (h : a = b) : Ending.returned (.bool a) = .returned (.bool b) := by rw [h]
theorem at_second (w : World) (o : Obj) (C : Array Value) (t : TypeId) : At ((w.alloc o).alloc (.cells C t)) (w.heap.size + 1) C t := by
  have := At.new (w.alloc o) C t
  rw [World.size_alloc] at this
  exact this
theorem below_second (w : World) (o q : Obj) : Below w.heap.size w ((w.alloc o).alloc q) :=
  ((Below.refl _ _).alloc (Nat.le_refl _) _).alloc (by rw [World.size_alloc]; omega) _
theorem info_pg {A : Array Value} (h : A.size = 6) : (Try.prog.info? 36).map (·.size) = some A.size := by rw [h]; kernel_rfl
theorem fldp (i : Nat) (hi : i < 6) : FldO 36 i i := by
  obtain rfl | rfl | rfl | rfl | rfl | rfl : i = 0 ∨ i = 1 ∨ i = 2 ∨ i = 3 ∨ i = 4 ∨ i = 5 := by omega
  all_goals exact fldO Try.underlying36 rfl rfl (s := 1) (by kernel_rfl) (by omega)

theorem pgV_one (p : Pv) : (pgV p).all (·.oneCell') = true := by
  unfold pgV
  rw [Array.all_eq_true]
  intro i hi
  have : i < 6 := hi
  obtain rfl | rfl | rfl | rfl | rfl | rfl : i = 0 ∨ i = 1 ∨ i = 2 ∨ i = 3 ∨ i = 4 ∨ i = 5 := by omega
  all_goals rfl
theorem zero_pg (w : World) : (zeroValue 36).run Try.prog w = .ok (.agg (pgV Pv.zero)) w := by kernel_rfl
end Go.Proofs.Ytmaelcjmojhlpaa.Pa
