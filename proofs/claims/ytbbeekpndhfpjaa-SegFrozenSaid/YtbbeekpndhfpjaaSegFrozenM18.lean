/- Texts of the walk, one behind the other. -/
import Derived.Test.YtbbeekpndhfpjaaSegFrozenM1
import Derived.Test.YtbbeekpndhfpjaaSegFrozenM10
import Derived.Test.YtbbeekpndhfpjaaFr

section
/- A page as a value of six cells; new blocks (carved out of PaR, PaO, PaC, PaD). -/
set_option maxRecDepth 100000
set_option linter.unusedVariables false
set_option linter.unusedSimpArgs false
namespace Go.Proofs.Ytbbeekpndhfpjaa.Pa
open Go.RowKit Go.Proofs.Ytbbeekpndhfpjaa.Row

/-- A page as a value. -/
def pgV (p : Pv) : Array Value := #[.int .u32 p.e, .int .u32 p.n, .int .i64 p.k, .bool p.f, .bool p.l, .string ⟨p.d.toArray⟩]

theorem rb {a b : Bool} (h : a = b) : Ending.returned (.bool a) = .returned (.bool b) := by rw [h]
theorem at_second (w : World) (o : Obj) (C : Array Value) (t : TypeId) : At ((w.alloc o).alloc (.cells C t)) (w.heap.size + 1) C t := by
  have := At.new (w.alloc o) C t
  rw [World.size_alloc] at this
  exact this
theorem below_second (w : World) (o q : Obj) : Below w.heap.size w ((w.alloc o).alloc q) :=
  ((Below.refl _ _).alloc (Nat.le_refl _) _).alloc (by rw [World.size_alloc]; omega) _
theorem info_pg {A : Array Value} (h : A.size = 6) : (Try.prog.info? 73).map (·.size) = some A.size := by rw [h]; kernel_rfl
theorem fldp (i : Nat) (hi : i < 6) : FldO 73 i i := by
  obtain rfl | rfl | rfl | rfl | rfl | rfl : i = 0 ∨ i = 1 ∨ i = 2 ∨ i = 3 ∨ i = 4 ∨ i = 5 := by omega
  all_goals exact fldO Try.underlying73 rfl rfl (s := 1) (by kernel_rfl) (by omega)

theorem pgV_one (p : Pv) : (pgV p).all (·.oneCell') = true := by
  unfold pgV
  rw [Array.all_eq_true]
  intro i hi
  have : i < 6 := hi
  obtain rfl | rfl | rfl | rfl | rfl | rfl : i = 0 ∨ i = 1 ∨ i = 2 ∨ i = 3 ∨ i = 4 ∨ i = 5 := by omega
  all_goals rfl
theorem zero_pg (w : World) : (zeroValue 73).run Try.prog w = .ok (.agg (pgV Pv.zero)) w := by kernel_rfl
end Go.Proofs.Ytbbeekpndhfpjaa.Pa
end

section
/- The program's Right (carved out of PaB). -/
set_option maxRecDepth 100000
set_option linter.unusedVariables false
set_option linter.unusedSimpArgs false
namespace Go.Proofs.Ytbbeekpndhfpjaa.Pa
open Go.RowKit Go.Proofs.Ytbbeekpndhfpjaa.Row

theorem right_any (p : Pv) (w : World) (hd : p.d.length ≤ maxLen) :
    Calls Try.prog 52 #[.agg (pgV p)] w fun e w' => e = .returned (.bool (decide p.right)) ∧ Below w.heap.size w w' := by
  obtain ⟨pe, pn, pk, pf, pl, pd⟩ := p
  unfold maxLen at hd
  have hs : (⟨pd.toArray⟩ : ByteArray).size = pd.length := by simp [ByteArray.size]
  unfold pgV Pv.right
  simp only
  obtain ⟨N, hN⟩ : ∃ N, pd.length = N := ⟨_, rfl⟩
  rw [hN] at hs
  simp only [hN] at hd ⊢
  go_enter Try.func52, Try.ntmps52
  go_wp2
  all_goals go_ret
  all_goals refine ⟨?_, (Below.refl _ _).alloc (Nat.le_refl _) _⟩
  all_goals refine rb ?_
  all_goals (cases pf <;> cases pl <;> simp_all <;> omega)
end Go.Proofs.Ytbbeekpndhfpjaa.Pa
end
