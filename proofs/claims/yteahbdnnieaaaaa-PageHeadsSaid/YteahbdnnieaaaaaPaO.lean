/- Contracts of the law's own Of and Plain (spoollaw17). -/
import Derived.Test.YteahbdnnieaaaaaPaR
set_option maxRecDepth 100000
set_option linter.unusedVariables false
namespace Go.Proofs.Yteahbdnnieaaaaa.Pa
open Go.RowKit Go.Proofs.Yteahbdnnieaaaaa.Row Go.Proofs.Yteahbdnnieaaaaa.Crc

theorem at_second (w : World) (o : Obj) (C : Array Value) (t : TypeId) : At ((w.alloc o).alloc (.cells C t)) (w.heap.size + 1) C t := by
  have := At.new (w.alloc o) C t
  rw [World.size_alloc] at this
  exact this
theorem below_second (w : World) (o q : Obj) : Below w.heap.size w ((w.alloc o).alloc q) :=
  ((Below.refl _ _).alloc (Nat.le_refl _) _).alloc (by rw [World.size_alloc]; omega) _
theorem of_any (p : Pv) (w : World) :
    Calls Try.prog 10 #[.agg (pgV p)] w fun e w' => e = .returned (.agg (pgV p)) ∧ Below w.heap.size w w' := by
  obtain ⟨pe, pn, pk, pf, pl, pd⟩ := p
  unfold pgV
  simp only
  go_enter Try.func10, Try.ntmps10
  go_wp2
  exact bodyPost_ret (v := .agg _) (results_cell_row rfl _ _ (w.heap.size + 1) 31 _ (0, 0) _ rfl (at_second w _ _ _) Try.underlying31 rfl (by kernel_rfl)) rfl ⟨rfl, below_second _ _ _⟩
theorem plain_any (p : Pv) (w : World) :
    Calls Try.prog 13 #[.agg (pgV p)] w fun e w' => e = .returned (.agg (pgV p)) ∧ Below w.heap.size w w' := by
  obtain ⟨pe, pn, pk, pf, pl, pd⟩ := p
  unfold pgV
  simp only
  go_enter Try.func13, Try.ntmps13
  go_wp2
  exact bodyPost_ret (v := .agg _) (results_cell_row rfl _ _ (w.heap.size + 1) 24 _ (0, 0) _ rfl (at_second w _ _ _) Try.underlying24 rfl (by kernel_rfl)) rfl ⟨rfl, below_second _ _ _⟩
end Go.Proofs.Yteahbdnnieaaaaa.Pa
