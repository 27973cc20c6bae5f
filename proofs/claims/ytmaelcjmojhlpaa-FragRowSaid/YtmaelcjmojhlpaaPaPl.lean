/- The law's Plain (carved out of PaO). -/
import Derived.Test.YtmaelcjmojhlpaaPaV
set_option maxRecDepth 100000
set_option linter.unusedVariables false
set_option linter.unusedSimpArgs false
namespace Go.Proofs.Ytmaelcjmojhlpaa.Pa
open Go.RowKit Go.Proofs.Ytmaelcjmojhlpaa.Row

theorem plain_any (p : Pv) (w : World) :
    Calls Try.prog 15 #[.agg (pgV p)] w fun e w' => e = .returned (.agg (pgV p)) ∧ Below w.heap.size w w' := by
  obtain ⟨pe, pn, pk, pf, pl, pd⟩ := p
  unfold pgV
  simp only
  go_enter Try.func15, Try.ntmps15
  go_wp2
  exact bodyPost_ret (v := .agg _) (results_cell_row rfl _ _ (w.heap.size + 1) 42 _ (0, 0) _ rfl (at_second w _ _ _) Try.underlying42 rfl (by kernel_rfl)) rfl ⟨rfl, below_second _ _ _⟩
end Go.Proofs.Ytmaelcjmojhlpaa.Pa
