/- The program's Right (carved out of PaB). -/
import Derived.Test.YtmaelcjmojhlpaaPaV
set_option maxRecDepth 100000
set_option linter.unusedVariables false
set_option linter.unusedSimpArgs false
namespace Go.Proofs.Ytmaelcjmojhlpaa.Pa
open Go.RowKit Go.Proofs.Ytmaelcjmojhlpaa.Row

theorem right_any (p : Pv) (w : World) (hd : p.d.length ≤ maxLen) :
    Calls Try.prog 12 #[.agg (pgV p)] w fun e w' => e = .returned (.bool (decide p.right)) ∧ Below w.heap.size w w' := by
  obtain ⟨pe, pn, pk, pf, pl, pd⟩ := p
  unfold maxLen at hd
  have hs : (⟨pd.toArray⟩ : ByteArray).size = pd.length := by simp [ByteArray.size]
  unfold pgV Pv.right
  simp only
  obtain ⟨N, hN⟩ : ∃ N, pd.length = N := ⟨_, rfl⟩
  rw [hN] at hs
  simp only [hN] at hd ⊢
  go_enter Try.func12, Try.ntmps12
  go_wp2
  all_goals go_ret
  all_goals refine ⟨?_, (Below.refl _ _).alloc (Nat.le_refl _) _⟩
  all_goals refine rb ?_
  all_goals (cases pf <;> cases pl <;> simp_all <;> omega)
end Go.Proofs.Ytmaelcjmojhlpaa.Pa
