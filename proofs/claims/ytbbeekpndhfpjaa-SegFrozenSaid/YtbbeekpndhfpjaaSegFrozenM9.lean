/- Texts of the walk, one behind the other. -/
import Derived.Test.YtbbeekpndhfpjaaSegFrozenM6

section
/- A move through a drawn region by any law of the plain walk ('wpList ..'): at one operation whose law is given for whatever comes behind it. For every package. -/
set_option maxRecDepth 100000
set_option linter.unusedVariables false
namespace Go.Proofs.Ytbbeekpndhfpjaa.Row
open Go.RowKit

theorem wp_of_good {o : Oper} {a : Act} {w : World} {Good K : Act → World → Prop} {Q Q' : Exit → Act → World → Prop} (hK : ∀ a w, K a w → Good a w) (hQ : ∀ e a w, Q' e a w → e = .normal) (h : o.wp Try.prog a w K Q') : o.wp Try.prog a w Good Q := by
  unfold Oper.wp at *
  generalize (execOp a.eval o).run Try.prog w = r at *
  cases r with
  | ok n w' =>
    cases n <;> simp only [Oper.upon] at h ⊢ <;>
      first
        | exact hK _ _ h
        | exact Calls.mono h (fun e w'' he => by
            cases e with
            | returned v => exact hK _ _ he
            | panicked c => exact absurd (hQ _ _ _ he) (by simp)
            | outgrown => obtain ⟨a', w', h1⟩ := he; exact absurd (hQ _ _ _ h1) (by simp))
        | exact Rows.mono h (fun _ _ he => hK _ _ he)
  | halt x w' => cases x <;> simp only [Oper.upon] at h ⊢ <;> first | exact h | exact absurd (hQ _ _ _ h) (by simp)

/-- What yields its value, in a plain region. -/
theorem wpList_y {ops : Array Oper} {rest : List Oper} {Q : Exit → Act → World → Prop} {a : Act} {w : World} {oi : Oper} {v : Value} (hy : YieldsIf Try.prog ops (fun w' => w' = w) oi v a) (hK : wpList Try.prog ops Q rest (a.put oi.dst v) w) : wpList Try.prog ops Q (oi :: rest) a w := by
  rcases hy with ⟨hw, hrun⟩ | ⟨hw, rfl⟩
  · rw [wpList, if_pos hw]
    refine .inl ?_
    unfold Oper.wp
    rw [hrun w rfl, Oper.upon_value]
    exact hK
  · rw [wpList, if_neg (by rw [hw]; simp)]
    exact hK

section
variable {ops : Array Oper} {Q : Exit → Act → World → Prop} {S : World → Prop} {F : Nat → Bool} {fuel : Nat} {listed : Array Bool} {a : Act} {w : World} {oi : Oper} {i : Nat} {rs : List Nat}

/-- A move by a law of the plain walk. -/
theorem af_of (hi : ops[i]? = some oi) (hw : Region.wanted oi (yielded ops a.tmps) = true)
    (h : ∀ Q' : Exit → Act → World → Prop, (∀ a' w', (F i = false → S w') → wpAnyF Try.prog .any ops (NoPanic Q) S F fuel (listed.setIfInBounds i true) a' w' → Q' .normal a' w') → wpList Try.prog ops Q' [oi] a w)
    (hs : AllReadyF Try.prog .any ops (NoPanic Q) S F fuel listed a w rs) : AllReadyF Try.prog .any ops (NoPanic Q) S F fuel listed a w (i :: rs) := by
  refine AllReadyF.cons hi (fun K hK => ?_) hs
  rw [if_pos hw]
  have h1 := h (fun e a' w' => e = .normal ∧ (F i = false → S w') ∧ wpAnyF Try.prog .any ops (NoPanic Q) S F fuel (listed.setIfInBounds i true) a' w') fun a' w' h2 h3 => ⟨rfl, h2, h3⟩
  rw [wpList, if_pos hw] at h1
  rcases h1 with h1 | ⟨_, a', w', h2, _⟩
  · exact wp_of_good (fun a' w' h => hK.out a' w' h.2.1 h.2.2) (fun e a' w' h => h.1) h1
  · cases h2
/-- .. where nothing else may come up. -/
theorem mf_of (hi : ops[i]? = some oi) (hr : Region.ready .any ops listed = [i]) (hw : Region.wanted oi (yielded ops a.tmps) = true)
    (h : ∀ Q' : Exit → Act → World → Prop, (∀ a' w', (F i = false → S w') → wpAnyF Try.prog .any ops (NoPanic Q) S F fuel (listed.setIfInBounds i true) a' w' → Q' .normal a' w') → wpList Try.prog ops Q' [oi] a w) :
    wpAnyF Try.prog .any ops (NoPanic Q) S F (fuel + 1) listed a w :=
  mf_ready [i] hr (by simp) (af_of hi hw h AllReadyF.nil)
/-- What yields its value, where nothing else may come up. -/
theorem mf_one {d : Nat} (v : Value) (hi : ops[i]? = some oi) (hd : oi.dst = some d) (hr : Region.ready .any ops listed = [i]) (hS : S w) (hy : YieldsIf Try.prog ops S oi v a)
    (h : wpAnyF Try.prog .any ops (NoPanic Q) S F fuel (listed.setIfInBounds i true) (a.put (some d) v) w) : wpAnyF Try.prog .any ops (NoPanic Q) S F (fuel + 1) listed a w := by
  refine mf_ready [i] hr (by simp) (AllReadyF.cons hi (fun K hK => ?_) AllReadyF.nil)
  rcases hy with ⟨hw, hrun⟩ | ⟨hw, rfl⟩
  · rw [if_pos hw]
    unfold Oper.wp
    rw [hrun w hS, Oper.upon_value, hd]
    exact hK.out _ _ (fun _ => hS) h
  · rw [if_neg (by rw [hw]; simp), hd]
    exact hK.out _ _ (fun _ => hS) h
end
end Go.Proofs.Ytbbeekpndhfpjaa.Row
end
