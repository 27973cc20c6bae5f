/- The program's joiner is what the statements' walks ask for. -/
import Derived.Test.YtmaelcjmojhlpaaFgF
set_option maxRecDepth 100000
set_option linter.unusedVariables false
set_option linter.unusedSimpArgs false
namespace Go.Proofs.Ytmaelcjmojhlpaa.Fg
open Go.RowKit Go.Proofs.Ytmaelcjmojhlpaa.Row Go.Proofs.Ytmaelcjmojhlpaa.Pa

theorem wrong_is (j : Jn) {p : Pv} (hr : ¬ p.right) : jt j p = j ∧ told j p = [] ∧ ended j p = false ∧ terr j p = 1 := by
  refine ⟨?_, ?_, ?_, ?_⟩
  · unfold jt; rw [if_pos (.inl hr)]
  · unfold told; rw [if_pos (.inl hr)]
  · unfold ended; rw [decide_eq_false (by simp [hr])]; rfl
  · unfold terr; rw [if_pos hr]
theorem fit_is {j : Jn} {p : Pv} (hr : p.right) (hk : p.k ≠ 1) (h : refused j p = false) : jt j p = (if p.l then none else some (p.e, joined j p)) ∧ told j p = (if p.l then joined j p else []) ∧ ended j p = p.l ∧ terr j p = 0 := by
  refine ⟨?_, ?_, ?_, ?_⟩
  · unfold jt; rw [if_neg (by simp [hr, hk]), if_neg (by simp [h])]
  · unfold told
    cases hl : p.l
    · rw [if_pos (by simp)]; rfl
    · rw [if_neg (by simp [hr, hk, h])]; rfl
  · unfold ended; rw [decide_eq_true ⟨hr, hk⟩, h]; simp
  · unfold terr; rw [if_neg (by simp [hr]), if_neg hk, if_neg (by simp [h])]

theorem refused_some {e n : Nat} {bs : List UInt8} (hl : bs.length = n) (p : Pv) : refused (some (e, bs)) p = (p.f || decide (p.e ≠ e) || decide (4096 < n + p.d.length)) := by subst hl; rfl
theorem take_any {w : World} {b : Nat} {T : Nat → Prop} {j : Jn} (h : JI w b T j) (p : Pv) (hd : p.d.length ≤ maxLen) :
    Calls Try.prog 11 #[.pointer (some ⟨b, 0, none⟩), .agg (pgV p)] w fun en w' => en = .returned (.tuple #[.string (tx (told j p)), .bool (ended j p), .int .i64 (terr j p : Nat)]) ∧ Left w b T (jt j p) w' := by
  by_cases hr : p.right
  · by_cases hk : p.k = 1
    · obtain ⟨e1, e2, e3, e4⟩ := jt_head j hr hk
      rw [e1, e2, e3, e4]
      exact take_head h p hr hk
    · obtain ⟨e, a, n, c, bs, hJ, hl, hn, _, hj⟩ := h.mem
      have hfit : ∀ w1, Below w.heap.size w w1 → Calls Try.prog 19 #[.pointer (some ⟨b, 0, none⟩), .agg (pgV p)] w1 fun en w' => en = .returned (.bool (!refused j p)) ∧ Below w1.heap.size w1 w' := by
        intro w1 hb
        have hJ1 := hJ.below hb
        rcases hj with ⟨rfl, rfl, rfl⟩ | ⟨rfl, hn1⟩
        · have := fits_none hJ1.row p
          rwa [show p.f = !refused none p by unfold refused; simp] at this
        · have h2 := fits_some hJ1.row hn1 hn p hr.2.1
          have e2 : (!p.f && decide (p.e = e) && decide (n + p.d.length ≤ 4096)) = !refused (some (e, bs)) p := by
            rw [refused_some hl]
            have e3 : decide (4096 < n + p.d.length) = !decide (n + p.d.length ≤ 4096) := by
              by_cases c : n + p.d.length ≤ 4096
              · rw [decide_eq_true c, decide_eq_false (by omega)]; rfl
              · rw [decide_eq_false c, decide_eq_true (by omega)]; rfl
            have e4 : decide (p.e ≠ e) = !decide (p.e = e) := by
              by_cases c : p.e = e
              · rw [decide_eq_true c, decide_eq_false (by simp [c])]; rfl
              · rw [decide_eq_false c, decide_eq_true c]; rfl
            rw [e3, e4]
            cases p.f <;> cases decide (p.e = e) <;> cases decide (n + p.d.length ≤ 4096) <;> rfl
          rwa [e2] at h2
      cases hrf : refused j p with
      | true =>
        obtain ⟨e1, e2, e3, e4⟩ := jt_bad hr hk hrf
        rw [e1, e2, e3, e4]
        rw [hrf] at hfit
        exact take_bad hJ p hr hk hfit
      | false =>
        obtain ⟨e1, e2, e3, e4⟩ := fit_is hr hk hrf
        rw [e1, e2, e3, e4]
        have hb : joined j p = bs ++ p.d := by
          rcases hj with ⟨rfl, rfl, rfl⟩ | ⟨rfl, hn1⟩
          · rfl
          · rfl
        have hlen : n + p.d.length ≤ 4096 := by
          rcases hj with ⟨rfl, rfl, rfl⟩ | ⟨rfl, hn1⟩
          · have := hr.2.1; omega
          · rw [refused_some hl] at hrf
            simp only [Bool.or_eq_false_iff, decide_eq_false_iff_not] at hrf
            omega
        rw [hrf] at hfit
        refine (take_fit hJ p hr hk hlen hfit).mono fun en w' ht => ?_
        rw [hb]
        cases hpl : p.l with
        | true => rw [hpl] at ht; exact ht
        | false => rw [hpl] at ht; exact ht
  · obtain ⟨e1, e2, e3, e4⟩ := wrong_is j hr
    rw [e1, e2, e3, e4]
    exact take_wrong h p hd hr

theorem joins : Joins JI (jR 0 none 0 0) where
  zv := zero_j
  bz := built_j
  zero := fun w => ⟨0, none, 0, At.new w _ _, OwB.nil _, rfl, (fun k hk => by cases hk), fun k hk => by rw [hk, World.size_alloc]; omega⟩
  own := fun w b T j h => by
    obtain ⟨e, a, n, c, bs, hJ, _⟩ := h.mem
    exact ⟨hJ.tb, hJ.lt⟩
  fr := fun w w' b T U j h hf hd => h.fr hf hd
  take := fun w b T j p h ho hd hk => (take_any h p hd).mono fun en w' ⟨e1, hf, hl⟩ => ⟨e1, hf, hl⟩
  begun := fun w b T j h => by
    obtain ⟨e, a, n, c, bs, hJ, _, _, hs, _⟩ := h.mem
    refine (begun_as hJ.row).mono fun en w' ⟨e1, e2⟩ => ⟨by rw [e1, hs], by rw [e2]; exact Below.refl _ _⟩
end Go.Proofs.Ytmaelcjmojhlpaa.Fg
