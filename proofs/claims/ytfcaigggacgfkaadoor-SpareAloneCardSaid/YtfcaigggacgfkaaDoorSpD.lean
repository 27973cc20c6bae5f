/- The mathematics of giving, pulse by pulse; what all bands have in the end. -/
import Derived.Test.YtfcaigggacgfkaaDoorSpC
set_option maxRecDepth 100000
set_option linter.unusedVariables false
namespace Go.Proofs.YtfcaigggacgfkaaDoor.Sp

/-- Whether a band can have one more. -/
def can (L : Nat → Int) (K : Nat → Nat) (left : Int) (b : Nat) : Bool := decide (L b ≠ 0) && decide (K b < 8) && decide (pr b (K b) ≤ left)
/-- The one that has it; 4: none. -/
def bst (L : Nat → Int) (K : Nat → Nat) (left : Int) : Nat := bs (can L K left) (ltW L K) 4

theorem inn_hi (lt : Nat → Nat → Bool) : ∀ (j : Nat) (d : Nat → Nat) (q : Nat), j < q → inn lt j d q = d q
  | 0, _, _, _ => rfl
  | j + 1, d, q, h => by
    rw [inn]
    split
    · rw [inn_hi lt j _ q (by omega)]
      unfold sw
      rw [if_neg (by omega), if_neg (by omega)]
    · rfl
theorem inn_lt (lt : Nat → Nat → Bool) : ∀ (j : Nat) (d : Nat → Nat) (M : Nat), (∀ p, p ≤ j → d p < M) → ∀ p, p ≤ j → inn lt j d p < M
  | 0, _, _, h, p, hp => h p hp
  | j + 1, d, M, h, p, hp => by
    rw [inn]
    split
    · by_cases c : p ≤ j
      · refine inn_lt lt j _ M (fun q hq => ?_) p c
        unfold sw
        split
        · exact h _ (by omega)
        · split
          · exact h _ (by omega)
          · exact h _ (by omega)
      · rw [inn_hi lt j _ p (by omega)]
        unfold sw
        rw [if_pos (by omega)]
        exact h _ (by omega)
    · exact h p hp
theorem so_prop (lt : Nat → Nat → Bool) : ∀ i, (∀ q, i ≤ q → so lt i q = q) ∧ ∀ p, p < i → so lt i p < i
  | 0 => ⟨fun _ _ => rfl, fun p h => absurd h (Nat.not_lt_zero p)⟩
  | 1 => ⟨fun _ _ => rfl, fun p h => by rw [show p = 0 by omega]; exact Nat.one_pos⟩
  | i + 2 => by
    obtain ⟨h1, h2⟩ := so_prop lt (i + 1)
    refine ⟨fun q hq => ?_, fun p hp => ?_⟩
    · show inn lt (i + 1) (so lt (i + 1)) q = q
      rw [inn_hi lt _ _ q (by omega)]
      exact h1 q (by omega)
    · show inn lt (i + 1) (so lt (i + 1)) p < i + 2
      refine inn_lt lt _ _ _ (fun q hq => ?_) p (by omega)
      by_cases c : q < i + 1
      · have := h2 q c; omega
      · have := h1 q (by omega); omega
theorem inn_congr {lt lt' : Nat → Nat → Bool} (hl : ∀ x y, y < x → x < 4 → lt x y = lt' x y) : ∀ (j : Nat) (d : Nat → Nat), (∀ p, p < j → d p < d j) → d j < 4 → inn lt j d = inn lt' j d
  | 0, _, _, _ => rfl
  | j + 1, d, h, h4 => by
    rw [inn, inn, hl _ _ (h j (by omega)) h4]
    split
    · refine inn_congr hl j _ (fun p hp => ?_) ?_
      · unfold sw
        rw [if_neg (by omega), if_neg (by omega), if_neg (by omega), if_pos (by omega)]
        exact h p (by omega)
      · unfold sw
        rw [if_neg (by omega), if_pos (by omega)]
        exact h4
    · rfl
theorem so_congr {lt lt' : Nat → Nat → Bool} (hl : ∀ x y, y < x → x < 4 → lt x y = lt' x y) : ∀ i, i ≤ 4 → so lt i = so lt' i
  | 0, _ => rfl
  | 1, _ => rfl
  | i + 2, h => by
    show inn lt (i + 1) (so lt (i + 1)) = inn lt' (i + 1) (so lt' (i + 1))
    rw [← so_congr hl (i + 1) (by omega)]
    obtain ⟨h1, h2⟩ := so_prop lt (i + 1)
    have e := h1 (i + 1) (Nat.le_refl _)
    refine inn_congr hl _ _ (fun p hp => ?_) (by omega)
    have := h2 p hp; omega
theorem f4_congr {f : Nat → Nat} {c c' : Nat → Bool} (hf : ∀ p, p < 4 → f p < 4) (hc : ∀ x, x < 4 → c x = c' x) : f4 f c = f4 f c' := by
  unfold f4
  rw [hc _ (hf 0 (by omega)), hc _ (hf 1 (by omega)), hc _ (hf 2 (by omega)), hc _ (hf 3 (by omega))]
theorem bs_congr2 {c c' : Nat → Bool} {lt lt' : Nat → Nat → Bool} : ∀ {n : Nat}, n ≤ 4 → (∀ b, b < n → c b = c' b) → (∀ x y, y < x → x < 4 → lt x y = lt' x y) → bs c lt n = bs c' lt' n
  | 0, _, _, _ => rfl
  | n + 1, h, hc, hl => by
    have e := bs_congr2 (c := c) (c' := c') (n := n) (by omega) (fun b hb => hc b (by omega)) hl
    rw [bs, bs, stp, stp, ← e, hc n (by omega)]
    rcases bs_cases c lt n (by omega) with ⟨e4, _⟩ | ⟨h1, _⟩
    · rw [e4]; simp
    · rw [hl n (bs c lt n) h1 (by omega)]
theorem mono3_of (a b c : Int) : mono3 (decide (b < a)) (decide (c < b)) (decide (c < a)) = true := by
  by_cases h1 : b < a <;> by_cases h2 : c < b <;> by_cases h3 : c < a <;> simp [mono3, h1, h2, h3] <;> omega
theorem cB_of (c : Nat → Bool) : ∀ x, x < 4 → c x = cB (c 0) (c 1) (c 2) (c 3) x
  | 0, _ => rfl
  | 1, _ => rfl
  | 2, _ => rfl
  | 3, _ => rfl
  | x + 4, h => by omega
theorem ltB_of (lt : Nat → Nat → Bool) : ∀ x y, y < x → x < 4 → lt x y = ltB (lt 1 0) (lt 2 0) (lt 2 1) (lt 3 0) (lt 3 1) (lt 3 2) x y
  | 0, y, h, _ => by omega
  | 1, 0, _, _ => rfl
  | 1, y + 1, h, _ => by omega
  | 2, 0, _, _ => rfl
  | 2, 1, _, _ => rfl
  | 2, y + 2, h, _ => by omega
  | 3, 0, _, _ => rfl
  | 3, 1, _, _ => rfl
  | 3, 2, _, _ => rfl
  | 3, y + 3, h, _ => by omega
  | x + 4, y, _, h => by omega
/-- The first in the order that can is the best of those that can. -/
theorem fst_best (c : Nat → Bool) (L : Nat → Int) (K : Nat → Nat) : fst (so (ltW L K) 4) c 0 = bs c (ltW L K) 4 := by
  rw [fst_f4, so_congr (ltB_of (ltW L K)) 4 (Nat.le_refl _), f4_congr (so_prop _ 4).2 (cB_of c), bs_congr2 (Nat.le_refl 4) (cB_of c) (ltB_of (ltW L K))]
  refine ten _ _ _ _ _ _ ?_ _ _ _ _
  unfold ltW
  rw [mono3_of, mono3_of, mono3_of, mono3_of]
  rfl

/-- Giving. -/
def inc (K : Nat → Nat) (b : Nat) : Nat → Nat := fun i => if i = b then K i + 1 else K i
def giv (L : Nat → Int) : Nat → (Nat → Nat) → Int → Nat → Nat
  | 0, K, _ => K
  | n + 1, K, left => if bst L K left < 4 then giv L n (inc K (bst L K left)) (left - pr (bst L K left) (K (bst L K left))) else K
/-- How many pulses each band has. -/
def given (L : Nat → Int) (bits : Int) : Nat → Nat := giv L 32 (fun _ => 0) bits
theorem giv_stop {L : Nat → Int} {K : Nat → Nat} {left : Int} (h : bst L K left = 4) : ∀ n, giv L n K left = K
  | 0 => rfl
  | n + 1 => by rw [giv, h, if_neg (by omega)]
theorem giv_go {L : Nat → Int} {K : Nat → Nat} {left : Int} {b : Nat} (h : bst L K left = b) (hb : b < 4) (n : Nat) : giv L (n + 1) K left = giv L n (inc K b) (left - pr b (K b)) := by
  rw [giv, h, if_pos hb]
theorem can_iff {L : Nat → Int} {K : Nat → Nat} {left : Int} {b : Nat} : can L K left b = true ↔ L b ≠ 0 ∧ K b < 8 ∧ pr b (K b) ≤ left := by
  unfold can
  rw [Bool.and_eq_true, Bool.and_eq_true, decide_eq_true_eq, decide_eq_true_eq, decide_eq_true_eq, and_assoc]
theorem bst_le (L : Nat → Int) (K : Nat → Nat) (left : Int) : bst L K left ≤ 4 := by
  rcases bs_cases (can L K left) (ltW L K) 4 (Nat.le_refl _) with ⟨e, _⟩ | ⟨h, _⟩
  · exact Nat.le_of_eq e
  · exact Nat.le_of_lt h
theorem bst_can {L : Nat → Int} {K : Nat → Nat} {left : Int} {b : Nat} (h : bst L K left = b) (hb : b < 4) : L b ≠ 0 ∧ K b < 8 ∧ pr b (K b) ≤ left := by
  rcases bs_cases (can L K left) (ltW L K) 4 (Nat.le_refl _) with ⟨e, _⟩ | ⟨_, h2⟩
  · have : bst L K left = 4 := e
    omega
  · have h2' : can L K left (bst L K left) = true := h2
    rw [h] at h2'
    exact can_iff.1 h2'
theorem bst_none {L : Nat → Int} {K : Nat → Nat} {left : Int} (h : bst L K left = 4) {b : Nat} (hb : b < 4) : ¬ (L b ≠ 0 ∧ K b < 8 ∧ pr b (K b) ≤ left) := by
  rcases bs_cases (can L K left) (ltW L K) 4 (Nat.le_refl _) with ⟨_, h2⟩ | ⟨h1, _⟩
  · intro hc
    have := h2 b hb
    rw [can_iff.2 hc] at this
    cases this
  · have : bst L K left < 4 := h1
    omega
theorem pr_bd {b k : Nat} (hb : b < 4) (hk : k < 8) : 0 ≤ pr b k ∧ pr b k ≤ 33 := by
  have h1 := P_mono hb hk
  have h2 := P_le b (k + 1)
  unfold pr
  omega

/-- While pulses are given: n more could be. -/
structure Giv (L : Nat → Int) (bits : Int) (n : Nat) (K : Nat → Nat) (left : Int) : Prop where
  few : ∀ b, K b ≤ 8
  sum : K 0 + K 1 + K 2 + K 3 + n = 32
  lo : 0 ≤ left
  hi : left ≤ bits
  bill : (P 0 (K 0) : Int) + P 1 (K 1) + P 2 (K 2) + P 3 (K 3) + left = bits
  none : ∀ b, L b = 0 → K b = 0
  to : giv L n K left = given L bits
theorem Giv.start (L : Nat → Int) {bits : Int} (h : 0 ≤ bits) : Giv L bits 32 (fun _ => 0) bits :=
  ⟨fun _ => by omega, rfl, h, Int.le_refl _, by rw [P_zero (by omega), P_zero (by omega), P_zero (by omega), P_zero (by omega)]; omega, fun _ _ => rfl, rfl⟩
theorem inc_at (K : Nat → Nat) (b : Nat) : inc K b b = K b + 1 := by unfold inc; rw [if_pos rfl]
theorem inc_ne (K : Nat → Nat) {b i : Nat} (h : i ≠ b) : inc K b i = K i := by unfold inc; rw [if_neg h]
theorem Giv.pos {L : Nat → Int} {bits left : Int} {n : Nat} {K : Nat → Nat} (g : Giv L bits n K left) {b : Nat} (hb : b < 4) (hk : K b < 8) : 0 < n := by
  have h0 := g.few 0
  have h1 := g.few 1
  have h2 := g.few 2
  have h3 := g.few 3
  have hs := g.sum
  have : b = 0 ∨ b = 1 ∨ b = 2 ∨ b = 3 := by omega
  rcases this with rfl | rfl | rfl | rfl <;> omega
theorem Giv.step {L : Nat → Int} {bits left : Int} {n b : Nat} {K : Nat → Nat} (g : Giv L bits (n + 1) K left) (h : bst L K left = b) (hb : b < 4) : Giv L bits n (inc K b) (left - pr b (K b)) := by
  obtain ⟨c1, c2, c3⟩ := bst_can h hb
  obtain ⟨p1, p2⟩ := pr_bd hb c2
  have hbill := g.bill
  have hsum := g.sum
  have hlo := g.lo
  have hhi := g.hi
  refine ⟨fun i => ?_, ?_, by omega, by omega, ?_, fun i hi => ?_, ?_⟩
  · by_cases c : i = b
    · rw [c, inc_at]; omega
    · rw [inc_ne K c]; exact g.few i
  · have : b = 0 ∨ b = 1 ∨ b = 2 ∨ b = 3 := by omega
    unfold inc
    rcases this with rfl | rfl | rfl | rfl <;> simp <;> omega
  · have : b = 0 ∨ b = 1 ∨ b = 2 ∨ b = 3 := by omega
    unfold inc
    unfold pr at *
    rcases this with rfl | rfl | rfl | rfl <;> simp <;> omega
  · by_cases c : i = b
    · rw [c] at hi; exact absurd hi c1
    · rw [inc_ne K c]; exact g.none i hi
  · rw [← giv_go h hb]; exact g.to
theorem Giv.stop {L : Nat → Int} {bits left : Int} {n : Nat} {K : Nat → Nat} (g : Giv L bits n K left) (h : bst L K left = 4) : given L bits = K := by
  rw [← g.to, giv_stop h]

/-- What holds of what all have in the end. -/
structure Fin4 (L : Nat → Int) (bits : Int) (K : Nat → Nat) (left : Int) : Prop where
  few : ∀ b, K b ≤ 8
  lo : 0 ≤ left
  bill : (P 0 (K 0) : Int) + P 1 (K 1) + P 2 (K 2) + P 3 (K 3) + left = bits
  none : ∀ b, L b = 0 → K b = 0
  no : ∀ b, b < 4 → ¬ (L b ≠ 0 ∧ K b < 8 ∧ pr b (K b) ≤ left)
theorem giv_fin {L : Nat → Int} {bits : Int} : ∀ {n : Nat} {K : Nat → Nat} {left : Int}, Giv L bits n K left → ∃ left', Fin4 L bits (given L bits) left'
  | n, K, left, g => by
    by_cases h : bst L K left = 4
    · exact ⟨left, by rw [g.stop h]; exact ⟨g.few, g.lo, g.bill, g.none, fun b hb => bst_none h hb⟩⟩
    · have hb : bst L K left < 4 := by have := bst_le L K left; omega
      have hn := g.pos hb (bst_can rfl hb).2.1
      cases n with
      | zero => omega
      | succ n => exact giv_fin (g.step rfl hb)
termination_by n => n
theorem given_fin (L : Nat → Int) {bits : Int} (h : 0 ≤ bits) : ∃ left, Fin4 L bits (given L bits) left := giv_fin (Giv.start L h)

/-- Levels all greater by as much. -/
theorem giv_more {L M : Nat → Int} {d : Int} (h : ∀ b, b < 4 → L b ≠ 0 ∧ M b ≠ 0 ∧ M b = L b + d) : ∀ (n : Nat) (K : Nat → Nat) (left : Int), giv L n K left = giv M n K left
  | 0, _, _ => rfl
  | n + 1, K, left => by
    have e : bst M K left = bst L K left := by
      unfold bst
      refine bs_congr2 (Nat.le_refl _) (fun b hb => ?_) fun x y hy hx => ?_
      · unfold can
        obtain ⟨h1, h2, _⟩ := h b hb
        rw [decide_eq_true h1, decide_eq_true h2]
      · unfold ltW wI
        have h1 := (h x hx).2.2
        have h2 := (h y (by omega)).2.2
        rw [decide_eq_decide]
        omega
    rw [giv, giv, e, giv_more h n]
theorem given_more {L M : Nat → Int} {d : Int} (h : ∀ b, b < 4 → L b ≠ 0 ∧ M b ≠ 0 ∧ M b = L b + d) (bits : Int) : given L bits = given M bits := giv_more h _ _ _

/-- A band alone. -/
theorem alone {L : Nat → Int} {bits left : Int} {K : Nat → Nat} {b : Nat} (f : Fin4 L bits K left) (hb : b < 4) (hL : L b ≠ 0) (h0 : ∀ i, i < 4 → i ≠ b → L i = 0) :
    (∀ i, i < 4 → i ≠ b → K i = 0) ∧ K b ≤ 8 ∧ (P b (K b) : Int) ≤ bits ∧ ∀ j, K b < j → j ≤ 8 → bits < P b j := by
  have hz : ∀ i, i < 4 → i ≠ b → K i = 0 := fun i hi hn => f.none i (h0 i hi hn)
  have hbill : (P b (K b) : Int) + left = bits := by
    have := f.bill
    have z := fun i (hi : i < 4) (hn : i ≠ b) => show P i (K i) = 0 by rw [hz i hi hn]; exact P_zero hi
    have hc : b = 0 ∨ b = 1 ∨ b = 2 ∨ b = 3 := by omega
    rcases hc with rfl | rfl | rfl | rfl
    · rw [z 1 (by omega) (by omega), z 2 (by omega) (by omega), z 3 (by omega) (by omega)] at this; omega
    · rw [z 0 (by omega) (by omega), z 2 (by omega) (by omega), z 3 (by omega) (by omega)] at this; omega
    · rw [z 0 (by omega) (by omega), z 1 (by omega) (by omega), z 3 (by omega) (by omega)] at this; omega
    · rw [z 0 (by omega) (by omega), z 1 (by omega) (by omega), z 2 (by omega) (by omega)] at this; omega
  have hlo := f.lo
  refine ⟨hz, f.few b, by omega, fun j hj h8 => ?_⟩
  have hno := f.no b hb
  have h1 := P_up (j := K b + 1) hb (show K b + 1 ≤ j by omega) h8
  by_cases c : pr b (K b) ≤ left
  · exact absurd ⟨hL, by omega, c⟩ hno
  · unfold pr at c
    omega
end Go.Proofs.YtfcaigggacgfkaaDoor.Sp
