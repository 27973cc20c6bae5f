/- Texts of the walk, one behind the other. -/
import Derived.Lib.BitFns

section
/- Plain mathematics of the bands: their places, sizes of waves, sums, what fills a band. -/
namespace Go.Proofs.YtfohinlldchdpaaGreatDoor.Lv

def fs : Nat → Nat
  | 0 => 0
  | 1 => 2
  | 2 => 4
  | 3 => 8
  | _ => 16
/-- The band b's first wave, and that behind its last one; 0 of no band. -/
def lo (b : Int) : Nat := if 0 ≤ b ∧ b < 4 then fs b.toNat else 0
def hi (b : Int) : Nat := if 0 ≤ b ∧ b < 4 then fs (b.toNat + 1) else 0
theorem band_cases (b : Int) : (¬ (0 ≤ b ∧ b < 4) ∧ lo b = 0 ∧ hi b = 0) ∨ (0 ≤ b ∧ b < 4 ∧ lo b < hi b ∧ hi b ≤ 16) := by
  unfold lo hi
  by_cases h : 0 ≤ b ∧ b < 4
  · rw [if_pos h, if_pos h]
    refine .inr ⟨h.1, h.2, ?_⟩
    have : b = 0 ∨ b = 1 ∨ b = 2 ∨ b = 3 := by omega
    rcases this with rfl | rfl | rfl | rfl <;> decide
  · rw [if_neg h, if_neg h]; exact .inl ⟨h, rfl, rfl⟩
theorem lo_nat (b : Nat) (h : b < 4) : lo b = fs b := by unfold lo; rw [if_pos (by omega)]; rfl
theorem hi_nat (b : Nat) (h : b < 4) : hi b = fs (b + 1) := by unfold hi; rw [if_pos (by omega)]; rfl

/-- A number without its sign, 2^40 at most. -/
def sz (x : Int) : Int := if x < -1099511627776 ∨ 1099511627776 < x then 1099511627776 else if x < 0 then -x else x
def hld (x b : Int) : Int := max (-b) (min x b)
def uns (x : Int) : Int := max x (-x)
theorem sz_bd (x : Int) : 0 ≤ sz x ∧ sz x ≤ 1099511627776 := by unfold sz; split <;> (try split) <;> omega
theorem uns_hld (x : Int) : uns (hld x 1099511627776) = sz x := by unfold uns hld sz; split <;> (try split) <;> omega
theorem hld_bd (x b : Int) (h : 0 ≤ b) : -b ≤ hld x b ∧ hld x b ≤ b := by unfold hld; omega

def sm (g : Nat → Int) : Nat → Int
  | 0 => 0
  | n + 1 => sm g n + g n
theorem sm_bd (g : Nat → Int) (B : Int) (h : ∀ i, 0 ≤ g i ∧ g i ≤ B) : ∀ n : Nat, 0 ≤ sm g n ∧ sm g n ≤ n * B
  | 0 => by simp [sm]
  | n + 1 => by
    have h1 := sm_bd g B h n
    have h2 := h n
    have e : ((n + 1 : Nat) : Int) * B = n * B + B := by rw [Int.natCast_add, Int.add_mul]; simp
    simp only [sm]
    rw [e]
    omega
theorem sm_ext (f g : Nat → Int) : ∀ n, (∀ i, i < n → f i = g i) → sm f n = sm g n
  | 0, _ => rfl
  | n + 1, h => by simp only [sm]; rw [sm_ext f g n fun i hi => h i (by omega), h n (by omega)]

/-- The level of n waves. -/
def lv (f : Nat → Int) (n : Nat) : Int := min ((Lib.bitLen (sm (fun i => sz (f i)) n).natAbs : Nat) : Int) 20
theorem lv_ext (f g : Nat → Int) (n : Nat) (h : ∀ i, i < n → sz (f i) = sz (g i)) : lv f n = lv g n := by unfold lv; rw [sm_ext _ _ n h]
/-- The level of the band b of a frame. -/
def lvB (f : Nat → Int) (b : Nat) : Int := lv (fun i => f (fs b + i)) (fs (b + 1) - fs b)

/-- Are all pulses such as may be? -/
def okY (y : Nat → Int) : Nat → Bool
  | 0 => true
  | n + 1 => okY y n && decide (-8 ≤ y n ∧ y n ≤ 8)
theorem okY_iff (y : Nat → Int) : ∀ n, okY y n = true ↔ ∀ i, i < n → -8 ≤ y i ∧ y i ≤ 8
  | 0 => by simp [okY]
  | n + 1 => by
    simp only [okY, Bool.and_eq_true, decide_eq_true_eq, okY_iff y n]
    constructor
    · intro h i hi
      by_cases e : i = n
      · subst e; exact h.2
      · exact h.1 i (by omega)
    · intro h; exact ⟨fun i hi => h i (by omega), h n (by omega)⟩
/-- How many pulses there are, 0 of such as may not be. -/
def cnt (y : Nat → Int) (n : Nat) : Int := if n ≤ 8 ∧ okY y n = true then sm (fun i => uns (y i)) n else 0
theorem uns_bd {x : Int} (h1 : -8 ≤ x) (h2 : x ≤ 8) : 0 ≤ uns x ∧ uns x ≤ 8 := by unfold uns; omega
theorem smu_bd (y : Nat → Int) : ∀ n, okY y n = true → 0 ≤ sm (fun i => uns (y i)) n ∧ sm (fun i => uns (y i)) n ≤ 8 * n
  | 0, _ => by simp [sm]
  | n + 1, h => by
    have h' := (okY_iff y (n + 1)).1 h
    have h1 := smu_bd y n ((okY_iff y n).2 fun i hi => h' i (by omega))
    have h2 := uns_bd (h' n (by omega)).1 (h' n (by omega)).2
    simp only [sm]
    omega
theorem cnt_bd (y : Nat → Int) (n : Nat) : 0 ≤ cnt y n ∧ cnt y n ≤ 64 := by
  unfold cnt
  by_cases h : n ≤ 8 ∧ okY y n = true
  · rw [if_pos h]; have := smu_bd y n h.2; omega
  · rw [if_neg h]; omega

/-- A band's wave. -/
def flv (l k x : Int) : Int := (x * (3 * 2 ^ l.toNat)).tdiv (4 * k)
def fl (l : Int) (y : Nat → Int) (n i : Nat) : Int := if l < 1 ∨ 20 < l ∨ cnt y n = 0 then 0 else flv l (cnt y n) (y i)
theorem fl_off {l : Int} {y : Nat → Int} {n : Nat} (h : l < 1 ∨ 20 < l ∨ cnt y n = 0) (i : Nat) : fl l y n i = 0 := if_pos h
theorem fl_on {l : Int} {y : Nat → Int} {n : Nat} (h : ¬ (l < 1 ∨ 20 < l ∨ cnt y n = 0)) (i : Nat) : fl l y n i = flv l (cnt y n) (y i) := if_neg h
theorem mul_bd (a b c d : Int) (h1 : -c ≤ a) (h2 : a ≤ c) (h3 : -d ≤ b) (h4 : b ≤ d) : -(c * d) ≤ a * b ∧ a * b ≤ c * d := by
  have p1 := Int.mul_nonneg (show 0 ≤ c - a by omega) (show 0 ≤ d - b by omega)
  have p2 := Int.mul_nonneg (show 0 ≤ c + a by omega) (show 0 ≤ d + b by omega)
  have p3 := Int.mul_nonneg (show 0 ≤ c - a by omega) (show 0 ≤ d + b by omega)
  have p4 := Int.mul_nonneg (show 0 ≤ c + a by omega) (show 0 ≤ d - b by omega)
  rw [Int.sub_mul, Int.mul_sub, Int.mul_sub] at p1
  rw [Int.add_mul, Int.mul_add, Int.mul_add] at p2
  rw [Int.sub_mul, Int.mul_add, Int.mul_add] at p3
  rw [Int.add_mul, Int.mul_sub, Int.mul_sub] at p4
  omega

theorem pow_bd {k m : Nat} (h : k ≤ m) : (1 : Int) ≤ 2 ^ k ∧ (2 : Int) ^ k ≤ 2 ^ m := by
  have h1 : 1 ≤ 2 ^ k := Nat.one_le_two_pow
  have h2 : 2 ^ k ≤ 2 ^ m := Nat.pow_le_pow_right (by omega) h
  exact ⟨by exact_mod_cast h1, by exact_mod_cast h2⟩
end Go.Proofs.YtfohinlldchdpaaGreatDoor.Lv
end

section
/- Plain mathematics of filled bands: signs, sizes, sums. -/
namespace Go.Proofs.YtfohinlldchdpaaGreatDoor.Lv
set_option linter.unusedVariables false

theorem tmod9_bd (x : Int) : -8 ≤ x.tmod 9 ∧ x.tmod 9 ≤ 8 := by
  rcases Int.le_total 0 x with h | h
  · rw [Int.tmod_eq_emod_of_nonneg h]; omega
  · have e := Int.neg_tmod (-x) 9
    rw [Int.neg_neg] at e
    rw [e, Int.tmod_eq_emod_of_nonneg (by omega)]; omega
/-- The pulses that the statements make. -/
def pS (y : Nat → Int) (i : Nat) : Int := (y i).tmod 9
theorem pS_bd (y : Nat → Int) (i : Nat) : -8 ≤ pS y i ∧ pS y i ≤ 8 := tmod9_bd (y i)
theorem ok_pS (y : Nat → Int) (n : Nat) : okY (pS y) n = true := (okY_iff _ _).2 fun i _ => pS_bd y i
def nS (y : Nat → Int) (i : Nat) : Int := -pS y i
theorem ok_nS (y : Nat → Int) (n : Nat) : okY (nS y) n = true := (okY_iff _ _).2 fun i _ => by have := pS_bd y i; unfold nS; omega

theorem flv_pos (l k x : Int) (hk : 1 ≤ k) (hx : 0 ≤ x) : flv l k x = (x * (3 * 2 ^ l.toNat)) / (4 * k) := by
  have hp := (pow_bd (Nat.le_refl l.toNat)).1
  unfold flv
  rw [Int.tdiv_eq_ediv_of_nonneg]
  exact Int.mul_nonneg hx (by omega)
theorem flv_neg (l k x : Int) : flv l k (-x) = -flv l k x := by
  unfold flv
  rw [Int.neg_mul, Int.neg_tdiv]
theorem flv_uns (l k x : Int) (hk : 1 ≤ k) : uns (flv l k x) = (uns x * (3 * 2 ^ l.toNat)) / (4 * k) := by
  have hp := (pow_bd (Nat.le_refl l.toNat)).1
  have key : ∀ z : Int, 0 ≤ z → 0 ≤ (z * (3 * 2 ^ l.toNat)) / (4 * k) := fun z hz => Int.ediv_nonneg (Int.mul_nonneg hz (by omega)) (by omega)
  rcases Int.le_total 0 x with h | h
  · rw [flv_pos l k x hk h]
    have := key x h
    rw [show uns x = x by unfold uns; omega]
    unfold uns; omega
  · have e := flv_neg l k (-x)
    rw [Int.neg_neg] at e
    rw [e, flv_pos l k (-x) hk (by omega), show uns x = -x by unfold uns; omega]
    have := key (-x) (by omega)
    unfold uns; omega
theorem flv_sign (l k x : Int) (hk : 1 ≤ k) : (flv l k x < 0 → x < 0) ∧ (0 < flv l k x → 0 < x) := by
  have hp := (pow_bd (Nat.le_refl l.toNat)).1
  refine ⟨fun h => ?_, fun h => ?_⟩
  · rcases (show x < 0 ∨ 0 ≤ x by omega) with c | c
    · exact c
    · rw [flv_pos l k x hk c] at h
      have := Int.ediv_nonneg (Int.mul_nonneg c (show (0 : Int) ≤ 3 * 2 ^ l.toNat by omega)) (show (0 : Int) ≤ 4 * k by omega)
      omega
  · rcases (show 0 < x ∨ x ≤ 0 by omega) with c | c
    · exact c
    · have e := flv_neg l k (-x)
      rw [Int.neg_neg] at e
      rw [e, flv_pos l k (-x) hk (by omega)] at h
      have := Int.ediv_nonneg (Int.mul_nonneg (show (0 : Int) ≤ -x by omega) (show (0 : Int) ≤ 3 * 2 ^ l.toNat by omega)) (show (0 : Int) ≤ 4 * k by omega)
      omega
theorem div_both (t d : Int) (hd : 0 < d) : d * (t / d) ≤ t ∧ t < d * (t / d) + d := by
  have h1 := Int.mul_ediv_add_emod t d
  have h2 := Int.emod_nonneg t (show d ≠ 0 by omega)
  have h3 := Int.emod_lt_of_pos t hd
  omega

/-- The sum of a filled band, against its pulses. -/
theorem sum_both (l k : Int) (y : Nat → Int) (hk : 1 ≤ k) : ∀ n : Nat,
    4 * k * sm (fun i => uns (flv l k (y i))) n ≤ 3 * 2 ^ l.toNat * sm (fun i => uns (y i)) n ∧
    3 * 2 ^ l.toNat * sm (fun i => uns (y i)) n ≤ 4 * k * sm (fun i => uns (flv l k (y i))) n + n * (4 * k)
  | 0 => by simp [sm]
  | n + 1 => by
    obtain ⟨h1, h2⟩ := sum_both l k y hk n
    obtain ⟨d1, d2⟩ := div_both (uns (y n) * (3 * 2 ^ l.toNat)) (4 * k) (by omega)
    rw [← flv_uns l k (y n) hk, Int.mul_comm (uns (y n))] at d1 d2
    simp only [sm]
    rw [Int.mul_add, Int.mul_add, Int.natCast_add, Int.add_mul]
    simp only [Int.cast_ofNat_Int, Int.one_mul]
    omega
theorem smu_nonneg (g : Nat → Int) (h : ∀ i, 0 ≤ g i) : ∀ n, 0 ≤ sm g n
  | 0 => Int.le_refl _
  | n + 1 => by have := smu_nonneg g h n; have := h n; simp only [sm]; omega
theorem uns_nonneg (x : Int) : 0 ≤ uns x := by unfold uns; omega

/-- What a filled band's sum is, where it has pulses. -/
theorem sum_fill (l : Int) (y : Nat → Int) (n : Nat) (h8 : n ≤ 8) (hy : okY y n = true) (h : ¬ (l < 1 ∨ 20 < l ∨ cnt y n = 0)) :
    0 ≤ sm (fun i => uns (fl l y n i)) n ∧ 4 * sm (fun i => uns (fl l y n i)) n ≤ 3 * 2 ^ l.toNat ∧ 3 * 2 ^ l.toNat ≤ 4 * sm (fun i => uns (fl l y n i)) n + 32 := by
  have hc : cnt y n = sm (fun i => uns (y i)) n := by unfold cnt; rw [if_pos ⟨h8, hy⟩]
  have hk : 1 ≤ cnt y n := by have := cnt_bd y n; omega
  have e : sm (fun i => uns (fl l y n i)) n = sm (fun i => uns (flv l (cnt y n) (y i))) n := sm_ext _ _ n fun i _ => by rw [fl_on h]
  obtain ⟨h1, h2⟩ := sum_both l (cnt y n) y hk n
  rw [← hc] at h1 h2
  have h0 := smu_nonneg (fun i => uns (flv l (cnt y n) (y i))) (fun i => uns_nonneg _) n
  rw [e]
  generalize sm (fun i => uns (flv l (cnt y n) (y i))) n = S at *
  generalize cnt y n = K at *
  generalize (2 : Int) ^ l.toNat = p at *
  refine ⟨h0, Int.le_of_mul_le_mul_right (a := K) ?_ (by omega), Int.le_of_mul_le_mul_right (a := K) ?_ (by omega)⟩
  · rw [Int.mul_right_comm]; exact h1
  · rw [Int.add_mul, Int.mul_right_comm 4 S K]
    have : (n : Int) * (4 * K) ≤ 8 * (4 * K) := Int.mul_le_mul_of_nonneg_right (by omega) (by omega)
    omega
theorem sum_none (l : Int) (y : Nat → Int) (n : Nat) (h : l < 1 ∨ 20 < l ∨ cnt y n = 0) : ∀ m, sm (fun i => uns (fl l y n i)) m = 0
  | 0 => rfl
  | m + 1 => by simp only [sm]; rw [sum_none l y n h m, fl_off h]; rfl
theorem fl_sign (l : Int) (y : Nat → Int) (n i : Nat) : (fl l y n i < 0 → y i < 0) ∧ (0 < fl l y n i → 0 < y i) := by
  by_cases h : l < 1 ∨ 20 < l ∨ cnt y n = 0
  · rw [fl_off h]; omega
  · rw [fl_on h]
    exact flv_sign l _ _ (by have := cnt_bd y n; omega)
theorem fl_bd (l : Int) (y : Nat → Int) (n i : Nat) (hi : i < n) : -25165824 ≤ fl l y n i ∧ fl l y n i ≤ 25165824 := by
  by_cases h : l < 1 ∨ 20 < l ∨ cnt y n = 0
  · rw [fl_off h]; omega
  · rw [fl_on h]
    have hy : -8 ≤ y i ∧ y i ≤ 8 := by
      have hc : cnt y n ≠ 0 := by omega
      unfold cnt at hc
      by_cases hh : n ≤ 8 ∧ okY y n = true
      · exact (okY_iff y n).1 hh.2 i hi
      · rw [if_neg hh] at hc; exact absurd rfl hc
    have hp := pow_bd (show l.toNat ≤ 20 by omega)
    simp only [Int.reducePow] at hp
    obtain ⟨m1, m2⟩ := mul_bd (y i) (3 * 2 ^ l.toNat) 8 3145728 hy.1 hy.2 (by omega) (by omega)
    unfold flv
    have e := Int.natAbs_tdiv (y i * (3 * 2 ^ l.toNat)) (4 * cnt y n)
    have : (y i * (3 * 2 ^ l.toNat)).natAbs.div (4 * cnt y n).natAbs ≤ (y i * (3 * 2 ^ l.toNat)).natAbs := Nat.div_le_self _ _
    omega

theorem smf_bd (l : Int) (y : Nat → Int) (n : Nat) : ∀ j : Nat, j ≤ n → sm (fun i => uns (fl l y n i)) j ≤ 25165824 * j
  | 0, _ => by simp [sm]
  | j + 1, h => by
    have h1 := smf_bd l y n j (by omega)
    have h2 := fl_bd l y n j (by omega)
    simp only [sm, uns]
    simp only [uns] at h1
    omega

/-- Pulses of the other sign. -/
theorem cnt_neg (y : Nat → Int) (n : Nat) : cnt (nS y) n = cnt (pS y) n := by
  unfold cnt
  rw [ok_nS, ok_pS]
  have : sm (fun i => uns (nS y i)) n = sm (fun i => uns (pS y i)) n := sm_ext _ _ n fun i _ => by unfold nS uns; omega
  rw [this]
theorem fl_neg (l : Int) (y : Nat → Int) (n i : Nat) : fl l (pS y) n i = -fl l (nS y) n i := by
  unfold fl
  rw [cnt_neg]
  by_cases h : l < 1 ∨ 20 < l ∨ cnt (pS y) n = 0
  · rw [if_pos h, if_pos h]; rfl
  · rw [if_neg h, if_neg h]
    unfold nS
    rw [flv_neg, Int.neg_neg]
/-- A level more. -/
theorem fl_more (l : Int) (y : Nat → Int) (n i : Nat) (h0 : 0 < l) (h1 : l < 20) : 2 * uns (fl l y n i) ≤ uns (fl (l + 1) y n i) ∧ uns (fl (l + 1) y n i) ≤ 2 * uns (fl l y n i) + 1 := by
  by_cases hc : cnt y n = 0
  · rw [fl_off (.inr (.inr hc)), fl_off (.inr (.inr hc))]; decide
  · have hk : 1 ≤ cnt y n := by have := cnt_bd y n; omega
    rw [fl_on (by omega), fl_on (by omega), flv_uns _ _ _ hk, flv_uns _ _ _ hk]
    have e : (2 : Int) ^ (l + 1).toNat = 2 * 2 ^ l.toNat := by rw [show (l + 1).toNat = l.toNat + 1 by omega, Int.pow_succ, Int.mul_comm]
    rw [e]
    generalize (2 : Int) ^ l.toNat = p
    generalize uns (y i) = u
    generalize cnt y n = K at *
    have e2 : u * (3 * (2 * p)) = 2 * (u * (3 * p)) := by rw [Int.mul_left_comm 3 2 p, Int.mul_left_comm u 2 (3 * p)]
    rw [e2]
    generalize u * (3 * p) = t
    obtain ⟨a1, a2⟩ := div_both t (4 * K) (by omega)
    obtain ⟨b1, b2⟩ := div_both (2 * t) (4 * K) (by omega)
    generalize t / (4 * K) = A at *
    generalize (2 * t) / (4 * K) = C at *
    refine ⟨?_, ?_⟩
    · by_cases h : 2 * A ≤ C
      · exact h
      · have : 4 * K * (C + 1) ≤ 4 * K * (2 * A) := Int.mul_le_mul_of_nonneg_left (by omega) (by omega)
        rw [Int.mul_add, Int.mul_left_comm (4 * K) 2 A] at this
        omega
    · by_cases h : C ≤ 2 * A + 1
      · exact h
      · have : 4 * K * (2 * A + 2) ≤ 4 * K * C := Int.mul_le_mul_of_nonneg_left (by omega) (by omega)
        rw [Int.mul_add, Int.mul_left_comm (4 * K) 2 A] at this
        omega
end Go.Proofs.YtfohinlldchdpaaGreatDoor.Lv
end
