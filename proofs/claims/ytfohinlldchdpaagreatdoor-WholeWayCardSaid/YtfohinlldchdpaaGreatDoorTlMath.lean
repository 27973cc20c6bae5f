/- The plain mathematics of the tilt: parts, cuts, what is lifted and laid down. -/
namespace Go.Proofs.YtfohinlldchdpaaGreatDoor.Tl

def ct22 (x : Int) : Int := max (-2097152) (min x 2097151)
def ct16 (x : Int) : Int := max (-32768) (min x 32767)
/-- 27853 times it, by 2^15, rounded toward 0. -/
def prt (x : Int) : Int := (27853 * x).tdiv 32768

theorem prt_pos {x : Int} (h : 0 ≤ x) : prt x = 27853 * x / 32768 := by
  unfold prt
  exact Int.tdiv_eq_ediv_of_nonneg (by omega)
theorem prt_neg (x : Int) : prt (-x) = -prt x := by
  unfold prt
  rw [show 27853 * -x = -(27853 * x) by omega, Int.neg_tdiv]
theorem prt_zero : prt 0 = 0 := by decide
theorem ct22_bd (x : Int) : -2097152 ≤ ct22 x ∧ ct22 x ≤ 2097151 := by unfold ct22; omega
theorem ct16_bd (x : Int) : -32768 ≤ ct16 x ∧ ct16 x ≤ 32767 := by unfold ct16; omega
theorem ct22_in {x : Int} (h1 : -2097152 ≤ x) (h2 : x ≤ 2097151) : ct22 x = x := by unfold ct22; omega
theorem ct16_in {x : Int} (h1 : -32768 ≤ x) (h2 : x ≤ 32767) : ct16 x = x := by unfold ct16; omega
theorem ct22_ct22 (x : Int) : ct22 (ct22 x) = ct22 x := by unfold ct22; omega
theorem ct16_ct16 (x : Int) : ct16 (ct16 x) = ct16 x := by unfold ct16; omega

/-- A part is no greater, and has the number's sign. -/
theorem prt_bd {x b : Int} (h1 : -b ≤ x) (h2 : x ≤ b) : -b ≤ prt x ∧ prt x ≤ b := by
  rcases Int.le_total 0 x with h | h
  · rw [prt_pos h]; omega
  · have := prt_neg (-x)
    rw [Int.neg_neg] at this
    rw [this, prt_pos (by omega)]; omega
theorem prt_keep (x : Int) : max (prt x) (-prt x) ≤ max x (-x) ∧ ¬ (prt x > 0 ∧ x < 0) ∧ ¬ (prt x < 0 ∧ x > 0) := by
  rcases Int.le_total 0 x with h | h
  · rw [prt_pos h]; omega
  · have := prt_neg (-x)
    rw [Int.neg_neg] at this
    rw [this, prt_pos (by omega)]; omega

/-- What stands ahead of sample k, to be lifted. -/
def ahS (last : Int) (f : Nat → Int) : Nat → Int
  | 0 => ct22 last
  | k + 1 => ct22 (f k)
def liS (last : Int) (f : Nat → Int) (k : Nat) : Int := ct22 (f k) - prt (ahS last f k)
/-- What came out ahead of sample k, laid down. -/
def outS (last : Int) (f : Nat → Int) : Nat → Int
  | 0 => ct22 last
  | k + 1 => ct22 (ct22 (f k) + prt (outS last f k))
def laS (last : Int) (f : Nat → Int) (k : Nat) : Int := outS last f (k + 1)

theorem ah_bd (last : Int) (f : Nat → Int) (k : Nat) : -2097152 ≤ ahS last f k ∧ ahS last f k ≤ 2097151 := by cases k <;> exact ct22_bd _
theorem out_bd (last : Int) (f : Nat → Int) (k : Nat) : -2097152 ≤ outS last f k ∧ outS last f k ≤ 2097151 := by cases k <;> exact ct22_bd _

theorem li_ext {last : Int} {f g : Nat → Int} {n : Nat} (h : ∀ k, k < n → f k = g k) : ∀ k, k < n → liS last f k = liS last g k := fun k hk => by
  unfold liS
  rw [h k hk]
  cases k with
  | zero => rfl
  | succ k => show _ - prt (ct22 (f k)) = _ - prt (ct22 (g k)); rw [h k (by omega)]
theorem out_ext {last : Int} {f g : Nat → Int} {n : Nat} (h : ∀ k, k < n → f k = g k) : ∀ k, k ≤ n → outS last f k = outS last g k
  | 0, _ => rfl
  | k + 1, hk => by
    show ct22 (ct22 (f k) + prt (outS last f k)) = ct22 (ct22 (g k) + prt (outS last g k))
    rw [h k (by omega), out_ext h k (by omega)]

/-- What was lifted, and laid down behind the same number, is as it was. -/
theorem back {last : Int} {f : Nat → Int} (hl : -32768 ≤ last ∧ last ≤ 32767) (hf : ∀ k, -32768 ≤ f k ∧ f k ≤ 32767) : ∀ k, outS last (liS last f) k = ahS last f k
  | 0 => rfl
  | k + 1 => by
    show ct22 (ct22 (liS last f k) + prt (outS last (liS last f) k)) = ct22 (f k)
    rw [back hl hf k]
    unfold liS
    have h1 : -32768 ≤ ahS last f k ∧ ahS last f k ≤ 32767 := by
      cases k with
      | zero => show -32768 ≤ ct22 last ∧ ct22 last ≤ 32767; unfold ct22; omega
      | succ k => show -32768 ≤ ct22 (f k) ∧ ct22 (f k) ≤ 32767; have := hf k; unfold ct22; omega
    have h2 := prt_bd (b := 32768) (by omega) (show ahS last f k ≤ 32768 by omega)
    have h3 := hf k
    generalize prt (ahS last f k) = p at *
    generalize f k = x at *
    unfold ct22
    omega

/-- The same samples from k on, behind the one ahead of them. -/
theorem parts {last from' : Int} {f t : Nat → Int} {k : Nat} (hfrom : ct22 from' = ahS last f k) (ht : ∀ i, i + k < 16 → t i = f (i + k)) (i : Nat) (hi : i + k < 16) : liS from' t i = liS last f (i + k) := by
  unfold liS
  rw [ht i hi]
  cases i with
  | zero => rw [Nat.zero_add]; show _ - prt (ct22 from') = _; rw [hfrom]
  | succ i =>
    rw [show i + 1 + k = i + k + 1 by omega]
    show _ - prt (ct22 (t i)) = _ - prt (ct22 (f (i + k)))
    rw [ht i (by omega)]

/-- Of nothing, laid down: part of part .. -/
def dieS (n : Int) : Nat → Int
  | 0 => n
  | k + 1 => prt (dieS n k)
theorem die_bd {n : Int} (h : -2097152 ≤ n ∧ n ≤ 2097151) : ∀ k, -2097152 ≤ dieS n k ∧ dieS n k ≤ 2097151
  | 0 => h
  | k + 1 => by
    have := die_bd h k
    show -2097152 ≤ prt (dieS n k) ∧ prt (dieS n k) ≤ 2097151
    rcases Int.le_total 0 (dieS n k) with h' | h'
    · have := prt_pos h'; omega
    · have h2 := prt_neg (-dieS n k)
      rw [Int.neg_neg] at h2
      have := prt_pos (show 0 ≤ -dieS n k by omega)
      omega
theorem die_add (n : Int) (j : Nat) : ∀ k, dieS (dieS n j) k = dieS n (j + k)
  | 0 => rfl
  | k + 1 => by show prt (dieS (dieS n j) k) = prt (dieS n (j + k)); rw [die_add n j k]
theorem out_zero {n : Int} (h : -2097152 ≤ n ∧ n ≤ 2097151) : ∀ k, outS n (fun _ => 0) k = dieS n k
  | 0 => ct22_in h.1 h.2
  | k + 1 => by
    show ct22 (ct22 0 + prt (outS n (fun _ => 0) k)) = prt (dieS n k)
    rw [out_zero h k]
    have := die_bd h (k + 1)
    have e : dieS n (k + 1) = prt (dieS n k) := rfl
    rw [e] at this
    rw [show ct22 0 = 0 by decide, Int.zero_add]
    exact ct22_in this.1 this.2
def dieB : Nat → Nat
  | 0 => 2097152
  | k + 1 => 27853 * dieB k / 32768
theorem die_le {n : Int} (h : -2097152 ≤ n ∧ n ≤ 2097151) : ∀ k, -(dieB k : Int) ≤ dieS n k ∧ dieS n k ≤ (dieB k : Int)
  | 0 => by show -((2097152 : Nat) : Int) ≤ n ∧ n ≤ ((2097152 : Nat) : Int); omega
  | k + 1 => by
    have := die_le h k
    show -((27853 * dieB k / 32768 : Nat) : Int) ≤ prt (dieS n k) ∧ prt (dieS n k) ≤ ((27853 * dieB k / 32768 : Nat) : Int)
    rcases Int.le_total 0 (dieS n k) with h' | h'
    · rw [prt_pos h']; omega
    · have h2 := prt_neg (-dieS n k)
      rw [Int.neg_neg] at h2
      rw [h2, prt_pos (show 0 ≤ -dieS n k by omega)]
      omega
theorem dies {n : Int} (h : -2097152 ≤ n ∧ n ≤ 2097151) : dieS n 320 = 0 := by
  have h1 := die_le h 320
  have h2 : dieB 320 = 0 := by decide +kernel
  rw [h2] at h1
  omega
end Go.Proofs.YtfohinlldchdpaaGreatDoor.Tl
