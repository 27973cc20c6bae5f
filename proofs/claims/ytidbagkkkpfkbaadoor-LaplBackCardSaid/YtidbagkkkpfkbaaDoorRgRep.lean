/- Plain mathematics of a range coder, fourth part: a coder of a size: the last four bytes of low, the bytes ahead of them up to the size, and what is told of the rest. -/
import Derived.Test.YtidbagkkkpfkbaaDoorRgMath3
import Derived.Lib.TrimByte
namespace Go.Proofs.YtidbagkkkpfkbaaDoor.Rg

/-- What a rest is with one byte more: 0: no byte; 1: all 0; 2: all 255; 3: other. -/
def alone (b : Nat) : Nat := if b = 0 then 1 else if b = 255 then 2 else 3
def withR (r b : Nat) : Nat := if r = 0 ∨ r = alone b then alone b else 3

theorem alone_cases (b : Nat) : (b = 0 ∧ alone b = 1) ∨ (b = 255 ∧ alone b = 2) ∨ (b ≠ 0 ∧ b ≠ 255 ∧ alone b = 3) := by
  unfold alone
  by_cases h0 : b = 0
  · rw [if_pos h0]; omega
  · by_cases h1 : b = 255
    · rw [if_neg h0, if_pos h1]; omega
    · rw [if_neg h0, if_neg h1]; omega
theorem withR_le (r b : Nat) : withR r b ≤ 3 := by
  unfold withR
  have := alone_cases b
  split <;> omega

/-- The first m bytes of a number of n bytes. -/
def dgs (L n m : Nat) : List UInt8 := (List.range m).map fun i => UInt8.ofNat (dg L n i)
theorem dgs_length (L n m : Nat) : (dgs L n m).length = m := by unfold dgs; simp
theorem dgs_get (L n m i : Nat) (h : i < m) : (dgs L n m)[i]? = some (UInt8.ofNat (dg L n i)) := by unfold dgs; simp [h]
theorem dgs_succ (L n m : Nat) : dgs L n (m + 1) = dgs L n m ++ [UInt8.ofNat (dg L n m)] := by unfold dgs; rw [List.range_succ, List.map_append]; rfl
theorem dgs_ext {L n L' n' m : Nat} (h : ∀ i, i < m → dg L n i = dg L' n' i) : dgs L n m = dgs L' n' m := by
  unfold dgs
  exact List.map_congr_left fun i hi => by rw [h i (by simpa using hi)]
theorem dgs_shift {L n k m : Nat} (h : m ≤ n) : dgs (L * 256 ^ k) (n + k) m = dgs L n m := dgs_ext fun i hi => by rw [dg_shift (by omega), if_pos (by omega)]
theorem dg_head {L n m i : Nat} (h : i < m) (hm : m ≤ n) : dg L n i = dg (L / 256 ^ (n - m)) m i := by
  unfold dg
  rw [Nat.div_div_eq_div_mul, ← Nat.pow_add, show n - m + (m - 1 - i) = n - 1 - i by omega]
theorem dgs_head {L n m : Nat} (hm : m ≤ n) : dgs L n m = dgs (L / 256 ^ (n - m)) m m := dgs_ext fun _ hi => dg_head hi hm

/-- The bytes between the size and the last four, as a number. -/
def mid (size : Nat) (x : St) : Nat := x.L / 4294967296 % 256 ^ (x.g - size)

def restOk (size : Nat) (x : St) (rest : Nat) : Prop :=
  (rest = 0 ∧ x.g ≤ size) ∨
  (size < x.g ∧ ((rest = 1 ∧ mid size x = 0) ∨ (rest = 2 ∧ mid size x + 1 = 256 ^ (x.g - size)) ∨
    (rest = 3 ∧ mid size x ≠ 0 ∧ (mid size x + 1 = 256 ^ (x.g - size) → x.L % 4294967296 + x.r ≤ 4294967296))))

structure Rep (size : Nat) (x : St) (low : Nat) (bs : List UInt8) (rest : Nat) : Prop where
  low : low = x.L % 4294967296
  bs : bs = dgs x.L (4 + x.g) (min x.g size)
  rest : restOk size x rest

theorem rep_new (size : Nat) : Rep size St.new 0 [] 0 := by
  refine ⟨rfl, ?_, .inl ⟨rfl, Nat.zero_le _⟩⟩
  show [] = dgs 0 (4 + 0) (min 0 size)
  rw [Nat.zero_min]
  rfl

theorem restOk_le {size rest : Nat} {x : St} (h : restOk size x rest) : rest ≤ 3 := by unfold restOk at h; omega

/-- Without a carry. -/
theorem rep_add {size low rest a q : Nat} {x : St} {bs : List UInt8} (h : Rep size x low bs rest) (hq : a + q ≤ x.r) (hc : low + a < 4294967296) : Rep size ⟨x.L + a, q, x.g⟩ (low + a) bs rest := by
  obtain ⟨h1, h2, h3⟩ := h
  have e : (x.L + a) / 4294967296 = x.L / 4294967296 := by omega
  have e2 : ∀ k, (x.L + a) / 256 ^ (4 + k) = x.L / 256 ^ (4 + k) := fun k => by
    rw [Nat.pow_add, ← Nat.div_div_eq_div_mul, ← Nat.div_div_eq_div_mul, show 256 ^ 4 = 4294967296 by rfl, e]
  refine ⟨show low + a = (x.L + a) % 4294967296 by omega, ?_, ?_⟩
  · rw [h2]
    refine dgs_ext fun i hi => ?_
    show dg x.L (4 + x.g) i = dg (x.L + a) (4 + x.g) i
    unfold dg
    rw [show 4 + x.g - 1 - i = 4 + (x.g - 1 - i) by omega, e2]
  · unfold restOk mid at *
    dsimp only
    rw [e]
    rcases h3 with h3 | ⟨h3, h4 | h4 | ⟨h4, h5, h6⟩⟩
    · exact .inl h3
    · exact .inr ⟨h3, .inl h4⟩
    · exact .inr ⟨h3, .inr (.inl h4)⟩
    · exact .inr ⟨h3, .inr (.inr ⟨h4, h5, fun h => by have := h6 h; omega⟩)⟩

/-- What a carry makes of the rest: 3 of 1 and 3, where it goes no further; 1 of 2, and 0 of 0. -/
theorem mod_succ_lt {a m : Nat} (h : a % m + 1 < m) : (a + 1) % m = a % m + 1 ∧ (a + 1) / m = a / m := by
  have h0 : 0 < m := by omega
  have e := Nat.div_add_mod a m
  have e1 : a + 1 = (a % m + 1) + m * (a / m) := by omega
  rw [e1, Nat.add_mul_mod_self_left, Nat.mod_eq_of_lt h, Nat.add_mul_div_left _ _ h0, Nat.div_eq_of_lt h]
  omega
theorem mod_succ_eq {a m : Nat} (h0 : 0 < m) (h : a % m + 1 = m) : (a + 1) % m = 0 ∧ (a + 1) / m = a / m + 1 := by
  have e := Nat.div_add_mod a m
  have e1 : a + 1 = m * (a / m + 1) := by rw [Nat.mul_add, Nat.mul_one]; omega
  rw [e1]
  exact ⟨Nat.mul_mod_right _ _, Nat.mul_div_cancel_left _ h0⟩

theorem carry_stop {size low rest a q : Nat} {x : St} {bs : List UInt8} (h : Rep size x low bs rest) (hl : low ≤ 4294967295) (ha : a ≤ 4294967295) (hq : a + q ≤ x.r) (q1 : 1 ≤ q) (hr : x.r ≤ 4294967295) (hc : 4294967296 ≤ low + a) (hrest : rest = 1 ∨ rest = 3) :
    Rep size ⟨x.L + a, q, x.g⟩ (low + a - 4294967296) bs 3 := by
  obtain ⟨h1, h2, h3⟩ := h
  have e : (x.L + a) / 4294967296 = x.L / 4294967296 + 1 := by omega
  have eg : size < x.g := by unfold restOk at h3; omega
  have hp : 1 < 256 ^ (x.g - size) := Nat.one_lt_two_pow_iff.2 (by omega) |> fun h => Nat.lt_of_lt_of_le h (by rw [pow256]; exact Nat.pow_le_pow_right (by omega) (by omega : x.g - size ≤ 8 * (x.g - size)))
  have hm : mid size x + 1 < 256 ^ (x.g - size) := by
    have hlt : mid size x < 256 ^ (x.g - size) := Nat.mod_lt _ (by omega)
    unfold restOk at h3
    rcases h3 with h3 | ⟨_, h4 | h4 | ⟨h4, h5, h6⟩⟩
    · omega
    · omega
    · omega
    · by_cases he : mid size x + 1 = 256 ^ (x.g - size)
      · have := h6 he; omega
      · omega
  obtain ⟨m1, m2⟩ := mod_succ_lt (show x.L / 4294967296 % 256 ^ (x.g - size) + 1 < 256 ^ (x.g - size) from hm)
  refine ⟨show low + a - 4294967296 = (x.L + a) % 4294967296 by omega, ?_, ?_⟩
  · rw [h2, Nat.min_eq_right (by omega)]
    show dgs x.L (4 + x.g) size = dgs (x.L + a) (4 + x.g) size
    rw [dgs_head (by omega), dgs_head (L := x.L + a) (by omega)]
    rw [show 4 + x.g - size = 4 + (x.g - size) by omega, Nat.pow_add, ← Nat.div_div_eq_div_mul, ← Nat.div_div_eq_div_mul, show 256 ^ 4 = 4294967296 by rfl, e, m2]
  · refine .inr ⟨eg, .inr (.inr ⟨rfl, ?_, fun _ => ?_⟩)⟩
    · unfold mid
      dsimp only
      rw [e, m1]
      omega
    · show (x.L + a) % 4294967296 + q ≤ 4294967296
      omega

theorem carry_goes {size low rest a q : Nat} {x : St} {bs : List UInt8} (h : Rep size x low bs rest) (hl : low ≤ 4294967295) (ha : a ≤ 4294967295) (hc : 4294967296 ≤ low + a) (hrest : rest = 0 ∨ rest = 2) :
    ∃ P n, n = bs.length ∧ bs = dgs P n n ∧ Rep size ⟨x.L + a, q, x.g⟩ (low + a - 4294967296) (dgs (P + 1) n n) (if rest = 2 then 1 else 0) := by
  obtain ⟨h1, h2, h3⟩ := h
  have e : (x.L + a) / 4294967296 = x.L / 4294967296 + 1 := by omega
  refine ⟨x.L / 256 ^ (4 + x.g - min x.g size), min x.g size, by rw [h2, dgs_length], by rw [h2]; exact dgs_head (by omega), show low + a - 4294967296 = (x.L + a) % 4294967296 by omega, ?_, ?_⟩
  · show _ = dgs (x.L + a) (4 + x.g) (min x.g size)
    rw [dgs_head (L := x.L + a) (by omega)]
    congr 1
    unfold restOk at h3
    rw [show 4 + x.g - min x.g size = 4 + (x.g - min x.g size) by omega, Nat.pow_add, ← Nat.div_div_eq_div_mul, ← Nat.div_div_eq_div_mul, show 256 ^ 4 = 4294967296 by rfl, e]
    rcases h3 with h3 | ⟨h3, h4⟩
    · rw [Nat.min_eq_left h3.2, Nat.sub_self, Nat.pow_zero, Nat.div_one, Nat.div_one]
    · rw [Nat.min_eq_right (by omega)]
      have h2' : mid size x + 1 = 256 ^ (x.g - size) := by
        rcases h4 with h4 | h4 | h4
        · omega
        · exact h4.2
        · omega
      exact (mod_succ_eq (Nat.pow_pos (by omega)) h2').2.symm
  · unfold restOk at h3
    rcases h3 with h3 | ⟨h3, h4⟩
    · rw [if_neg (by omega)]
      exact .inl ⟨rfl, h3.2⟩
    · have h2' : mid size x + 1 = 256 ^ (x.g - size) := by
        rcases h4 with h4 | h4 | h4
        · omega
        · exact h4.2
        · omega
      rw [if_pos (by omega)]
      refine .inr ⟨h3, .inl ⟨rfl, ?_⟩⟩
      unfold mid
      dsimp only
      rw [e]
      exact (mod_succ_eq (Nat.pow_pos (by omega)) h2').1

theorem top_byte (L : Nat) : L / 256 ^ 3 % 256 = L % 4294967296 / 16777216 := by
  rw [show 256 ^ 3 = 16777216 by rfl]; omega

/-- One byte further. -/
theorem rep_shift {size low rest : Nat} {x : St} {bs : List UInt8} (h : Rep size x low bs rest) :
    Rep size ⟨x.L * 256, x.r * 256, x.g + 1⟩ (low * 256 % 4294967296) (if bs.length < size then bs ++ [UInt8.ofNat (low / 16777216)] else bs) (if bs.length < size then rest else withR rest (low / 16777216)) := by
  obtain ⟨h1, h2, h3⟩ := h
  have hlen : bs.length = min x.g size := by rw [h2, dgs_length]
  rw [hlen]
  refine ⟨show low * 256 % 4294967296 = x.L * 256 % 4294967296 by omega, ?_, ?_⟩
  · show _ = dgs (x.L * 256) (4 + (x.g + 1)) (min (x.g + 1) size)
    by_cases hg : x.g < size
    · rw [if_pos (by omega), Nat.min_eq_left (by omega), dgs_succ, h2, Nat.min_eq_left (by omega)]
      rw [show x.L * 256 = x.L * 256 ^ 1 by rw [Nat.pow_one], show 4 + (x.g + 1) = 4 + x.g + 1 by omega, dgs_shift (by omega), dg_shift (by omega), if_pos (by omega)]
      unfold dg
      rw [show 4 + x.g - 1 - x.g = 3 by omega, top_byte, h1]
    · rw [if_neg (by omega), h2, Nat.min_eq_right (by omega), Nat.min_eq_right (by omega), show x.L * 256 = x.L * 256 ^ 1 by rw [Nat.pow_one], show 4 + (x.g + 1) = 4 + x.g + 1 by omega, dgs_shift (by omega)]
  · by_cases hg : x.g < size
    · rw [if_pos (by omega)]
      unfold restOk at h3
      exact .inl ⟨by omega, hg⟩
    · rw [if_neg (by omega)]
      have hb := alone_cases (low / 16777216)
      have hw := show withR rest (low / 16777216) = if rest = 0 ∨ rest = alone (low / 16777216) then alone (low / 16777216) else 3 from rfl
      rw [hw]
      have hk : x.g + 1 - size = (x.g - size) + 1 := by omega
      have eR : mid size ⟨x.L * 256, x.r * 256, x.g + 1⟩ = mid size x * 256 + low / 16777216 := by
        unfold mid
        dsimp only
        rw [hk]
        rw [show x.L * 256 / 4294967296 = x.L / 4294967296 * 256 + x.L % 4294967296 / 16777216 by omega, h1]
        generalize x.L / 4294967296 = y
        have ht : x.L % 4294967296 / 16777216 < 256 := by omega
        generalize x.L % 4294967296 / 16777216 = t at *
        have hp : 0 < 256 ^ (x.g - size) := Nat.pow_pos (by omega)
        rw [Nat.pow_succ, Nat.mul_comm (256 ^ (x.g - size)), Nat.mod_mul]
        rw [show (y * 256 + t) % 256 = t by omega, show (y * 256 + t) / 256 = y by omega]
        omega
      have ht : low / 16777216 ≤ 255 := by omega
      refine .inr ⟨show size < x.g + 1 by omega, ?_⟩
      show ((_ : Nat) = 1 ∧ mid size ⟨x.L * 256, x.r * 256, x.g + 1⟩ = 0) ∨ ((_ : Nat) = 2 ∧ mid size ⟨x.L * 256, x.r * 256, x.g + 1⟩ + 1 = 256 ^ (x.g + 1 - size)) ∨
        ((_ : Nat) = 3 ∧ mid size ⟨x.L * 256, x.r * 256, x.g + 1⟩ ≠ 0 ∧ (mid size ⟨x.L * 256, x.r * 256, x.g + 1⟩ + 1 = 256 ^ (x.g + 1 - size) → x.L * 256 % 4294967296 + x.r * 256 ≤ 4294967296))
      rw [eR, hk, Nat.pow_succ]
      have hp : 0 < 256 ^ (x.g - size) := Nat.pow_pos (by omega)
      have hmlt : mid size x < 256 ^ (x.g - size) := Nat.mod_lt _ hp
      unfold restOk at h3
      rcases h3 with ⟨h3, h4⟩ | ⟨h3, h4 | h4 | ⟨h4, h5, h6⟩⟩
      · have ek : x.g - size = 0 := by omega
        rw [ek, Nat.pow_zero] at hmlt ⊢
        rw [if_pos (.inl h3)]
        omega
      · have hbig : 256 ≤ 256 ^ (x.g - size) := by
          have := Nat.pow_le_pow_right (n := 256) (by omega) (show 1 ≤ x.g - size by omega)
          omega
        generalize 256 ^ (x.g - size) = p at *
        rcases hb with ⟨b1, b2⟩ | ⟨b1, b2⟩ | ⟨b1, b2, b3⟩
        · rw [if_pos (.inr (by omega))]; omega
        · rw [if_neg (by omega)]; omega
        · rw [if_neg (by omega)]; omega
      · have hbig : 256 ≤ 256 ^ (x.g - size) := by
          have := Nat.pow_le_pow_right (n := 256) (by omega) (show 1 ≤ x.g - size by omega)
          omega
        generalize 256 ^ (x.g - size) = p at *
        rcases hb with ⟨b1, b2⟩ | ⟨b1, b2⟩ | ⟨b1, b2, b3⟩
        · rw [if_neg (by omega)]; omega
        · rw [if_pos (.inr (by omega))]; omega
        · rw [if_neg (by omega)]; omega
      · have key : mid size x * 256 + low / 16777216 + 1 = 256 ^ (x.g - size) * 256 → x.L * 256 % 4294967296 + x.r * 256 ≤ 4294967296 := fun he => by
          have := h6 (by omega)
          have : low / 16777216 = 255 := by omega
          omega
        generalize 256 ^ (x.g - size) = p at *
        rcases hb with ⟨b1, b2⟩ | ⟨b1, b2⟩ | ⟨b1, b2, b3⟩
        · rw [if_neg (by omega)]; exact .inr (.inr ⟨rfl, by omega, key⟩)
        · rw [if_neg (by omega)]; exact .inr (.inr ⟨rfl, by omega, key⟩)
        · rw [if_pos (.inr (by omega))]; exact .inr (.inr ⟨b3, by omega, key⟩)
end Go.Proofs.YtidbagkkkpfkbaaDoor.Rg
