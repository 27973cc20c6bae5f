/- Plain mathematics of a range coder, fifth part: all of a coder's bytes, without the zero ones at the end, and filled up. -/
import Derived.Test.YtidbagkkkpfkbaaDoorRgRep
namespace Go.Proofs.YtidbagkkkpfkbaaDoor.Rg

/-- The last four bytes. -/
def lowB (low : Nat) : List UInt8 := [UInt8.ofNat (low / 16777216), UInt8.ofNat (low / 65536 % 256), UInt8.ofNat (low / 256 % 256), UInt8.ofNat (low % 256)]
/-- All bytes. -/
def St.all (x : St) : List UInt8 := dgs x.L (4 + x.g) (4 + x.g)
/-- All bytes but the zero ones at the end. -/
def St.trim (x : St) : List UInt8 := Lib.trimRightB x.all 0
/-- The bytes of a size. -/
def St.text (x : St) (size : Nat) : List UInt8 := x.trim ++ List.replicate (size - x.trim.length) 0

theorem dgs_add (L n a b : Nat) : dgs L n (a + b) = dgs L n a ++ (List.range b).map fun i => UInt8.ofNat (dg L n (a + i)) := by
  unfold dgs
  rw [List.range_add, List.map_append, List.map_map]
  rfl
theorem dgs_low (L g : Nat) : dgs L (4 + g) (g + 4) = dgs L (4 + g) g ++ lowB (L % 4294967296) := by
  rw [dgs_add]
  congr 1
  unfold lowB dg
  simp only [List.range_succ, List.range_zero, List.nil_append, List.map_cons, List.map_nil, List.cons_append]
  rw [show 4 + g - 1 - (g + 0) = 3 by omega, show 4 + g - 1 - (g + 1) = 2 by omega, show 4 + g - 1 - (g + 2) = 1 by omega, show 4 + g - 1 - (g + 3) = 0 by omega]
  simp only [Nat.reducePow, Nat.div_one]
  rw [show L % 4294967296 / 16777216 = L / 16777216 % 256 by omega, show L % 4294967296 / 65536 % 256 = L / 65536 % 256 by omega, show L % 4294967296 / 256 % 256 = L / 256 % 256 by omega, show L % 4294967296 % 256 = L % 256 by omega]

def zeros (l : List UInt8) : Prop := ∀ b ∈ l, b = 0
theorem zeros_replicate (n : Nat) : zeros (List.replicate n 0) := fun _ hb => (List.mem_replicate.1 hb).2
theorem trim_nil : Lib.trimRightB [] 0 = [] := rfl
theorem trim_zero_end (l : List UInt8) : Lib.trimRightB (l ++ [0]) 0 = Lib.trimRightB l 0 := by
  unfold Lib.trimRightB
  rw [List.reverse_append]
  simp
theorem trim_other_end (l : List UInt8) {b : UInt8} (h : b ≠ 0) : Lib.trimRightB (l ++ [b]) 0 = l ++ [b] := by
  unfold Lib.trimRightB
  rw [List.reverse_append]
  simp [h]
theorem snoc_cases {α : Type} (l : List α) : l = [] ∨ ∃ m b, l = m ++ [b] := by
  rcases List.eq_nil_or_concat l with h | ⟨m, b, h⟩
  · exact .inl h
  · exact .inr ⟨m, b, by rw [h, List.concat_eq_append]⟩
theorem trim_zeros : ∀ (n : Nat) (l1 l2 : List UInt8), l2.length = n → zeros l2 → Lib.trimRightB (l1 ++ l2) 0 = Lib.trimRightB l1 0
  | 0, l1, l2, hn, _ => by
    have : l2 = [] := List.eq_nil_of_length_eq_zero hn
    rw [this, List.append_nil]
  | n + 1, l1, l2, hn, hz => by
    rcases snoc_cases l2 with rfl | ⟨m, b, rfl⟩
    · simp at hn
    · have hb : b = 0 := hz b (by simp)
      subst hb
      rw [← List.append_assoc, trim_zero_end]
      exact trim_zeros n l1 m (by simpa using hn) fun c hc => hz c (by simp [hc])
theorem trim_le : ∀ (n : Nat) (l : List UInt8), l.length = n → (Lib.trimRightB l 0).length ≤ l.length
  | 0, l, hn => by
    have : l = [] := List.eq_nil_of_length_eq_zero hn
    subst this
    exact Nat.le_refl _
  | n + 1, l, hn => by
    rcases snoc_cases l with rfl | ⟨m, b, rfl⟩
    · simp at hn
    · by_cases hb : b = 0
      · subst hb
        rw [trim_zero_end]
        have := trim_le n m (by simpa using hn)
        simp; omega
      · rw [trim_other_end _ hb]
        exact Nat.le_refl _
theorem trim_long : ∀ (n : Nat) (l1 l2 : List UInt8), l2.length = n → ¬ zeros l2 → l1.length < (Lib.trimRightB (l1 ++ l2) 0).length
  | 0, l1, l2, hn, h => by
    have : l2 = [] := List.eq_nil_of_length_eq_zero hn
    subst this
    exact absurd (fun b hb => by cases hb) h
  | n + 1, l1, l2, hn, h => by
    rcases snoc_cases l2 with rfl | ⟨m, b, rfl⟩
    · simp at hn
    · rw [← List.append_assoc]
      by_cases hb : b = 0
      · subst hb
        rw [trim_zero_end]
        refine trim_long n l1 m (by simpa using hn) fun hm => h fun c hc => ?_
        rcases List.mem_append.1 hc with hc | hc
        · exact hm c hc
        · simpa using hc
      · rw [trim_other_end _ hb]
        simp
/-- What stands at a place is the same without the zero bytes at the end. -/
theorem trim_getD : ∀ (n : Nat) (l : List UInt8), l.length = n → ∀ i, (Lib.trimRightB l 0).getD i 0 = l.getD i 0
  | 0, l, hn, i => by
    have : l = [] := List.eq_nil_of_length_eq_zero hn
    subst this
    rfl
  | n + 1, l, hn, i => by
    rcases snoc_cases l with rfl | ⟨m, b, rfl⟩
    · simp at hn
    · by_cases hb : b = 0
      · subst hb
        rw [trim_zero_end, trim_getD n m (by simpa using hn) i]
        simp only [List.getD_eq_getElem?_getD]
        by_cases hi : i < m.length
        · rw [List.getElem?_append_left hi]
        · rw [List.getElem?_append_right (by omega), List.getElem?_eq_none (by omega)]
          by_cases h0 : i - m.length = 0
          · rw [h0]; rfl
          · rw [List.getElem?_eq_none (by simp; omega)]
      · rw [trim_other_end _ hb]

theorem mid_zeros {size : Nat} {x : St} (hg : size < x.g) : (zeros ((List.range (x.g - size)).map fun i => UInt8.ofNat (dg x.L (4 + x.g) (size + i)))) ↔ mid size x = 0 := by
  have key : ∀ (k P : Nat), (∀ i, i < k → P / 256 ^ (k - 1 - i) % 256 = 0) ↔ P % 256 ^ k = 0 := by
    intro k
    induction k with
    | zero => intro P; simp [Nat.mod_one]
    | succ k ih =>
      intro P
      have h1 : P % 256 ^ (k + 1) = P % 256 + 256 * (P / 256 % 256 ^ k) := by rw [Nat.pow_succ, Nat.mul_comm, Nat.mod_mul]
      rw [h1]
      have h2 := ih (P / 256)
      constructor
      · intro h
        have h3 := h k (by omega)
        rw [show k + 1 - 1 - k = 0 by omega, Nat.pow_zero, Nat.div_one] at h3
        have h4 : P / 256 % 256 ^ k = 0 := h2.1 fun i hi => by
          have := h i (by omega)
          rw [Nat.div_div_eq_div_mul, ← Nat.pow_succ', show (k - 1 - i).succ = k + 1 - 1 - i by omega]
          exact this
        omega
      · intro h i hi
        have h4 : P / 256 % 256 ^ k = 0 := by omega
        by_cases e : i = k
        · subst e
          rw [show i + 1 - 1 - i = 0 by omega, Nat.pow_zero, Nat.div_one]
          omega
        · have := h2.2 h4 i (by omega)
          rw [Nat.div_div_eq_div_mul, ← Nat.pow_succ', show (k - 1 - i).succ = k + 1 - 1 - i by omega] at this
          exact this
  unfold mid zeros
  rw [← key (x.g - size) (x.L / 4294967296)]
  have e : ∀ i, i < x.g - size → dg x.L (4 + x.g) (size + i) = x.L / 4294967296 / 256 ^ (x.g - size - 1 - i) % 256 := fun i hi => by
    unfold dg
    rw [show 4 + x.g - 1 - (size + i) = 4 + (x.g - size - 1 - i) by omega, Nat.pow_add, ← Nat.div_div_eq_div_mul]
  constructor
  · intro h i hi
    have := h (UInt8.ofNat (dg x.L (4 + x.g) (size + i))) (List.mem_map.2 ⟨i, by simpa using hi, rfl⟩)
    rw [← e i hi]
    have h2 : (UInt8.ofNat (dg x.L (4 + x.g) (size + i))).toNat = 0 := by rw [this]; rfl
    rw [UInt8.toNat_ofNat'] at h2
    have := dg_lt x.L (4 + x.g) (size + i)
    omega
  · intro h b hb
    obtain ⟨i, hi, rfl⟩ := List.mem_map.1 hb
    rw [e i (by simpa using hi), h i (by simpa using hi)]
    rfl

theorem all_mid {size : Nat} {x : St} (hg : size < x.g) : x.all = dgs x.L (4 + x.g) size ++ ((List.range (x.g - size)).map fun i => UInt8.ofNat (dg x.L (4 + x.g) (size + i))) ++ lowB (x.L % 4294967296) := by
  unfold St.all
  rw [show dgs x.L (4 + x.g) (4 + x.g) = dgs x.L (4 + x.g) (x.g + 4) by rw [Nat.add_comm], dgs_low]
  congr 1
  rw [← dgs_add, show size + (x.g - size) = x.g by omega]

theorem zeros_append {a b : List UInt8} : zeros (a ++ b) ↔ zeros a ∧ zeros b := by
  unfold zeros
  constructor
  · intro h
    exact ⟨fun c hc => h c (by simp [hc]), fun c hc => h c (by simp [hc])⟩
  · intro h c hc
    rcases List.mem_append.1 hc with hc | hc
    · exact h.1 c hc
    · exact h.2 c hc

/-- What the coder asks for is whether all bytes fit; and what it hands back is them. -/
theorem done_spec {size low rest : Nat} {x : St} {bs : List UInt8} (h : Rep size x low bs rest) :
    ((rest = 2 ∨ rest = 3 ∨ size < (Lib.trimRightB (bs ++ lowB low) 0).length) ↔ size < x.trim.length) ∧ (x.trim.length ≤ size → Lib.trimRightB (bs ++ lowB low) 0 = x.trim) := by
  obtain ⟨h1, h2, h3⟩ := h
  unfold St.trim
  unfold restOk at h3
  rcases h3 with ⟨h3, h4⟩ | ⟨h3, h4⟩
  · have e : bs ++ lowB low = x.all := by
      unfold St.all
      rw [h2, Nat.min_eq_left h4, h1, ← dgs_low, Nat.add_comm 4]
    rw [e]
    exact ⟨by omega, fun _ => rfl⟩
  · have hb : bs.length = size := by rw [h2, dgs_length]; omega
    rw [all_mid h3, ← h1]
    rw [Nat.min_eq_right (by omega)] at h2
    rw [← h2]
    have hz := mid_zeros h3
    generalize (List.range (x.g - size)).map (fun i => UInt8.ofNat (dg x.L (4 + x.g) (size + i))) = Z at *
    by_cases h0 : mid size x = 0
    · have hrest : rest = 1 := by
        rcases h4 with h4 | h4 | h4
        · exact h4.1
        · rw [h0] at h4
          have := Nat.pow_le_pow_right (n := 256) (by omega) (show 1 ≤ x.g - size by omega)
          omega
        · exact absurd h0 h4.2.1
      have hZ := hz.2 h0
      by_cases hl : zeros (lowB low)
      · rw [List.append_assoc, trim_zeros _ bs (Z ++ lowB low) rfl (zeros_append.2 ⟨hZ, hl⟩), trim_zeros _ bs (lowB low) rfl hl]
        have := trim_le _ bs rfl
        exact ⟨by omega, fun _ => rfl⟩
      · have l1 := trim_long _ bs (lowB low) rfl hl
        have l2 := trim_long _ bs (Z ++ lowB low) rfl fun hh => hl (zeros_append.1 hh).2
        rw [← List.append_assoc] at l2
        exact ⟨by omega, fun hh => by omega⟩
    · have l2 := trim_long _ bs (Z ++ lowB low) rfl fun hh => h0 (hz.1 (zeros_append.1 hh).1)
      rw [← List.append_assoc] at l2
      have hrest : rest = 2 ∨ rest = 3 := by
        rcases h4 with h4 | h4 | h4
        · exact absurd h4.2 h0
        · exact .inl h4.1
        · exact .inr h4.1
      exact ⟨by omega, fun hh => by omega⟩

/-- A coder's bytes, place by place. -/
theorem text_byte (x : St) (size i : Nat) : ((x.text size).getD i 0).toNat = digit x.L x.g i := by
  have h1 : (x.text size).getD i 0 = x.all.getD i 0 := by
    rw [← trim_getD _ x.all rfl i]
    unfold St.text St.trim
    simp only [List.getD_eq_getElem?_getD]
    by_cases hi : i < (Lib.trimRightB x.all 0).length
    · rw [List.getElem?_append_left hi]
    · rw [List.getElem?_append_right (by omega), List.getElem?_eq_none (l := Lib.trimRightB x.all 0) (by omega), List.getElem?_replicate]
      split <;> rfl
  rw [h1]
  unfold St.all
  simp only [List.getD_eq_getElem?_getD]
  by_cases hi : i < 4 + x.g
  · rw [dgs_get _ _ _ _ hi, digit_dg hi]
    simp only [Option.getD_some]
    rw [UInt8.toNat_ofNat']
    have := dg_lt x.L (4 + x.g) i
    omega
  · rw [List.getElem?_eq_none (by rw [dgs_length]; omega)]
    unfold digit
    rw [if_neg hi]
    rfl
theorem trim_len (x : St) : x.trim.length ≤ 4 + x.g := by
  unfold St.trim
  have := trim_le _ x.all rfl
  unfold St.all at this ⊢
  rw [dgs_length] at this
  exact this
theorem text_length {x : St} {size : Nat} (h : x.trim.length ≤ size) : (x.text size).length = size := by
  unfold St.text
  simp; omega
end Go.Proofs.YtidbagkkkpfkbaaDoor.Rg
