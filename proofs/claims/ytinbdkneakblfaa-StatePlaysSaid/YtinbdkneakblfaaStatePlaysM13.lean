/- Texts of the walk, one behind the other. -/
import Derived.Test.YtinbdkneakblfaaStatePlaysM10
import Derived.Test.YtinbdkneakblfaaStatePlaysM12

section
/- A state's bytes: words and bytes in a row, both ways. -/
set_option maxRecDepth 100000
set_option linter.unusedVariables false
namespace Go.Proofs.Ytinbdkneakblfaa.Sta
open Go.RowKit Go.Proofs.Ytinbdkneakblfaa.Row

def u32 (x : Int) : Nat := (x % 4294967296).toNat
theorem u32_lt (x : Int) : u32 x < 4294967296 := by unfold u32; omega
def wordL (x : Int) : List UInt8 := Crc.fourL (u32 x)
def byteL (x : Int) : List UInt8 := [UInt8.ofNat (x % 256).toNat]
theorem wordL_len (x : Int) : (wordL x).length = 4 := rfl

/-- n words. -/
def wds (f : Nat → Int) : Nat → List UInt8
  | 0 => []
  | n + 1 => wds f n ++ wordL (f n)
/-- n bytes. -/
def bts (f : Nat → Int) : Nat → List UInt8
  | 0 => []
  | n + 1 => bts f n ++ byteL (f n)
theorem wds_len (f : Nat → Int) : ∀ n, (wds f n).length = 4 * n
  | 0 => rfl
  | n + 1 => by rw [wds, List.length_append, wds_len f n, wordL_len]; omega
theorem bts_len (f : Nat → Int) : ∀ n, (bts f n).length = n
  | 0 => rfl
  | n + 1 => by rw [bts, List.length_append, bts_len f n]; rfl
theorem wds_ext {f g : Nat → Int} : ∀ {n : Nat}, (∀ i, i < n → f i = g i) → wds f n = wds g n
  | 0, _ => rfl
  | n + 1, h => by rw [wds, wds, wds_ext fun i hi => h i (by omega), h n (by omega)]
theorem bts_ext {f g : Nat → Int} : ∀ {n : Nat}, (∀ i, i < n → f i = g i) → bts f n = bts g n
  | 0, _ => rfl
  | n + 1, h => by rw [bts, bts, bts_ext fun i hi => h i (by omega), h n (by omega)]

/-- A state's bytes. -/
def stL (f : Nat → Int) : List UInt8 := wds f 17 ++ (bts (fun i => f (17 + i)) 4 ++ (wds (fun i => f (21 + i)) 16 ++ byteL (f 37)))
theorem stL_len (f : Nat → Int) : (stL f).length = 137 := by
  unfold stL
  rw [List.length_append, List.length_append, List.length_append, wds_len, bts_len, wds_len]
  rfl
theorem stL_ext {f g : Nat → Int} (h : ∀ k, k < 38 → f k = g k) : stL f = stL g := by
  unfold stL
  rw [wds_ext fun i hi => h i (by omega), bts_ext (f := fun i => f (17 + i)) (g := fun i => g (17 + i)) fun i hi => h _ (by omega), wds_ext (f := fun i => f (21 + i)) (g := fun i => g (21 + i)) fun i hi => h _ (by omega), h 37 (by omega)]
theorem stL_zero : stL (fun _ => 0) = List.replicate 137 0 := by decide +kernel

/-! The way back. -/
def sgn (n : Nat) : Int := if n < 2147483648 then n else (n : Int) - 4294967296
theorem sgn_u32 {x : Int} (h1 : -2147483648 ≤ x) (h2 : x ≤ 2147483647) : sgn (u32 x) = x := by unfold sgn u32; split <;> omega
theorem u32_sgn {n : Nat} (h : n < 4294967296) : u32 (sgn n) = n := by unfold sgn u32; split <;> omega
theorem sgn_bd {n : Nat} (h : n < 4294967296) : -2147483648 ≤ sgn n ∧ sgn n ≤ 2147483647 := by unfold sgn; split <;> omega
def numAt (l : List UInt8) (o : Nat) : Nat := Crc.num ((l.drop o).take 4)
def byteAt (l : List UInt8) (o : Nat) : Int := ((l.getD o 0).toNat : Int)
/-- The state whose bytes are l. -/
def rdF (l : List UInt8) : Nat → Int := stF (fun i => sgn (numAt l (4 * i))) (sgn (numAt l 64)) (fun i => byteAt l (68 + i)) (fun i => sgn (numAt l (72 + 4 * i))) (byteAt l 136)

theorem numAt_lt (l : List UInt8) (o : Nat) : numAt l o < 4294967296 := by
  unfold numAt
  have h := Crc.num_lt ((l.drop o).take 4)
  have : ((l.drop o).take 4).length ≤ 4 := by rw [List.length_take]; omega
  exact Nat.lt_of_lt_of_le h (Nat.pow_le_pow_right (n := 2) (by omega) (show 8 * _ ≤ 32 by omega))

theorem wds_at (f : Nat → Int) : ∀ (n i : Nat) (r : List UInt8), i < n → ((wds f n ++ r).drop (4 * i)).take 4 = wordL (f i)
  | 0, i, r, h => by omega
  | n + 1, i, r, h => by
    rw [wds, List.append_assoc]
    by_cases e : i = n
    · subst e
      rw [← wds_len f i, List.drop_left, ← wordL_len (f i), List.take_left]
    · exact wds_at f n i _ (by omega)
theorem bts_at (f : Nat → Int) : ∀ (n i : Nat) (r : List UInt8), i < n → (bts f n ++ r)[i]? = some (UInt8.ofNat (f i % 256).toNat)
  | 0, i, r, h => by omega
  | n + 1, i, r, h => by
    rw [bts, List.append_assoc]
    by_cases e : i = n
    · subst e
      rw [List.getElem?_append_right (by rw [bts_len]; omega), bts_len, Nat.sub_self]
      rfl
    · exact bts_at f n i _ (by omega)
theorem num_word {x : Int} (h1 : -2147483648 ≤ x) (h2 : x ≤ 2147483647) : sgn (Crc.num (wordL x)) = x := by
  unfold wordL
  rw [Crc.num_four _ (u32_lt x), sgn_u32 h1 h2]
theorem byte_back {x : Int} (h1 : 0 ≤ x) (h2 : x ≤ 255) : ((UInt8.ofNat (x % 256).toNat).toNat : Int) = x := by
  rw [Crc.ofNat_toNat _ (by omega)]; omega

theorem drop_part {a b : List UInt8} {n o : Nat} (h : a.length = n) : (a ++ b).drop (n + o) = b.drop o := by
  rw [← List.drop_drop, ← h, List.drop_left]
theorem rd_back {f : Nat → Int} (h : Rt f) (k : Nat) (hk : k < 38) : rdF (stL f) k = f k := by
  obtain ⟨h1, h2, h3, h4, h5⟩ := h
  have hw : ∀ i, i < 17 → sgn (numAt (stL f) (4 * i)) = f i := fun i hi => by
    unfold numAt stL
    rw [wds_at f 17 i _ hi]
    refine num_word ?_ ?_ <;> by_cases c : i < 16
    · exact (h1 i c).1
    · rw [show i = 16 by omega]; omega
    · exact (h1 i c).2
    · rw [show i = 16 by omega]; omega
  have hl : ∀ i, i < 4 → byteAt (stL f) (68 + i) = f (17 + i) := fun i hi => by
    unfold byteAt stL
    rw [List.getD_eq_getElem?_getD, ← List.getElem?_drop, ← Nat.add_zero 68, drop_part (n := 68) (o := 0) (wds_len f 17), List.drop_zero, bts_at _ 4 i _ hi]
    exact byte_back (h3 i hi).1 (by have := (h3 i hi).2; omega)
  have hv : ∀ i, i < 16 → sgn (numAt (stL f) (72 + 4 * i)) = f (21 + i) := fun i hi => by
    unfold numAt stL
    rw [show 72 + 4 * i = 68 + (4 + 4 * i) by omega, drop_part (n := 68) (wds_len f 17), drop_part (n := 4) (bts_len _ 4), wds_at _ 16 i _ hi]
    obtain ⟨b1, b2⟩ := Md.le_ab (h4 i hi)
    dsimp only at b1 b2
    exact num_word (by omega) (by omega)
  have hb : byteAt (stL f) 136 = f 37 := by
    unfold byteAt stL
    rw [List.getD_eq_getElem?_getD, show (136 : Nat) = 136 + 0 from rfl, ← List.getElem?_drop, show (136 : Nat) = 68 + (4 + (64 + 0)) from rfl, drop_part (n := 68) (wds_len f 17), drop_part (n := 4) (bts_len _ 4), drop_part (n := 64) (wds_len _ 16)]
    exact byte_back h5.1 h5.2
  unfold rdF
  rw [← stF_self f hk]
  unfold stF
  have h16 := hw 16 (by omega)
  by_cases c1 : k < 16
  · rw [if_pos c1, if_pos c1]; exact hw k (by omega)
  · rw [if_neg c1, if_neg c1]
    by_cases c2 : k = 16
    · rw [if_pos c2, if_pos c2]; exact h16
    · rw [if_neg c2, if_neg c2]
      by_cases c3 : k < 21
      · rw [if_pos c3, if_pos c3]; exact hl _ (by omega)
      · rw [if_neg c3, if_neg c3]
        by_cases c4 : k < 37
        · rw [if_pos c4, if_pos c4]; exact hv _ (by omega)
        · rw [if_neg c4, if_neg c4]; exact hb

theorem four_num {m : List UInt8} (h : m.length = 4) : Crc.fourL (Crc.num m) = m := by
  have hl := Crc.num_lt m
  rw [h] at hl
  exact Crc.num_inj _ _ (by rw [Crc.fourL_length, h]) (Crc.num_four _ (by simpa using hl))
theorem wds_rd (l : List UInt8) (o : Nat) : ∀ n, o + 4 * n ≤ l.length → wds (fun i => sgn (numAt l (o + 4 * i))) n = (l.drop o).take (4 * n)
  | 0, _ => by simp [wds]
  | n + 1, h => by
    rw [wds, wds_rd l o n (by omega), show 4 * (n + 1) = 4 * n + 4 by omega, List.take_add]
    congr 1
    unfold wordL
    rw [u32_sgn (numAt_lt _ _)]
    unfold numAt
    rw [four_num (by rw [List.length_take, List.length_drop]; omega), List.drop_drop]
theorem bts_rd (l : List UInt8) (o : Nat) : ∀ n, o + n ≤ l.length → bts (fun i => byteAt l (o + i)) n = (l.drop o).take n
  | 0, _ => by simp [bts]
  | n + 1, h => by
    rw [bts, bts_rd l o n (by omega), List.take_add]
    congr 1
    unfold byteL byteAt
    have hc : o + n < l.length := by omega
    have hb := (l[o + n]).toNat_lt
    rw [List.getD_eq_getElem?_getD, List.getElem?_eq_getElem hc, Option.getD_some, show ((l[o + n].toNat : Int) % 256).toNat = l[o + n].toNat by omega, UInt8.ofNat_toNat]
    rw [List.drop_drop, List.take_one, List.head?_drop, List.getElem?_eq_getElem hc]
    rfl
theorem bytes_back {l : List UInt8} (h : l.length = 137) : stL (rdF l) = l := by
  have e1 : wds (rdF l) 17 = l.take 68 := by
    have := wds_rd l 0 17 (by omega)
    rw [List.drop_zero] at this
    rw [← this]
    refine wds_ext fun i hi => ?_
    rw [Nat.zero_add]
    unfold rdF
    by_cases c : i < 16
    · rw [stF_mem _ _ _ _ _ c]
    · obtain rfl : i = 16 := by omega
      rw [stF_last]
  have e2 : bts (fun i => rdF l (17 + i)) 4 = (l.drop 68).take 4 := by
    rw [← bts_rd l 68 4 (by omega)]
    refine bts_ext fun i hi => ?_
    unfold rdF
    rw [stF_lev _ _ _ _ _ hi]
  have e3 : wds (fun i => rdF l (21 + i)) 16 = (l.drop 72).take 64 := by
    rw [← wds_rd l 72 16 (by omega)]
    refine wds_ext fun i hi => ?_
    unfold rdF
    rw [stF_wav _ _ _ _ _ hi]
  have e4 : byteL (rdF l 37) = (l.drop 136).take 1 := by
    rw [← bts_rd l 136 1 (by omega)]
    unfold rdF
    rw [stF_lost]
    rfl
  unfold stL
  rw [e1, e2, e3, e4]
  have d2 : l.drop 72 = (l.drop 68).drop 4 := by rw [List.drop_drop]
  have d3 : l.drop 136 = (l.drop 72).drop 64 := by rw [List.drop_drop]
  have d4 : (l.drop 136).take 1 = l.drop 136 := List.take_of_length_le (by rw [List.length_drop]; omega)
  rw [d4, d3, List.take_append_drop, d2, List.take_append_drop, List.take_append_drop]
end Go.Proofs.Ytinbdkneakblfaa.Sta
end
