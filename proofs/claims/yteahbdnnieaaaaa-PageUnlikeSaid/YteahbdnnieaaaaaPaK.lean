/- Bytes whose sum is made right, byte by byte. -/
import Derived.Test.YteahbdnnieaaaaaPaH
import Derived.Test.YteahbdnnieaaaaaPaI
import Derived.Test.YteahbdnnieaaaaaHv
set_option maxRecDepth 100000
set_option linter.unusedVariables false
set_option linter.unusedSimpArgs false
namespace Go.Proofs.Yteahbdnnieaaaaa.Pa
open Go.RowKit Go.Proofs.Yteahbdnnieaaaaa.Row Go.Proofs.Yteahbdnnieaaaaa.Crc

/-- Bytes with their sum made right. -/
def fixb (b : List UInt8) : List UInt8 := fourL (moreS 0 (b.drop 4)) ++ b.drop 4
theorem fixb_len {b : List UInt8} (h : b.length = 64) : (fixb b).length = 64 := by
  unfold fixb
  rw [List.length_append, fourL_length, List.length_drop, h]
theorem fixb_sum (b : List UInt8) : SumOk (fixb b) := by
  show fo (fourL (moreS 0 (b.drop 4)) ++ b.drop 4) 0 = moreS 0 ((fourL (moreS 0 (b.drop 4)) ++ b.drop 4).drop 4)
  rw [of_four _ (moreS_lt _ _)]
  rfl
theorem fixb_lay (p : Pv) : fixb p.lay = p.lay := rfl
theorem fixb_B (b : List UInt8) (i : Nat) (h : 4 ≤ i) : B (fixb b) i = B b i := by
  unfold fixb
  rw [B_append _ _ i (i - 4) (by rw [fourL_length]; omega)]
  unfold B
  congr 1
  rw [List.getD_eq_getElem?_getD, List.getD_eq_getElem?_getD, List.getElem?_drop, show 4 + (i - 4) = i from by omega]
/-- The first k of four bytes are laid. -/
def fixk (b : List UInt8) (k : Nat) : List UInt8 := (fourL (moreS 0 (b.drop 4))).take k ++ b.drop k
theorem fixk_0 (b : List UInt8) : fixk b 0 = b := rfl
theorem fixk_4 (b : List UInt8) : fixk b 4 = fixb b := rfl
theorem fixk_len {b : List UInt8} (h : b.length = 64) {k : Nat} (hk : k ≤ 4) : (fixk b k).length = 64 := by
  unfold fixk
  rw [List.length_append, List.length_take, fourL_length, List.length_drop, h]
  omega
theorem fixk_put {b : List UInt8} (h : b.length = 64) {k : Nat} (hk : k < 4) : (fixk b k).set k ((fourL (moreS 0 (b.drop 4))).getD k 0) = fixk b (k + 1) := by
  unfold fixk
  have hl : ((fourL (moreS 0 (b.drop 4))).take k).length = k := by rw [List.length_take, fourL_length]; omega
  have h4 : k < (fourL (moreS 0 (b.drop 4))).length := by rw [fourL_length]; exact hk
  rw [List.set_append_right _ _ (by omega), hl, Nat.sub_self, List.drop_eq_getElem_cons (i := k) (by omega), List.set_cons_zero, gd_get _ k h4, List.take_succ_eq_append_getElem h4, List.append_assoc]
  rfl
end Go.Proofs.Yteahbdnnieaaaaa.Pa
