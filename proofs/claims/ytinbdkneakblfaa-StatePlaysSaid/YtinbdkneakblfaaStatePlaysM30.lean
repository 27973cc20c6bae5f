/- Texts of the walk, one behind the other. -/
import Derived.Test.YtinbdkneakblfaaStatePlaysM13
import Derived.Test.YtinbdkneakblfaaStatePlaysM21

section
/- Contracts: the closures of state.parse. -/
set_option maxRecDepth 100000
set_option linter.unusedVariables false
namespace Go.Proofs.Ytinbdkneakblfaa.Sta
open Go.RowKit Go.Proofs.Ytinbdkneakblfaa.Row

theorem ex_take (L : List UInt8) (n : Nat) : (⟨L.toArray⟩ : ByteArray).extract 0 n = ⟨(L.take n).toArray⟩ := by
  apply ByteArray.ext
  simp [ByteArray.data_extract]
theorem ex_drop (L : List UInt8) (n : Nat) : (⟨L.toArray⟩ : ByteArray).extract n L.length = ⟨(L.drop n).toArray⟩ := by
  apply ByteArray.ext
  simp only [ByteArray.data_extract, List.extract_toArray, List.extract_eq_take_drop]
  rw [List.take_of_length_le (by rw [List.length_drop]; omega)]

theorem take_as (L : List UInt8) (n b : Nat) (w : World) (hA : At w b #[.string ⟨L.toArray⟩] 9) (hn : n ≤ L.length) (hl : L.length ≤ 137) :
    Calls Try.prog 34 #[.int .i64 n, .pointer (some ⟨b, 0, none⟩)] w fun e w' => e = .returned (.string ⟨(L.take n).toArray⟩) ∧ w' = w.setCell ⟨b, 0, none⟩ (.string ⟨(L.drop n).toArray⟩) := by
  have k1 := cell_of_row _ _ 0 _ _ _ hA
  have k2 := hA.frozen 0
  simp only [List.getElem?_toArray, List.getElem?_cons_zero] at k1
  have e1 := ex_take L n
  have e2 := ex_drop L n
  have hz : (⟨L.toArray⟩ : ByteArray).size = L.length := by simp [ByteArray.size]
  obtain ⟨s, hs⟩ : ∃ s, (⟨L.toArray⟩ : ByteArray) = s := ⟨_, rfl⟩
  rw [hs] at k1 e1 e2 hz
  have hn' : n ≤ s.size := by omega
  have hl' : s.size ≤ 137 := by omega
  rw [← hz] at e2
  have E1 := Lib.hid e1
  have E2 := Lib.hid e2
  clear hA hs e1 e2 hn hl hz
  go_enter Try.func34, Try.ntmps34
  go_wp2_with fail
  go_ret
  exact ⟨by rw [← E1.out]; rfl, by rw [← E2.out]⟩

theorem wrap32 {n : Nat} (h : n < 4294967296) : IntKind.i32.wrap (n : Int) = sgn n := by
  have e : (n : Int) % 2 ^ 32 = (n : Int) := by
    rw [show (2 : Int) ^ 32 = 4294967296 by decide]; omega
  unfold sgn IntKind.wrap
  simp only [IntKind.bits, IntKind.signed, Bool.true_and, e]
  rw [show (2 : Int) ^ (32 - 1) = 2147483648 by decide, show (2 : Int) ^ 32 = 4294967296 by decide]
  by_cases c : n < 2147483648
  · rw [if_pos c, if_neg (by rw [decide_eq_true_iff]; omega)]
  · rw [if_neg c, if_pos (by rw [decide_eq_true_iff]; omega)]

theorem number_as (L : List UInt8) (x : Int) (b c : Nat) (w : World) (hA : At w b #[.string ⟨L.toArray⟩] 9) (hC : At w c #[.func (.func 34) #[] #[.pointer (some ⟨b, 0, none⟩)]] 64) (hn : 4 ≤ L.length) (hl : L.length ≤ 137)
    (hx : sgn (Crc.num (L.take 4)) = x) :
    Calls Try.prog 35 #[.pointer (some ⟨c, 0, none⟩)] w fun e w' => e = .returned (.int .i64 x) ∧ w' = w.setCell ⟨b, 0, none⟩ (.string ⟨(L.drop 4).toArray⟩) := by
  have k1 := cell_of_row _ _ 0 _ _ _ hC
  simp only [List.getElem?_toArray, List.getElem?_cons_zero] at k1
  have hlt : Crc.num (L.take 4) < 4294967296 := by
    have := numAt_lt L 0
    unfold numAt at this
    rwa [List.drop_zero] at this
  have hw := wrap32 hlt
  rw [hx] at hw
  have hb := sgn_bd hlt
  rw [hx] at hb
  have HA := Lib.hid hA
  have HN := Lib.hid (Crc.number_any ⟨(L.take 4).toArray⟩ (w.setCell ⟨b, 0, none⟩ (.string ⟨(L.drop 4).toArray⟩)) (by simp [ByteArray.size, maxLen]; omega))
  simp only [List.take_take, Nat.min_self] at HN
  obtain ⟨q, hq⟩ : ∃ q, Crc.num (L.take 4) = q := ⟨_, rfl⟩
  rw [hq] at hw hlt HN
  clear hA hC hx hq
  go_enter Try.func35, Try.ntmps35
  go_wp2_with fail
  refine (take_as L 4 b w HA.out hn hl).mono ?_
  rintro e w1 ⟨rfl, rfl⟩
  go_wp2_with fail
  refine HN.out.mono ?_
  rintro e w1 ⟨rfl, rfl⟩
  go_wp2_with fail
  go_ret
  exact ⟨rfl, rfl⟩
end Go.Proofs.Ytinbdkneakblfaa.Sta
end
