/- The walks of CrcMore, CrcPlays and CrcNumbers. -/
import Derived.Test.YtaihbnpiinoiiaaCrcRef
namespace Go.Proofs.Ytaihbnpiinoiiaa.Crc
open Go.RowKit

/-- Of what was there below B in w0 nothing has changed. -/
def In (B : Nat) (w0 w : World) : Prop := Below B w0 w ∧ B ≤ w.heap.size

theorem In.of {w0 w w' : World} {B : Nat} (h : In B w0 w) (hb : Below w.heap.size w w') : In B w0 w' :=
  ⟨h.1.trans (hb.mono h.2), Nat.le_trans h.2 hb.size⟩
theorem In.refl (w : World) : In w.heap.size w w := ⟨Below.refl _ _, Nat.le_refl _⟩

section
variable {B : Nat} {w0 : World}
theorem awake_in (w : World) (h : In B w0 w) : Calls Try.prog 8 #[] w fun e w' => e = .returned (.bool true) ∧ In B w0 w' :=
  (awake_any w).mono fun _ _ ⟨he, hb⟩ => ⟨he, h.of hb⟩
theorem sum_as (s : ByteArray) (n : Nat) (w : World) (hs : s.size ≤ maxLen) (hn : Hid (moreS 0 s.data.toList = n)) (h : In B w0 w) :
    Calls Try.prog 9 #[.string s] w fun e w' => e = .returned (.int .u32 (n : Int)) ∧ In B w0 w' :=
  (sum_any s w hs).mono fun _ _ ⟨he, hb⟩ => ⟨by rw [he, hn.out], h.of hb⟩
theorem more_as (x : Nat) (s : ByteArray) (n : Nat) (w : World) (hx : x < 4294967296) (hs : s.size ≤ maxLen) (hn : Hid (moreS x s.data.toList = n)) (h : In B w0 w) :
    Calls Try.prog 10 #[.int .u32 x, .string s] w fun e w' => e = .returned (.int .u32 (n : Int)) ∧ In B w0 w' :=
  (more_any x s w hx hs).mono fun _ _ ⟨he, hb⟩ => ⟨by rw [he, hn.out], h.of hb⟩
theorem refSum_as (s : ByteArray) (n : Nat) (w : World) (hs : s.size ≤ maxLen) (hn : Hid (moreS 0 s.data.toList = n)) (h : In B w0 w) :
    Calls Try.prog 11 #[.string s] w fun e w' => e = .returned (.int .u32 (n : Int)) ∧ In B w0 w' :=
  (refSum_any s w hs).mono fun _ _ ⟨he, hb⟩ => ⟨by rw [he, hn.out], hb ▸ h⟩
theorem four_as (x : Nat) (s : ByteArray) (w : World) (hx : x < 4294967296) (hn : Hid (s = ⟨(fourL x).toArray⟩)) (h : In B w0 w) :
    Calls Try.prog 12 #[.int .u32 x] w fun e w' => e = .returned (.string s) ∧ In B w0 w' :=
  (four_any x w hx).mono fun _ _ ⟨he, hb⟩ => ⟨by rw [he, hn.out], h.of hb⟩
theorem refFour_as (x : Nat) (s : ByteArray) (w : World) (hx : x < 4294967296) (hn : Hid (s = ⟨(fourL x).toArray⟩)) (h : In B w0 w) :
    Calls Try.prog 13 #[.int .u32 x] w fun e w' => e = .returned (.string s) ∧ In B w0 w' :=
  (refFour_any x w hx).mono fun _ _ ⟨he, hb⟩ => ⟨by rw [he, hn.out], h.of hb⟩
theorem number_as (s : ByteArray) (n : Nat) (w : World) (hs : s.size ≤ maxLen) (hn : Hid (num (s.data.toList.take 4) = n)) (h : In B w0 w) :
    Calls Try.prog 14 #[.string s] w fun e w' => e = .returned (.int .u32 (n : Int)) ∧ In B w0 w' :=
  (number_any s w hs).mono fun _ _ ⟨he, hb⟩ => ⟨by rw [he, hn.out], hb ▸ h⟩
end

theorem u32_nat {a : Int} (h : (Lit.int .u32 a).wf = true) : ∃ n : Nat, a = (n : Int) ∧ n < 4294967296 := by
  have hb := bounds_u32 h
  exact ⟨a.toNat, by omega, by omega⟩

theorem str_append (s t : ByteArray) : (s ++ t).data.toList = s.data.toList ++ t.data.toList := by
  rw [ByteArray.data_append]; simp

set_option maxHeartbeats 1000000 in
theorem crcMore_walk (a0 : Int) (s t : ByteArray) (w0 : (Lit.int .u32 a0).wf = true) (w1 : s.size ≤ maxLen) (w2 : t.size ≤ maxLen) (w : World) :
    Calls Try.prog 4 #[.int .u32 a0, .string s, .string t] w fun e w' => e = .returned (.bool true) ∧ Below w.heap.size w w' := by
  obtain ⟨x, rfl, hx⟩ := u32_nat w0
  clear w0
  have hin := In.refl w
  by_cases hs : 800 < s.size
  · unfold maxLen at w1 w2
    go_enter Try.func4, Try.ntmps4
    go_wp2_with (go_at_call 8; refine (awake_in _ (by assumption)).mono ?_; rintro e w1 ⟨rfl, hw1⟩)
    go_ret
    exact ⟨rfl, And.left ‹_›⟩
  · by_cases ht : 800 < t.size
    · unfold maxLen at w1 w2
      go_enter Try.func4, Try.ntmps4
      go_wp2_with (go_at_call 8; refine (awake_in _ (by assumption)).mono ?_; rintro e w1 ⟨rfl, hw1⟩)
      go_ret
      exact ⟨rfl, And.left ‹_›⟩
    · have hst : (s ++ t).size ≤ maxLen := by rw [ByteArray.size_append]; unfold maxLen; omega
      have hst2 : ¬ 9223372036854775807 < s.size + t.size := by omega
      have e0 := moreS_append 0 s.data.toList t.data.toList
      have e1 := moreS_append x s.data.toList t.data.toList
      rw [← str_append] at e0 e1
      have e2 := moreS_nil x hx
      obtain ⟨a, ha⟩ : ∃ a, moreS 0 s.data.toList = a := ⟨_, rfl⟩
      obtain ⟨b, hb⟩ : ∃ b, moreS 0 (s ++ t).data.toList = b := ⟨_, rfl⟩
      obtain ⟨c, hc⟩ : ∃ c, moreS x s.data.toList = c := ⟨_, rfl⟩
      obtain ⟨d, hd⟩ : ∃ d, moreS x (s ++ t).data.toList = d := ⟨_, rfl⟩
      have ha4 : a < 4294967296 := by rw [← ha]; exact moreS_lt _ _
      have hc4 : c < 4294967296 := by rw [← hc]; exact moreS_lt _ _
      rw [ha, hb] at e0
      rw [hc, hd] at e1
      have A1 := Lib.hid ha; clear ha
      have A2 := Lib.hid hb; clear hb
      have A3 := Lib.hid hc; clear hc
      have A4 := Lib.hid hd; clear hd
      have A5 := Lib.hid e0; clear e0
      have A6 := Lib.hid e1; clear e1
      have A7 := Lib.hid e2; clear e2
      have W1 := Lib.hid w1; clear w1
      have W2 := Lib.hid w2; clear w2
      have W3 := Lib.hid hst; clear hst
      have hb0 : Hid ((⟨#[]⟩ : ByteArray).size ≤ maxLen) := Lib.hid (Nat.zero_le _)
      go_enter Try.func4, Try.ntmps4
      go_wp2_with (first
        | (go_at_call 8; refine (awake_in _ (by assumption)).mono ?_; rintro e w1 ⟨rfl, hw1⟩)
        | (go_at_call 9; (with_reducible refine (sum_as s a _ W1.out A1 (by assumption)).mono ?_); rintro e w1 ⟨rfl, hw1⟩)
        | (go_at_call 9; (with_reducible refine (sum_as (s ++ t) b _ W3.out A2 (by assumption)).mono ?_); rintro e w1 ⟨rfl, hw1⟩)
        | (go_at_call 10; (with_reducible refine (more_as a t b _ ha4 W2.out A5 (by assumption)).mono ?_); rintro e w1 ⟨rfl, hw1⟩)
        | (go_at_call 10; (with_reducible refine (more_as x s c _ hx W1.out A3 (by assumption)).mono ?_); rintro e w1 ⟨rfl, hw1⟩)
        | (go_at_call 10; (with_reducible refine (more_as c t d _ hc4 W2.out A6 (by assumption)).mono ?_); rintro e w1 ⟨rfl, hw1⟩)
        | (go_at_call 10; (with_reducible refine (more_as x (s ++ t) d _ hx W3.out A4 (by assumption)).mono ?_); rintro e w1 ⟨rfl, hw1⟩)
        | (go_at_call 10; (with_reducible refine (more_as x ⟨#[]⟩ x _ hx hb0.out A7 (by assumption)).mono ?_); rintro e w1 ⟨rfl, hw1⟩))
      go_ret
      exact ⟨rfl, And.left ‹_›⟩
end Go.Proofs.Ytaihbnpiinoiiaa.Crc
