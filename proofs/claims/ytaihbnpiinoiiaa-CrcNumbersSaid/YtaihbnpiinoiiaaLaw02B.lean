/- The walks of CrcPlays and CrcNumbers. -/
import Derived.Test.YtaihbnpiinoiiaaLaw02A
namespace Go.Proofs.Ytaihbnpiinoiiaa.Crc
open Go.RowKit

theorem take4_four (x : Nat) (l : List UInt8) : (fourL x ++ l).take 4 = fourL x := by
  rw [List.take_append_of_le_length (by rw [fourL_length]; omega), List.take_of_length_le (by rw [fourL_length]; omega)]

set_option maxHeartbeats 1000000 in
theorem crcPlays_walk (s : ByteArray) (a1 : Int) (w0 : s.size ≤ maxLen) (w1 : (Lit.int .u32 a1).wf = true) (w : World) :
    Calls Try.prog 5 #[.string s, .int .u32 a1] w fun e w' => e = .returned (.bool true) ∧ Below w.heap.size w w' := by
  obtain ⟨x, rfl, hx⟩ := u32_nat w1
  clear w1
  have hin := In.refl w
  by_cases hs : 800 < s.size
  · unfold maxLen at w0
    go_enter Try.func5, Try.ntmps5
    go_wp2_with (go_at_call 8; refine (awake_in _ (by assumption)).mono ?_; rintro e w1 ⟨rfl, hw1⟩)
    go_ret
    exact ⟨rfl, And.left ‹_›⟩
  · obtain ⟨n, hn⟩ : ∃ n, moreS 0 s.data.toList = n := ⟨_, rfl⟩
    obtain ⟨f, hf⟩ : ∃ f : ByteArray, f = ⟨(fourL x).toArray⟩ := ⟨_, rfl⟩
    have hfz : f.size = 4 := by rw [hf]; rfl
    have hfm : f.size ≤ maxLen := by rw [hfz]; unfold maxLen; omega
    have hfs : (f ++ s).size ≤ maxLen := by rw [ByteArray.size_append, hfz]; unfold maxLen; omega
    have hfs2 : ¬ 9223372036854775807 < f.size + s.size := by omega
    have e1 : num (f.data.toList.take 4) = x := by
      rw [hf]
      have := take4_four x []
      rw [List.append_nil] at this
      simp only []
      rw [this, num_four x hx]
    have e2 : num ((f ++ s).data.toList.take 4) = x := by
      rw [str_append, hf]
      simp only []
      rw [take4_four, num_four x hx]
    have A1 := Lib.hid hn; clear hn
    have A2 := Lib.hid hf; clear hf
    have A3 := Lib.hid e1; clear e1
    have A4 := Lib.hid e2; clear e2
    have W0 := Lib.hid w0; clear w0
    have W1 := Lib.hid hfm; clear hfm
    have W2 := Lib.hid hfs; clear hfs
    clear hfz
    have hb0 : Hid ((⟨#[]⟩ : ByteArray).size ≤ maxLen) := Lib.hid (Nat.zero_le _)
    have A5 : Hid (num ((⟨#[]⟩ : ByteArray).data.toList.take 4) = 0) := Lib.hid rfl
    go_enter Try.func5, Try.ntmps5
    go_wp2_with (first
      | (go_at_call 8; refine (awake_in _ (by assumption)).mono ?_; rintro e w1 ⟨rfl, hw1⟩)
      | (go_at_call 9; (with_reducible refine (sum_as s n _ W0.out A1 (by assumption)).mono ?_); rintro e w1 ⟨rfl, hw1⟩)
      | (go_at_call 11; (with_reducible refine (refSum_as s n _ W0.out A1 (by assumption)).mono ?_); rintro e w1 ⟨rfl, hw1⟩)
      | (go_at_call 12; (with_reducible refine (four_as x f _ hx A2 (by assumption)).mono ?_); rintro e w1 ⟨rfl, hw1⟩)
      | (go_at_call 13; (with_reducible refine (refFour_as x f _ hx A2 (by assumption)).mono ?_); rintro e w1 ⟨rfl, hw1⟩)
      | (go_at_call 14; (with_reducible refine (number_as f x _ W1.out A3 (by assumption)).mono ?_); rintro e w1 ⟨rfl, hw1⟩)
      | (go_at_call 14; (with_reducible refine (number_as (f ++ s) x _ W2.out A4 (by assumption)).mono ?_); rintro e w1 ⟨rfl, hw1⟩)
      | (go_at_call 14; (with_reducible refine (number_as ⟨#[]⟩ 0 _ hb0.out A5 (by assumption)).mono ?_); rintro e w1 ⟨rfl, hw1⟩))
    go_ret
    exact ⟨rfl, And.left ‹_›⟩

theorem extract_back (s f : ByteArray) (n : Nat) (h : f.size = n) : (s ++ f).extract s.size (s.size + n) = f := by
  exact ByteArray.extract_append_eq_right rfl (by rw [h])

theorem extract_two (x : Nat) : ((⟨(fourL x).toArray⟩ : ByteArray).extract 0 2).data.toList.take 4 = [UInt8.ofNat (x % 256), UInt8.ofNat (x / 256 % 256)] := by
  rfl

theorem num_two (x : Nat) : num [UInt8.ofNat (x % 256), UInt8.ofNat (x / 256 % 256)] = x % 65536 := by
  simp only [num]
  rw [ofNat_toNat _ (Nat.mod_lt _ (by omega)), ofNat_toNat _ (Nat.mod_lt _ (by omega)), Nat.mul_zero, Nat.xor_zero]
  have e1 := split_low 8 (x % 65536)
  simp only [Nat.reducePow] at e1 ⊢
  rw [show x % 65536 / 256 = x / 256 % 256 from by omega, show x % 65536 % 256 = x % 256 from by omega] at e1
  rw [Nat.xor_comm, ← e1]

theorem mask16 (x : Nat) (h : x < 4294967296) : bits .and .u32 (x : Int) 65535 = ((x % 65536 : Nat) : Int) := by
  rw [show (65535 : Int) = ((65535 : Nat) : Int) from rfl, u32_and_nat _ _ h (by omega)]
  exact congrArg (fun n : Nat => (n : Int)) (Nat.and_two_pow_sub_one_eq_mod x 16)

set_option maxHeartbeats 1000000 in
theorem crcNumbers_walk (a0 a1 : Int) (s : ByteArray) (w0 : (Lit.int .u32 a0).wf = true) (w1 : (Lit.int .u32 a1).wf = true) (w2 : s.size ≤ maxLen) (w : World) :
    Calls Try.prog 7 #[.int .u32 a0, .int .u32 a1, .string s] w fun e w' => e = .returned (.bool true) ∧ Below w.heap.size w w' := by
  obtain ⟨x, rfl, hx⟩ := u32_nat w0
  obtain ⟨y, rfl, hy⟩ := u32_nat w1
  clear w0 w1
  have hin := In.refl w
  by_cases hs : 800 < s.size
  · unfold maxLen at w2
    go_enter Try.func7, Try.ntmps7
    go_wp2_with (go_at_call 8; refine (awake_in _ (by assumption)).mono ?_; rintro e w1 ⟨rfl, hw1⟩)
    go_ret
    exact ⟨rfl, And.left ‹_›⟩
  · obtain ⟨f, hf⟩ : ∃ f : ByteArray, f = ⟨(fourL x).toArray⟩ := ⟨_, rfl⟩
    have hfz : f.size = 4 := by rw [hf]; rfl
    have hfs2 : ¬ 9223372036854775807 < s.size + f.size := by omega
    have A1 := Lib.hid hf; clear hf
    obtain ⟨g, hg⟩ : ∃ g : ByteArray, g = ⟨(fourL y).toArray⟩ := ⟨_, rfl⟩
    have hgz : g.size = 4 := by rw [hg]; rfl
    have hex := extract_back s f 4 hfz
    obtain ⟨m, hm⟩ : ∃ m : Nat, x % 65536 = m := ⟨_, rfl⟩
    have hmask := mask16 x hx
    rw [hm] at hmask
    have e1 : num (f.data.toList.take 4) = x := by
      rw [A1.out]
      have := take4_four x []
      rw [List.append_nil] at this
      simp only []
      rw [this, num_four x hx]
    have e2 : num ((f.extract 0 2).data.toList.take 4) = m := by rw [A1.out, extract_two, num_two, hm]
    have s1 : f.size ≤ maxLen := by rw [hfz]; unfold maxLen; omega
    have s2 : (f.extract 0 2).size ≤ maxLen := by rw [A1.out]; show 2 ≤ maxLen; unfold maxLen; omega
    have A2 := Lib.hid hg; clear hg
    have A3 := Lib.hid e1; clear e1
    have A4 := Lib.hid e2; clear e2
    have W1 := Lib.hid s1; clear s1
    have W2 := Lib.hid s2; clear s2
    clear hm
    unfold maxLen at w2
    by_cases hxy : x = y
    · subst hxy
      go_enter Try.func7, Try.ntmps7
      go_wp2_with (first
        | (go_at_call 8; refine (awake_in _ (by assumption)).mono ?_; rintro e w1 ⟨rfl, hw1⟩)
        | (go_at_call 12; (with_reducible refine (four_as x f _ hx A1 (by assumption)).mono ?_); rintro e w1 ⟨rfl, hw1⟩)
        | (go_at_call 14; (with_reducible refine (number_as f x _ W1.out A3 (by assumption)).mono ?_); rintro e w1 ⟨rfl, hw1⟩)
        | (go_at_call 14; (with_reducible refine (number_as (f.extract 0 2) m _ W2.out A4 (by assumption)).mono ?_); rintro e w1 ⟨rfl, hw1⟩))
      go_ret
      exact ⟨rfl, And.left ‹_›⟩
    · have hne : ((x : Int) == (y : Int)) = false := by rw [beq_eq_false_iff_ne]; omega
      have hfg : (f.toList == g.toList) = false := by
        rw [beq_eq_false_iff_ne]
        intro e
        rw [ByteArray.toList_eq, ByteArray.toList_eq, A1.out, A2.out] at e
        apply hxy
        rw [← num_four x hx, ← num_four y hy]
        exact congrArg num e
      clear hxy
      go_enter Try.func7, Try.ntmps7
      go_wp2_with (first
        | (go_at_call 8; refine (awake_in _ (by assumption)).mono ?_; rintro e w1 ⟨rfl, hw1⟩)
        | (go_at_call 12; (with_reducible refine (four_as x f _ hx A1 (by assumption)).mono ?_); rintro e w1 ⟨rfl, hw1⟩)
        | (go_at_call 12; (with_reducible refine (four_as y g _ hy A2 (by assumption)).mono ?_); rintro e w1 ⟨rfl, hw1⟩)
        | (go_at_call 14; (with_reducible refine (number_as f x _ W1.out A3 (by assumption)).mono ?_); rintro e w1 ⟨rfl, hw1⟩)
        | (go_at_call 14; (with_reducible refine (number_as (f.extract 0 2) m _ W2.out A4 (by assumption)).mono ?_); rintro e w1 ⟨rfl, hw1⟩))
      go_ret
      exact ⟨rfl, And.left ‹_›⟩
end Go.Proofs.Ytaihbnpiinoiiaa.Crc
