/- Texts of the walk, one behind the other. -/
import Derived.Test.YtfohinlldchdpaaGreatDoorEncPlaysM21
import Derived.Test.YtfohinlldchdpaaGreatDoorEncPlaysM16
import Derived.Test.YtfohinlldchdpaaGreatDoorEncPlaysM1

section
/- Contracts of vect's Count and Bits. -/
set_option maxRecDepth 100000
set_option linter.unusedVariables false
namespace Go.Proofs.YtfohinlldchdpaaGreatDoor.Ve
open Go.RowKit Go.Proofs.YtfohinlldchdpaaGreatDoor.Row Go.Maps Go.WideMaps

theorem of_any (b : Nat) (n k : Int) (w : World) (h : Cn w b) :
    Calls Tryz.prog 169 #[.map (some b), .int .i64 n, .int .i64 k] w fun e w' => e = .returned (.int .i64 (cI n k)) ∧ Ofs w b w' := by
  by_cases c : n < 0 ∨ 8 < n ∨ k < 0 ∨ 8 < k
  · exact of_end w b n k h (.inl c)
  · exact of_in b (n + k).toNat n k w (by omega) (by omega) (by omega) (by omega) (by omega) h

theorem of_as (b : Nat) (n k : Int) (c : Nat) (w : World) (e : cI n k = c) (h : Cn w b) :
    Calls Tryz.prog 169 #[.map (some b), .int .i64 n, .int .i64 k] w fun e w' => e = .returned (.int .i64 c) ∧ Ofs w b w' := by
  rw [← e]; exact of_any b n k w h

theorem ofs_made {w w' : World} (h : Ofs (w.alloc (.map #[] 0)) w.heap.size w') : Below w.heap.size w w' :=
  (((Fr.refl (Just w.heap.size) w).alloc _).same h.2).below (Nat.le_refl _) fun k e => by rw [e]; exact Nat.le_refl _

theorem count_any (n k : Int) (w : World) :
    Calls Tryz.prog 172 #[.int .i64 n, .int .i64 k] w fun e w' => e = .returned (.int .i64 (cI n k)) ∧ Below w.heap.size w w' := by
  have hmm := @run_makeMap Tryz.prog
  go_enter Tryz.func172, Tryz.ntmps172
  go_wp2_with fail
  refine (of_any w.heap.size n k _ (cn_made w)).mono ?_
  rintro e w1 ⟨rfl, h1⟩
  go_wp2_with fail
  go_ret
  exact ⟨rfl, ofs_made h1⟩

theorem count_as (n k : Int) (c : Nat) (w : World) (h : cI n k = c) :
    Calls Tryz.prog 172 #[.int .i64 n, .int .i64 k] w fun e w' => e = .returned (.int .i64 c) ∧ Below w.heap.size w w' := by
  rw [← h]; exact count_any n k w

/-- How few digits the numbers of n and k have. -/
def bI (n k : Int) : Nat := Lib.bitLen (cI n k - 1)

theorem bits_any (n k : Int) (w : World) :
    Calls Tryz.prog 123 #[.int .i64 n, .int .i64 k] w fun e w' => e = .returned (.int .i64 (bI n k)) ∧ Below w.heap.size w w' := by
  obtain ⟨c, hc⟩ : ∃ c : Nat, cI n k = c := ⟨_, rfl⟩
  have hle := cI_le n k
  rw [hc] at hle
  have HC := Lib.hid hc
  clear hc
  go_enter Tryz.func123, Tryz.ntmps123
  go_wp2_with fail
  refine (count_as n k c _ HC.out).mono ?_
  rintro e w1 ⟨rfl, h1⟩
  go_wp2_with fail
  all_goals
    refine (Fix.length_any _ _ (by omega) (by omega)).mono ?_
    rintro e w2 ⟨rfl, rfl⟩
    go_wp2_with fail
    go_ret
    refine ⟨ret_int ?_, h1⟩
    unfold bI
    rw [HC.out]
    congr 2
    omega
end Go.Proofs.YtfohinlldchdpaaGreatDoor.Ve
end

section
/- vect's Bits, the result named. -/
set_option maxRecDepth 100000
set_option linter.unusedVariables false
namespace Go.Proofs.YtfohinlldchdpaaGreatDoor.Ve
open Go.RowKit Go.Proofs.YtfohinlldchdpaaGreatDoor.Row

theorem bits_as (n k : Int) (b : Nat) (w : World) (h : bI n k = b) :
    Calls Tryz.prog 123 #[.int .i64 n, .int .i64 k] w fun e w' => e = .returned (.int .i64 b) ∧ Below w.heap.size w w' := by
  rw [← h]; exact bits_any n k w
end Go.Proofs.YtfohinlldchdpaaGreatDoor.Ve
end

section
/- Contracts of vect's Count, Bits and Pulses. -/
set_option maxRecDepth 100000
set_option linter.unusedVariables false
namespace Go.Proofs.YtfohinlldchdpaaGreatDoor.Ve
open Go.RowKit Go.Proofs.YtfohinlldchdpaaGreatDoor.Row Go.Maps Go.WideMaps

theorem pI_great {f : Nat → Int} {n i : Nat} (hi : i < n) (h : f i < -8 ∨ 8 < f i) : pI f n = 9 := by
  unfold pI
  split
  · have := sm_mono f (show i + 1 ≤ n by omega)
    rw [sm_next] at this
    omega
  · rfl
theorem sm_le {f : Nat → Int} : ∀ {a : Nat}, (∀ i, i < a → -8 ≤ f i ∧ f i ≤ 8) → sm f a ≤ 8 * a
  | 0, _ => Nat.zero_le _
  | a + 1, h => by
    have := sm_le (a := a) fun i hi => h i (by omega)
    have := h a (by omega)
    rw [sm_next]; omega

theorem pulses_many (a : Option Addr) (n c : Nat) (f : Nat → Int) (w : World) (h : 8 < n) :
    Calls Tryz.prog 168 #[.slice a n c] w fun e w' => e = .returned (.int .i64 (pI f n)) ∧ w = w' := by
  have e : pI f n = 9 := by unfold pI; rw [if_neg (by omega)]
  rw [e]
  go_enter Tryz.func168, Tryz.ntmps168
  go_wp2_with fail
  go_ret
  exact ⟨rfl, rfl⟩

theorem pulses_few (a : Option Addr) (n c : Nat) (f : Nat → Int) (w : World) (hS : Sl .i64 w a n c f) (h : n ≤ 8) (hf : ∀ i, i < n → -9223372036854775808 ≤ f i ∧ f i ≤ 9223372036854775807) :
    Calls Tryz.prog 168 #[.slice a n c] w fun e w' => e = .returned (.int .i64 (pI f n)) ∧ w = w' := by
  have HS := Lib.hid hS.2.2
  have HF := Lib.hid hf
  clear hS hf
  go_enter Tryz.func168, Tryz.ntmps168
  go_wp2_with fail
  go_loop [3, 11] (fun s i => ∃ k : Nat, k ≤ n ∧ i = .int .i64 k ∧ s = .int .i64 (sm f k) ∧ Hid (∀ j, j < k → -8 ≤ f j ∧ f j ≤ 8)) (fun _ i => n - (intOf i).toNat)
  case atStart => exact ⟨0, Nat.zero_le _, rfl, rfl, Lib.hid fun j hj => absurd hj (Nat.not_lt_zero j)⟩
  case round =>
    obtain ⟨k, hk, rfl, rfl, HB⟩ := hrel
    have hs := sm_le HB.out
    by_cases hlt : k < n
    · obtain ⟨b, o, rfl, hc⟩ := HS.out (by omega)
      have c0 := hc k hlt
      have HC := Lib.hid hc
      clear hc
      obtain ⟨x0, x1⟩ := HF.out k hlt
      obtain ⟨x, hx⟩ : ∃ x, f k = x := ⟨_, rfl⟩
      have HX := Lib.hid hx
      rw [hx] at c0 x0 x1
      clear hx
      by_cases c1 : x < -8
      · go_wp2_with fail
        go_ret
        exact ⟨ret_int (by rw [pI_great hlt (by rw [HX.out]; exact .inl c1)]; rfl), rfl⟩
      by_cases c2 : 8 < x
      · go_wp2_with fail
        go_ret
        exact ⟨ret_int (by rw [pI_great hlt (by rw [HX.out]; exact .inr c2)]; rfl), rfl⟩
      go_wp2_with fail
      refine (unsigned_any x _ (by omega) (by omega)).mono ?_
      rintro e w1 ⟨rfl, rfl⟩
      go_wp2_with fail
      go_round
      case rel =>
        refine ⟨k + 1, by omega, by go_num, by rw [sm_next, HX.out]; go_num, Lib.hid fun j hj => ?_⟩
        by_cases e : j = k
        · rw [e, HX.out]; omega
        · exact HB.out j (by omega)
      case measure => simp [intOf]; omega
    · obtain rfl : k = n := by omega
      go_wp2_with fail
      all_goals
        go_ret
        refine ⟨ret_int ?_, rfl⟩
        unfold pI
        rw [if_pos h]
        omega

theorem pulses_any (a : Option Addr) (n c : Nat) (f : Nat → Int) (w : World) (hS : Sl .i64 w a n c f) (hf : ∀ i, i < n → -9223372036854775808 ≤ f i ∧ f i ≤ 9223372036854775807) :
    Calls Tryz.prog 168 #[.slice a n c] w fun e w' => e = .returned (.int .i64 (pI f n)) ∧ w = w' := by
  by_cases h : n ≤ 8
  · exact pulses_few a n c f w hS h hf
  · exact pulses_many a n c f w (by omega)
end Go.Proofs.YtfohinlldchdpaaGreatDoor.Ve
end

section
/- Contract of vect's Number. -/
set_option maxRecDepth 100000
set_option linter.unusedVariables false
namespace Go.Proofs.YtfohinlldchdpaaGreatDoor.Ve
open Go.RowKit Go.Proofs.YtfohinlldchdpaaGreatDoor.Row Go.Maps Go.WideMaps

theorem sm_of {f : Nat → Int} {n : Nat} (h : pI f n ≤ 8) : n ≤ 8 ∧ pI f n = sm f n ∧ sm f n ≤ 8 := by
  unfold pI at *
  split at h
  · rw [if_pos (by assumption)]; omega
  · omega
theorem pre_bd {f : Nat → Int} {n k i j : Nat} (hn : n ≤ 8) (hk : k ≤ 8) (hs : sm f n ≤ k) (hi : i < n) (hj : j ≤ 2 * kA f k i + 1) : pre f n k i + S (gV (n - 1 - i) (kA f k i)) j ≤ 6975757441 := by
  have h1 := pre_dec (a := 0) hs i (by omega)
  rw [Nat.zero_add, show pre f n k 0 = 0 from rfl, kA_zero, Nat.sub_zero] at h1
  have h2 := S_mono (gV (n - 1 - i) (kA f k i)) hj
  rw [S_all, show n - 1 - i + 1 = n - i by omega] at h2
  have h3 := V_le hn hk
  omega
theorem kA_le (f : Nat → Int) (k i : Nat) : kA f k i ≤ k := by unfold kA; omega
/-- What stands while a vector's number is worked out. -/
def NmS (w w' : World) : Prop := Below w.heap.size w w' ∧ Cn w' w.heap.size
theorem NmS.start (w : World) : NmS w (w.alloc (.map #[] 0)) := ⟨(Below.refl _ _).alloc (Nat.le_refl _) _, cn_made w⟩
theorem NmS.next {w w1 w2 : World} (h : NmS w w1) (h2 : Ofs w1 w.heap.size w2) : NmS w w2 :=
  ⟨h.1.trans (h2.2.below h.1.size fun k e => by rw [e]; exact Nat.le_refl _), h2.1⟩

set_option maxHeartbeats 400000 in
theorem number_yes (a : Option Addr) (n c k : Nat) (f : Nat → Int) (w : World) (hS : Sl .i64 w a n c f) (hf : ∀ i, i < n → -9223372036854775808 ≤ f i ∧ f i ≤ 9223372036854775807) (hp : pI f n = k) (hk : k ≤ 8) :
    Calls Tryz.prog 120 #[.slice a n c] w fun e w' => e = .returned (.tuple #[.int .i64 (num f n k), .int .i64 0]) ∧ Below w.heap.size w w' := by
  have hmm := @run_makeMap Tryz.prog
  obtain ⟨hn8, e1, _⟩ := sm_of (f := f) (n := n) (by omega)
  have HM := Lib.hid (show sm f n ≤ k by omega)
  have HC := Lib.hid (pulses_any a n c f w hS hf)
  rw [hp] at HC
  have HS := Lib.hid hS.2.2
  have k9 : ((k : Int) == 9) = false := by rw [beq_eq_false_iff_ne]; omega
  clear hS hf hp e1
  go_enter Tryz.func120, Tryz.ntmps120
  go_wp2_with fail
  refine HC.out.mono ?_
  rintro e w1 ⟨rfl, rfl⟩
  clear HC
  go_wp2_with fail
  go_loopw [4, 6, 18] (fun q s i w' => ∃ i' : Nat, i' ≤ n ∧ i = .int .i64 i' ∧ q = .int .i64 (kA f k i') ∧ s = .int .i64 (pre f n k i') ∧ NmS w w') (fun _ _ i _ => n - (intOf i).toNat)
  case atStart => exact ⟨0, Nat.zero_le _, rfl, rfl, rfl, NmS.start w⟩
  case round =>
    obtain ⟨i, hi, rfl, rfl, rfl, h⟩ := hrel
    have HW := Lib.hid h
    clear h
    by_cases hlt : i < n
    · obtain ⟨b, o, rfl, hc⟩ := HS.out (by omega)
      have c0 := (Below.cell HW.out.1 (block_lt_of_cell (hc i hlt))).trans (hc i hlt)
      clear hc
      have hab := kA_ab HM.out hlt
      have hK8 := kA_le f k i
      have HB := Lib.hid (fun j hj => pre_bd (j := j) hn8 hk HM.out hlt hj)
      have HP := Lib.hid (show pre f n k (i + 1) = pre f n k i + S (gV (n - 1 - i) (kA f k i)) (f i + kA f k i).toNat from rfl)
      have HK := Lib.hid (kA_next f k i)
      obtain ⟨x, hx⟩ : ∃ x, f i = x := ⟨_, rfl⟩
      obtain ⟨K, hK⟩ : ∃ K, kA f k i = K := ⟨_, rfl⟩
      obtain ⟨p, hpe⟩ : ∃ p, pre f n k i = p := ⟨_, rfl⟩
      obtain ⟨m, hm⟩ : ∃ m : Nat, n - 1 - i = m := ⟨_, rfl⟩
      have hm' : (n : Int) - 1 - i = m := by omega
      have hm8 : m ≤ 8 := by omega
      rw [hx] at c0 hab
      rw [hx, hK, hpe, hm] at HP
      rw [hK, hx] at HK
      rw [hK] at hab hK8
      rw [hK, hpe, hm] at HB
      rw [hK, hpe]
      clear hx hK hpe hm
      have b0 := HB.out 0 (by omega)
      have hp0 : p ≤ 6975757441 := by omega
      clear b0
      go_wp2_with fail
      go_loopw [6, 10] (fun s l w' => ∃ j : Nat, (j : Int) ≤ x + K ∧ l = .int .i64 ((j : Int) - K) ∧ s = .int .i64 ((p + S (gV m K) j : Nat) : Int) ∧ NmS w w') (fun _ l _ => (x - intOf l).toNat)
      case atStart => exact ⟨0, by omega, congrArg (Value.int .i64) (by omega), rfl, HW.out⟩
      case round =>
        obtain ⟨j, hj, rfl, rfl, h⟩ := hrel
        have HW2 := Lib.hid h
        clear h
        have b1 := HB.out j (by omega)
        obtain ⟨q, hq⟩ : ∃ q, S (gV m K) j = q := ⟨_, rfl⟩
        have HQ := Lib.hid hq
        rw [hq] at b1
        rw [hq]
        clear hq
        by_cases hl2 : (j : Int) - K < x
        · have b2 := HB.out (j + 1) (by omega)
          have hg := cI_g hm8 (by omega) (show j ≤ 2 * K by omega)
          have HE := Lib.hid (show S (gV m K) (j + 1) = q + gV m K j from by rw [← HQ.out]; rfl)
          rw [HE.out] at b2
          obtain ⟨y, hy⟩ : ∃ y, gV m K j = y := ⟨_, rfl⟩
          rw [hy] at hg HE b2
          have HG := Lib.hid hg
          clear hy hg
          go_wp2_with fail
          refine (unsigned_any _ _ (by omega) (by omega)).mono ?_
          rintro e w2 ⟨rfl, rfl⟩
          go_wp2_with fail
          refine (of_as _ _ _ _ _ HG.out HW2.out.2).mono ?_
          rintro e w3 ⟨rfl, h3⟩
          have HW3 := Lib.hid (HW2.out.next h3)
          clear h3 HW2
          go_wp2_with fail
          go_roundw
          case rel =>
            exact ⟨j + 1, by omega, congrArg (Value.int .i64) (by omega), congrArg (Value.int .i64) (by rw [HE.out]; omega), HW3.out⟩
          case measure => simp [intOf]; omega
        · have ej : (x + K).toNat = j := by omega
          rw [ej, HQ.out] at HP
          clear ej
          go_wp2_with fail
          refine (unsigned_any _ _ (by omega) (by omega)).mono ?_
          rintro e w2 ⟨rfl, rfl⟩
          go_wp2_with fail
          go_roundw
          case rel => exact ⟨i + 1, by omega, by go_num, congrArg (Value.int .i64) (by rw [HK.out]; omega), congrArg (Value.int .i64) (by rw [HP.out]; omega), HW2.out⟩
          case measure => simp [intOf]; omega
    · obtain rfl : i = n := by omega
      go_wp2_with fail
      go_ret2
      exact ⟨rfl, HW.out.1⟩
end Go.Proofs.YtfohinlldchdpaaGreatDoor.Ve
end
