/- LaplPlays: the walk. -/
import Derived.Test.YtidbagkkkpfkbaaLpE
import Derived.Test.YtidbagkkkpfkbaaLpD
set_option maxRecDepth 100000
set_option linter.unusedVariables false
namespace Go.Proofs.Ytidbagkkkpfkbaa.Lp
open Go.RowKit Go.Proofs.Ytidbagkkkpfkbaa.Row Go.Proofs.Ytidbagkkkpfkbaa.Rg

theorem find_on (p x : Int) (z : Bool) (w : World) (hx : fV p = x) (hz : fB p = z) :
    Calls Try.prog 8 #[.int .i64 p] w fun e w' => e = .returned (.tuple #[.int .i64 x, .bool z]) ∧ Below w.heap.size w w' := by
  subst hx hz
  exact find_any p w

theorem laplPlays_long (v p : Int) (B : ByteArray) (W : World) (hB : B.size ≤ maxLen) (h300 : 300 < B.size) :
    Calls Try.prog 4 #[.int .i64 v, .int .i64 p, .string B] W fun e w' => e = .returned (.bool true) ∧ Below W.heap.size W w' := by
  unfold maxLen at hB
  go_enter Try.func4, Try.ntmps4
  go_wp2_with fail
  refine (awake_yes _).mono ?_
  rintro e w1 ⟨rfl, h1⟩
  have B1 := Lib.hid h1
  clear h1
  go_wp2_with fail
  refine (awake_yes _).mono ?_
  rintro e w2 ⟨rfl, h2⟩
  have B2 := Lib.hid h2
  clear h2
  go_wp2
  go_ret
  exact ⟨rfl, below_trans B1.out B2.out B1.out.size⟩

set_option maxHeartbeats 4000000 in
theorem laplPlays_in_in (v p : Int) (B : ByteArray) (W : World) (hB : B.size ≤ 300) (v1 : -9223372036854775808 ≤ v) (v2 : v ≤ 9223372036854775807) (p1 : -9223372036854775808 ≤ p) (p2 : p ≤ 9223372036854775807)
    (hv : -24 ≤ v ∧ v ≤ 24) (hp : 0 ≤ p ∧ p < 32768) :
    Calls Try.prog 4 #[.int .i64 v, .int .i64 p, .string B] W fun e w' => e = .returned (.bool true) ∧ Below W.heap.size W w' := by
  have h300' : decide (300 < (B.size : Int)) = false := by simp; omega
  obtain ⟨s, hs⟩ : ∃ s : List UInt8, s = B.data.toList := ⟨_, rfl⟩
  have hsB : (⟨s.toArray⟩ : ByteArray) = B := by rw [hs]
  have hsl : s.length ≤ 300 := by rw [hs, ← Lib.size_eq]; omega
  have HB1 := Lib.hid hsB
  clear hs hsB hB
  obtain ⟨x, hx⟩ : ∃ x, fV p = x := ⟨_, rfl⟩
  have hz : fB p = true := by unfold fB; simpa using hp
  have hx2 : vI (fI p.toNat) = x := by rw [← hx]; unfold fV; rw [if_pos hp]
  have HX := Lib.hid (And.intro hx (And.intro hz hx2))
  obtain ⟨p3, p4⟩ := hp
  have xne : (x != x) = false := by simp
  clear hx hz hx2
  obtain ⟨S, hS⟩ : ∃ S, (cl v).s = S := ⟨_, rfl⟩
  obtain ⟨U, hU⟩ : ∃ U, (cl v).w = U := ⟨_, rfl⟩
  obtain ⟨b1, b2, b3⟩ := cl_bd hv
  rw [hU] at b1 b2 b3
  rw [hS] at b3
  have HS := Lib.hid hS
  have HU := Lib.hid hU
  obtain ⟨C, hC⟩ : ∃ C, cC v = C := ⟨_, rfl⟩
  obtain ⟨k1, k2, k3⟩ := cost_spec (w := U) (by omega)
  rw [show cost U = C by rw [← hC, ← hU]; rfl] at k1 k2 k3
  have K2 := Lib.hid k2
  have K3 := Lib.hid k3
  have HC := Lib.hid hC
  have HV := Lib.hid hv
  have r1 : ((S : Int) != S) = false := by simp
  have r2 : ((U : Int) != U) = false := by simp
  have r3 : ((C : Int) != C) = false := by simp
  obtain ⟨v3, v4⟩ := hv
  clear hS hU hC k2 k3
  go_enter Try.func4, Try.ntmps4
  go_wp2_with fail
  refine (awake_yes _).mono ?_
  rintro e w1 ⟨rfl, h1⟩
  have B1 := Lib.hid h1
  clear h1
  go_wp2_with fail
  refine (cell_yes v S U _ HV.out (congrArg Nat.cast HS.out) (congrArg Nat.cast HU.out)).mono ?_
  rintro e w2 ⟨rfl, h2⟩
  have B2 := Lib.hid (below_trans B1.out h2 B1.out.size)
  clear h2 B1
  go_wp2_with fail
  refine (find_on p x true _ HX.out.1 HX.out.2.1).mono ?_
  rintro e w3 ⟨rfl, h3⟩
  have B3 := Lib.hid (below_trans B2.out h3 B2.out.size)
  have HX2 := Lib.hid HX.out.2.2
  clear h3 B2 HX
  go_wp2_with fail
  refine (newEnc_yes 9 _ (by omega) (by omega)).mono ?_
  intro e w4 h
  obtain ⟨b, rfl, h2⟩ := EncOn.new h
  have E4 := Lib.hid (EncOn.from B3.out h2)
  clear h h2 B3
  go_wp2_with fail
  refine (refCell_as v S U _ HV.out HS.out HU.out).mono ?_
  rintro e w5 ⟨rfl, h5⟩
  have E5 := Lib.hid ((E4.out.below h5).below ((Below.refl _ _).alloc (Nat.le_refl _) (.cells #[.int .i64 S, .int .i64 U, .int .i64 32768] 34)))
  have hA := At.new w5 #[.int .i64 S, .int .i64 U, .int .i64 32768] 34
  have d0 : (w5.alloc (.cells #[.int .i64 S, .int .i64 U, .int .i64 32768] 34)).cell? ⟨w5.heap.size, 0, none⟩ = some (.int .i64 S) := by rw [hA.cell]; rfl
  have d1 : (w5.alloc (.cells #[.int .i64 S, .int .i64 U, .int .i64 32768] 34)).cell? ⟨w5.heap.size, 1, none⟩ = some (.int .i64 U) := by rw [hA.cell]; rfl
  clear h5 E4 hA
  go_wp2
  obtain ⟨w6, hw6⟩ : ∃ w6, w5.alloc (.cells #[.int .i64 S, .int .i64 U, .int .i64 32768] 34) = w6 := ⟨_, rfl⟩
  obtain ⟨g, hg⟩ : ∃ g, w5.heap.size = g := ⟨_, rfl⟩
  rw [hw6, hg] at d0 d1
  rw [hw6] at E5
  rw [hw6, hg]
  clear hw6 hg
  go_loop [16, 17] (fun x y => ∃ n P : Nat, x = .int .i64 n ∧ y = .int .i64 P ∧ n ≤ C ∧ P ≤ 32768 ∧ Hid (32768 / 2 ^ n = P)) (fun x _ => 100 - (intOf x).toNat)
  case atStart => exact ⟨0, 32768, rfl, rfl, by omega, by omega, Lib.hid (by omega)⟩
  case round =>
    obtain ⟨n, P, rfl, rfl, hn, hP, HP⟩ := hrel
    by_cases hlt : n < C
    · have hu : (U : Int) < P := by have := K3.out n hlt; rw [HP.out] at this; omega
      have HN := Lib.hid (half HP.out)
      go_wp2
      go_round
      case rel => exact ⟨n + 1, P / 2, by go_num, by go_num, by omega, by omega, HN⟩
      case measure => simp [intOf]; omega
    · obtain rfl : n = C := by omega
      have hu : (P : Int) ≤ U := by have := K2.out; rw [HP.out] at this; omega
      go_wp2_with fail
      refine (cost_yes v n _ HV.out (congrArg Nat.cast HC.out)).mono ?_
      rintro e w7 ⟨rfl, h7⟩
      have E7 := Lib.hid (E5.out.below h7)
      clear h7 E5
      go_wp2_with fail
      refine (lput_on W _ b 9 St.new v E7.out new_ok HV.out (by omega) (Nat.zero_le _)).mono ?_
      rintro e w8 ⟨rfl, h8⟩
      have B8 := Lib.hid (EncOn.bel h8)
      clear h8 E7
      go_wp2_with fail
      refine (refFind_as p x _ p3 p4 HX2.out).mono ?_
      rintro e w9 ⟨rfl, rfl⟩
      go_wp2_with fail
      refine (newDec_as B s _ HB1.out (by omega)).mono ?_
      rintro e w10 ⟨bd, T, rfl, hD, hT, hb⟩
      obtain ⟨y, hy⟩ : ∃ y, lv (Dt.new (byteF s)) = y := ⟨_, rfl⟩
      obtain ⟨y1, y2⟩ := hy ▸ lv_in (Dt.new (byteF s))
      have HY := Lib.hid hy
      have D10 := Lib.hid hD
      have T10 := Lib.hid (show ∀ k, T k → W.heap.size ≤ k from fun k hk => by have := hT k hk; have := B8.out.size; omega)
      have B10 := Lib.hid (below_trans B8.out hb B8.out.size)
      clear hD hT hb hy B8
      go_wp2_with fail
      refine (ltake_as _ bd T s _ y D10.out (new_dt _) HY.out (Nat.zero_le _) (by omega)).mono ?_
      rintro e w11 ⟨rfl, h11, hF⟩
      have B11 := Lib.hid (B10.out.trans (hF.below (B := W.heap.size) B10.out.size T10.out))
      clear h11 hF HY D10 T10 B10
      go_wp2_with fail
      refine (ltake_no _).mono ?_
      rintro e w12 ⟨rfl, rfl⟩
      go_wp2
      go_ret
      exact ⟨rfl, B11.out⟩

set_option maxHeartbeats 4000000 in
theorem laplPlays_in_lo (v p : Int) (B : ByteArray) (W : World) (hB : B.size ≤ 300) (v1 : -9223372036854775808 ≤ v) (v2 : v ≤ 9223372036854775807) (p1 : -9223372036854775808 ≤ p) (p2 : p ≤ 9223372036854775807)
    (hv : -24 ≤ v ∧ v ≤ 24) (hpx : p < 0) :
    Calls Try.prog 4 #[.int .i64 v, .int .i64 p, .string B] W fun e w' => e = .returned (.bool true) ∧ Below W.heap.size W w' := by
  have h300' : decide (300 < (B.size : Int)) = false := by simp; omega
  obtain ⟨s, hs⟩ : ∃ s : List UInt8, s = B.data.toList := ⟨_, rfl⟩
  have hsB : (⟨s.toArray⟩ : ByteArray) = B := by rw [hs]
  have hsl : s.length ≤ 300 := by rw [hs, ← Lib.size_eq]; omega
  have HB1 := Lib.hid hsB
  clear hs hsB hB
  obtain ⟨x, hx⟩ : ∃ x, fV p = x := ⟨_, rfl⟩
  have hp : ¬ (0 ≤ p ∧ p < 32768) := by omega
  have hz : fB p = false := by unfold fB; simpa using hp
  have hx0 : x = 0 := by rw [← hx]; unfold fV; rw [if_neg hp]
  subst hx0
  have HX := Lib.hid (And.intro hx hz)
  clear hx hz hp
  obtain ⟨S, hS⟩ : ∃ S, (cl v).s = S := ⟨_, rfl⟩
  obtain ⟨U, hU⟩ : ∃ U, (cl v).w = U := ⟨_, rfl⟩
  obtain ⟨b1, b2, b3⟩ := cl_bd hv
  rw [hU] at b1 b2 b3
  rw [hS] at b3
  have HS := Lib.hid hS
  have HU := Lib.hid hU
  obtain ⟨C, hC⟩ : ∃ C, cC v = C := ⟨_, rfl⟩
  obtain ⟨k1, k2, k3⟩ := cost_spec (w := U) (by omega)
  rw [show cost U = C by rw [← hC, ← hU]; rfl] at k1 k2 k3
  have K2 := Lib.hid k2
  have K3 := Lib.hid k3
  have HC := Lib.hid hC
  have HV := Lib.hid hv
  have r1 : ((S : Int) != S) = false := by simp
  have r2 : ((U : Int) != U) = false := by simp
  have r3 : ((C : Int) != C) = false := by simp
  obtain ⟨v3, v4⟩ := hv
  clear hS hU hC k2 k3
  go_enter Try.func4, Try.ntmps4
  go_wp2_with fail
  refine (awake_yes _).mono ?_
  rintro e w1 ⟨rfl, h1⟩
  have B1 := Lib.hid h1
  clear h1
  go_wp2_with fail
  refine (cell_yes v S U _ HV.out (congrArg Nat.cast HS.out) (congrArg Nat.cast HU.out)).mono ?_
  rintro e w2 ⟨rfl, h2⟩
  have B2 := Lib.hid (below_trans B1.out h2 B1.out.size)
  clear h2 B1
  go_wp2_with fail
  refine (find_on p 0 false _ HX.out.1 HX.out.2).mono ?_
  rintro e w3 ⟨rfl, h3⟩
  have B3 := Lib.hid (below_trans B2.out h3 B2.out.size)
  clear h3 B2 HX
  go_wp2_with fail
  refine (newEnc_yes 9 _ (by omega) (by omega)).mono ?_
  intro e w4 h
  obtain ⟨b, rfl, h2⟩ := EncOn.new h
  have E4 := Lib.hid (EncOn.from B3.out h2)
  clear h h2 B3
  go_wp2_with fail
  refine (refCell_as v S U _ HV.out HS.out HU.out).mono ?_
  rintro e w5 ⟨rfl, h5⟩
  have E5 := Lib.hid ((E4.out.below h5).below ((Below.refl _ _).alloc (Nat.le_refl _) (.cells #[.int .i64 S, .int .i64 U, .int .i64 32768] 34)))
  have hA := At.new w5 #[.int .i64 S, .int .i64 U, .int .i64 32768] 34
  have d0 : (w5.alloc (.cells #[.int .i64 S, .int .i64 U, .int .i64 32768] 34)).cell? ⟨w5.heap.size, 0, none⟩ = some (.int .i64 S) := by rw [hA.cell]; rfl
  have d1 : (w5.alloc (.cells #[.int .i64 S, .int .i64 U, .int .i64 32768] 34)).cell? ⟨w5.heap.size, 1, none⟩ = some (.int .i64 U) := by rw [hA.cell]; rfl
  clear h5 E4 hA
  go_wp2
  obtain ⟨w6, hw6⟩ : ∃ w6, w5.alloc (.cells #[.int .i64 S, .int .i64 U, .int .i64 32768] 34) = w6 := ⟨_, rfl⟩
  obtain ⟨g, hg⟩ : ∃ g, w5.heap.size = g := ⟨_, rfl⟩
  rw [hw6, hg] at d0 d1
  rw [hw6] at E5
  rw [hw6, hg]
  clear hw6 hg
  go_loop [16, 17] (fun x y => ∃ n P : Nat, x = .int .i64 n ∧ y = .int .i64 P ∧ n ≤ C ∧ P ≤ 32768 ∧ Hid (32768 / 2 ^ n = P)) (fun x _ => 100 - (intOf x).toNat)
  case atStart => exact ⟨0, 32768, rfl, rfl, by omega, by omega, Lib.hid (by omega)⟩
  case round =>
    obtain ⟨n, P, rfl, rfl, hn, hP, HP⟩ := hrel
    by_cases hlt : n < C
    · have hu : (U : Int) < P := by have := K3.out n hlt; rw [HP.out] at this; omega
      have HN := Lib.hid (half HP.out)
      go_wp2
      go_round
      case rel => exact ⟨n + 1, P / 2, by go_num, by go_num, by omega, by omega, HN⟩
      case measure => simp [intOf]; omega
    · obtain rfl : n = C := by omega
      have hu : (P : Int) ≤ U := by have := K2.out; rw [HP.out] at this; omega
      go_wp2_with fail
      refine (cost_yes v n _ HV.out (congrArg Nat.cast HC.out)).mono ?_
      rintro e w7 ⟨rfl, h7⟩
      have E7 := Lib.hid (E5.out.below h7)
      clear h7 E5
      go_wp2_with fail
      refine (lput_on W _ b 9 St.new v E7.out new_ok HV.out (by omega) (Nat.zero_le _)).mono ?_
      rintro e w8 ⟨rfl, h8⟩
      have B8 := Lib.hid (EncOn.bel h8)
      clear h8 E7
      go_wp2_with fail
      refine (newDec_as B s _ HB1.out (by omega)).mono ?_
      rintro e w10 ⟨bd, T, rfl, hD, hT, hb⟩
      obtain ⟨y, hy⟩ : ∃ y, lv (Dt.new (byteF s)) = y := ⟨_, rfl⟩
      obtain ⟨y1, y2⟩ := hy ▸ lv_in (Dt.new (byteF s))
      have HY := Lib.hid hy
      have D10 := Lib.hid hD
      have T10 := Lib.hid (show ∀ k, T k → W.heap.size ≤ k from fun k hk => by have := hT k hk; have := B8.out.size; omega)
      have B10 := Lib.hid (below_trans B8.out hb B8.out.size)
      clear hD hT hb hy B8
      go_wp2_with fail
      refine (ltake_as _ bd T s _ y D10.out (new_dt _) HY.out (Nat.zero_le _) (by omega)).mono ?_
      rintro e w11 ⟨rfl, h11, hF⟩
      have B11 := Lib.hid (B10.out.trans (hF.below (B := W.heap.size) B10.out.size T10.out))
      clear h11 hF HY D10 T10 B10
      go_wp2_with fail
      refine (ltake_no _).mono ?_
      rintro e w12 ⟨rfl, rfl⟩
      go_wp2
      go_ret
      exact ⟨rfl, B11.out⟩

set_option maxHeartbeats 4000000 in
theorem laplPlays_in_hi (v p : Int) (B : ByteArray) (W : World) (hB : B.size ≤ 300) (v1 : -9223372036854775808 ≤ v) (v2 : v ≤ 9223372036854775807) (p1 : -9223372036854775808 ≤ p) (p2 : p ≤ 9223372036854775807)
    (hv : -24 ≤ v ∧ v ≤ 24) (hpx : 32768 ≤ p) :
    Calls Try.prog 4 #[.int .i64 v, .int .i64 p, .string B] W fun e w' => e = .returned (.bool true) ∧ Below W.heap.size W w' := by
  have h300' : decide (300 < (B.size : Int)) = false := by simp; omega
  obtain ⟨s, hs⟩ : ∃ s : List UInt8, s = B.data.toList := ⟨_, rfl⟩
  have hsB : (⟨s.toArray⟩ : ByteArray) = B := by rw [hs]
  have hsl : s.length ≤ 300 := by rw [hs, ← Lib.size_eq]; omega
  have HB1 := Lib.hid hsB
  clear hs hsB hB
  obtain ⟨x, hx⟩ : ∃ x, fV p = x := ⟨_, rfl⟩
  have hp : ¬ (0 ≤ p ∧ p < 32768) := by omega
  have hz : fB p = false := by unfold fB; simpa using hp
  have hx0 : x = 0 := by rw [← hx]; unfold fV; rw [if_neg hp]
  subst hx0
  have HX := Lib.hid (And.intro hx hz)
  clear hx hz hp
  obtain ⟨S, hS⟩ : ∃ S, (cl v).s = S := ⟨_, rfl⟩
  obtain ⟨U, hU⟩ : ∃ U, (cl v).w = U := ⟨_, rfl⟩
  obtain ⟨b1, b2, b3⟩ := cl_bd hv
  rw [hU] at b1 b2 b3
  rw [hS] at b3
  have HS := Lib.hid hS
  have HU := Lib.hid hU
  obtain ⟨C, hC⟩ : ∃ C, cC v = C := ⟨_, rfl⟩
  obtain ⟨k1, k2, k3⟩ := cost_spec (w := U) (by omega)
  rw [show cost U = C by rw [← hC, ← hU]; rfl] at k1 k2 k3
  have K2 := Lib.hid k2
  have K3 := Lib.hid k3
  have HC := Lib.hid hC
  have HV := Lib.hid hv
  have r1 : ((S : Int) != S) = false := by simp
  have r2 : ((U : Int) != U) = false := by simp
  have r3 : ((C : Int) != C) = false := by simp
  obtain ⟨v3, v4⟩ := hv
  clear hS hU hC k2 k3
  go_enter Try.func4, Try.ntmps4
  go_wp2_with fail
  refine (awake_yes _).mono ?_
  rintro e w1 ⟨rfl, h1⟩
  have B1 := Lib.hid h1
  clear h1
  go_wp2_with fail
  refine (cell_yes v S U _ HV.out (congrArg Nat.cast HS.out) (congrArg Nat.cast HU.out)).mono ?_
  rintro e w2 ⟨rfl, h2⟩
  have B2 := Lib.hid (below_trans B1.out h2 B1.out.size)
  clear h2 B1
  go_wp2_with fail
  refine (find_on p 0 false _ HX.out.1 HX.out.2).mono ?_
  rintro e w3 ⟨rfl, h3⟩
  have B3 := Lib.hid (below_trans B2.out h3 B2.out.size)
  clear h3 B2 HX
  go_wp2_with fail
  refine (newEnc_yes 9 _ (by omega) (by omega)).mono ?_
  intro e w4 h
  obtain ⟨b, rfl, h2⟩ := EncOn.new h
  have E4 := Lib.hid (EncOn.from B3.out h2)
  clear h h2 B3
  go_wp2_with fail
  refine (refCell_as v S U _ HV.out HS.out HU.out).mono ?_
  rintro e w5 ⟨rfl, h5⟩
  have E5 := Lib.hid ((E4.out.below h5).below ((Below.refl _ _).alloc (Nat.le_refl _) (.cells #[.int .i64 S, .int .i64 U, .int .i64 32768] 34)))
  have hA := At.new w5 #[.int .i64 S, .int .i64 U, .int .i64 32768] 34
  have d0 : (w5.alloc (.cells #[.int .i64 S, .int .i64 U, .int .i64 32768] 34)).cell? ⟨w5.heap.size, 0, none⟩ = some (.int .i64 S) := by rw [hA.cell]; rfl
  have d1 : (w5.alloc (.cells #[.int .i64 S, .int .i64 U, .int .i64 32768] 34)).cell? ⟨w5.heap.size, 1, none⟩ = some (.int .i64 U) := by rw [hA.cell]; rfl
  clear h5 E4 hA
  go_wp2
  obtain ⟨w6, hw6⟩ : ∃ w6, w5.alloc (.cells #[.int .i64 S, .int .i64 U, .int .i64 32768] 34) = w6 := ⟨_, rfl⟩
  obtain ⟨g, hg⟩ : ∃ g, w5.heap.size = g := ⟨_, rfl⟩
  rw [hw6, hg] at d0 d1
  rw [hw6] at E5
  rw [hw6, hg]
  clear hw6 hg
  go_loop [16, 17] (fun x y => ∃ n P : Nat, x = .int .i64 n ∧ y = .int .i64 P ∧ n ≤ C ∧ P ≤ 32768 ∧ Hid (32768 / 2 ^ n = P)) (fun x _ => 100 - (intOf x).toNat)
  case atStart => exact ⟨0, 32768, rfl, rfl, by omega, by omega, Lib.hid (by omega)⟩
  case round =>
    obtain ⟨n, P, rfl, rfl, hn, hP, HP⟩ := hrel
    by_cases hlt : n < C
    · have hu : (U : Int) < P := by have := K3.out n hlt; rw [HP.out] at this; omega
      have HN := Lib.hid (half HP.out)
      go_wp2
      go_round
      case rel => exact ⟨n + 1, P / 2, by go_num, by go_num, by omega, by omega, HN⟩
      case measure => simp [intOf]; omega
    · obtain rfl : n = C := by omega
      have hu : (P : Int) ≤ U := by have := K2.out; rw [HP.out] at this; omega
      go_wp2_with fail
      refine (cost_yes v n _ HV.out (congrArg Nat.cast HC.out)).mono ?_
      rintro e w7 ⟨rfl, h7⟩
      have E7 := Lib.hid (E5.out.below h7)
      clear h7 E5
      go_wp2_with fail
      refine (lput_on W _ b 9 St.new v E7.out new_ok HV.out (by omega) (Nat.zero_le _)).mono ?_
      rintro e w8 ⟨rfl, h8⟩
      have B8 := Lib.hid (EncOn.bel h8)
      clear h8 E7
      go_wp2_with fail
      refine (newDec_as B s _ HB1.out (by omega)).mono ?_
      rintro e w10 ⟨bd, T, rfl, hD, hT, hb⟩
      obtain ⟨y, hy⟩ : ∃ y, lv (Dt.new (byteF s)) = y := ⟨_, rfl⟩
      obtain ⟨y1, y2⟩ := hy ▸ lv_in (Dt.new (byteF s))
      have HY := Lib.hid hy
      have D10 := Lib.hid hD
      have T10 := Lib.hid (show ∀ k, T k → W.heap.size ≤ k from fun k hk => by have := hT k hk; have := B8.out.size; omega)
      have B10 := Lib.hid (below_trans B8.out hb B8.out.size)
      clear hD hT hb hy B8
      go_wp2_with fail
      refine (ltake_as _ bd T s _ y D10.out (new_dt _) HY.out (Nat.zero_le _) (by omega)).mono ?_
      rintro e w11 ⟨rfl, h11, hF⟩
      have B11 := Lib.hid (B10.out.trans (hF.below (B := W.heap.size) B10.out.size T10.out))
      clear h11 hF HY D10 T10 B10
      go_wp2_with fail
      refine (ltake_no _).mono ?_
      rintro e w12 ⟨rfl, rfl⟩
      go_wp2
      go_ret
      exact ⟨rfl, B11.out⟩

set_option maxHeartbeats 4000000 in
theorem laplPlays_lo_in (v p : Int) (B : ByteArray) (W : World) (hB : B.size ≤ 300) (v1 : -9223372036854775808 ≤ v) (v2 : v ≤ 9223372036854775807) (p1 : -9223372036854775808 ≤ p) (p2 : p ≤ 9223372036854775807)
    (hvx : v < -24) (hp : 0 ≤ p ∧ p < 32768) :
    Calls Try.prog 4 #[.int .i64 v, .int .i64 p, .string B] W fun e w' => e = .returned (.bool true) ∧ Below W.heap.size W w' := by
  have h300' : decide (300 < (B.size : Int)) = false := by simp; omega
  obtain ⟨s, hs⟩ : ∃ s : List UInt8, s = B.data.toList := ⟨_, rfl⟩
  have hsB : (⟨s.toArray⟩ : ByteArray) = B := by rw [hs]
  have hsl : s.length ≤ 300 := by rw [hs, ← Lib.size_eq]; omega
  have HB1 := Lib.hid hsB
  clear hs hsB hB
  obtain ⟨x, hx⟩ : ∃ x, fV p = x := ⟨_, rfl⟩
  have hz : fB p = true := by unfold fB; simpa using hp
  have hx2 : vI (fI p.toNat) = x := by rw [← hx]; unfold fV; rw [if_pos hp]
  have HX := Lib.hid (And.intro hx (And.intro hz hx2))
  obtain ⟨p3, p4⟩ := hp
  have xne : (x != x) = false := by simp
  clear hx hz hx2
  have HV := Lib.hid (show ¬ (-24 ≤ v ∧ v ≤ 24) by omega)
  have t1 : decide (-24 ≤ v) = false := decide_eq_false (by omega)
  go_enter Try.func4, Try.ntmps4
  go_wp2_with fail
  refine (awake_yes _).mono ?_
  rintro e w1 ⟨rfl, h1⟩
  have B1 := Lib.hid h1
  clear h1
  go_wp2_with fail
  refine (cell_no v _ HV.out).mono ?_
  rintro e w2 ⟨rfl, h2⟩
  have B2 := Lib.hid (below_trans B1.out h2 B1.out.size)
  clear h2 B1
  go_wp2_with fail
  refine (find_on p x true _ HX.out.1 HX.out.2.1).mono ?_
  rintro e w3 ⟨rfl, h3⟩
  have B3 := Lib.hid (below_trans B2.out h3 B2.out.size)
  have HX2 := Lib.hid HX.out.2.2
  clear h3 B2 HX
  go_wp2_with fail
  refine (newEnc_yes 9 _ (by omega) (by omega)).mono ?_
  intro e w4 h
  obtain ⟨b, rfl, h2⟩ := EncOn.new h
  have E4 := Lib.hid (EncOn.from B3.out h2)
  clear h h2 B3
  go_wp2_with fail
  refine (cost_no v _ HV.out).mono ?_
  rintro e w7 ⟨rfl, h7⟩
  have E7 := Lib.hid (E4.out.below h7)
  clear h7 E4
  go_wp2_with fail
  refine (lput_no _ (some ⟨b, 0, none⟩) v HV.out).mono ?_
  rintro e w8 ⟨rfl, h8⟩
  have B8 := Lib.hid (EncOn.bel (E7.out.below h8))
  clear h8 E7
  go_wp2_with fail
  refine (refFind_as p x _ p3 p4 HX2.out).mono ?_
  rintro e w9 ⟨rfl, rfl⟩
  go_wp2_with fail
  refine (newDec_as B s _ HB1.out (by omega)).mono ?_
  rintro e w10 ⟨bd, T, rfl, hD, hT, hb⟩
  obtain ⟨y, hy⟩ : ∃ y, lv (Dt.new (byteF s)) = y := ⟨_, rfl⟩
  obtain ⟨y1, y2⟩ := hy ▸ lv_in (Dt.new (byteF s))
  have HY := Lib.hid hy
  have D10 := Lib.hid hD
  have T10 := Lib.hid (show ∀ k, T k → W.heap.size ≤ k from fun k hk => by have := hT k hk; have := B8.out.size; omega)
  have B10 := Lib.hid (below_trans B8.out hb B8.out.size)
  clear hD hT hb hy B8
  go_wp2_with fail
  refine (ltake_as _ bd T s _ y D10.out (new_dt _) HY.out (Nat.zero_le _) (by omega)).mono ?_
  rintro e w11 ⟨rfl, h11, hF⟩
  have B11 := Lib.hid (B10.out.trans (hF.below (B := W.heap.size) B10.out.size T10.out))
  clear h11 hF HY D10 T10 B10
  go_wp2_with fail
  refine (ltake_no _).mono ?_
  rintro e w12 ⟨rfl, rfl⟩
  go_wp2
  go_ret
  exact ⟨rfl, B11.out⟩

set_option maxHeartbeats 4000000 in
theorem laplPlays_lo_lo (v p : Int) (B : ByteArray) (W : World) (hB : B.size ≤ 300) (v1 : -9223372036854775808 ≤ v) (v2 : v ≤ 9223372036854775807) (p1 : -9223372036854775808 ≤ p) (p2 : p ≤ 9223372036854775807)
    (hvx : v < -24) (hpx : p < 0) :
    Calls Try.prog 4 #[.int .i64 v, .int .i64 p, .string B] W fun e w' => e = .returned (.bool true) ∧ Below W.heap.size W w' := by
  have h300' : decide (300 < (B.size : Int)) = false := by simp; omega
  obtain ⟨s, hs⟩ : ∃ s : List UInt8, s = B.data.toList := ⟨_, rfl⟩
  have hsB : (⟨s.toArray⟩ : ByteArray) = B := by rw [hs]
  have hsl : s.length ≤ 300 := by rw [hs, ← Lib.size_eq]; omega
  have HB1 := Lib.hid hsB
  clear hs hsB hB
  obtain ⟨x, hx⟩ : ∃ x, fV p = x := ⟨_, rfl⟩
  have hp : ¬ (0 ≤ p ∧ p < 32768) := by omega
  have hz : fB p = false := by unfold fB; simpa using hp
  have hx0 : x = 0 := by rw [← hx]; unfold fV; rw [if_neg hp]
  subst hx0
  have HX := Lib.hid (And.intro hx hz)
  clear hx hz hp
  have HV := Lib.hid (show ¬ (-24 ≤ v ∧ v ≤ 24) by omega)
  have t1 : decide (-24 ≤ v) = false := decide_eq_false (by omega)
  go_enter Try.func4, Try.ntmps4
  go_wp2_with fail
  refine (awake_yes _).mono ?_
  rintro e w1 ⟨rfl, h1⟩
  have B1 := Lib.hid h1
  clear h1
  go_wp2_with fail
  refine (cell_no v _ HV.out).mono ?_
  rintro e w2 ⟨rfl, h2⟩
  have B2 := Lib.hid (below_trans B1.out h2 B1.out.size)
  clear h2 B1
  go_wp2_with fail
  refine (find_on p 0 false _ HX.out.1 HX.out.2).mono ?_
  rintro e w3 ⟨rfl, h3⟩
  have B3 := Lib.hid (below_trans B2.out h3 B2.out.size)
  clear h3 B2 HX
  go_wp2_with fail
  refine (newEnc_yes 9 _ (by omega) (by omega)).mono ?_
  intro e w4 h
  obtain ⟨b, rfl, h2⟩ := EncOn.new h
  have E4 := Lib.hid (EncOn.from B3.out h2)
  clear h h2 B3
  go_wp2_with fail
  refine (cost_no v _ HV.out).mono ?_
  rintro e w7 ⟨rfl, h7⟩
  have E7 := Lib.hid (E4.out.below h7)
  clear h7 E4
  go_wp2_with fail
  refine (lput_no _ (some ⟨b, 0, none⟩) v HV.out).mono ?_
  rintro e w8 ⟨rfl, h8⟩
  have B8 := Lib.hid (EncOn.bel (E7.out.below h8))
  clear h8 E7
  go_wp2_with fail
  refine (newDec_as B s _ HB1.out (by omega)).mono ?_
  rintro e w10 ⟨bd, T, rfl, hD, hT, hb⟩
  obtain ⟨y, hy⟩ : ∃ y, lv (Dt.new (byteF s)) = y := ⟨_, rfl⟩
  obtain ⟨y1, y2⟩ := hy ▸ lv_in (Dt.new (byteF s))
  have HY := Lib.hid hy
  have D10 := Lib.hid hD
  have T10 := Lib.hid (show ∀ k, T k → W.heap.size ≤ k from fun k hk => by have := hT k hk; have := B8.out.size; omega)
  have B10 := Lib.hid (below_trans B8.out hb B8.out.size)
  clear hD hT hb hy B8
  go_wp2_with fail
  refine (ltake_as _ bd T s _ y D10.out (new_dt _) HY.out (Nat.zero_le _) (by omega)).mono ?_
  rintro e w11 ⟨rfl, h11, hF⟩
  have B11 := Lib.hid (B10.out.trans (hF.below (B := W.heap.size) B10.out.size T10.out))
  clear h11 hF HY D10 T10 B10
  go_wp2_with fail
  refine (ltake_no _).mono ?_
  rintro e w12 ⟨rfl, rfl⟩
  go_wp2
  go_ret
  exact ⟨rfl, B11.out⟩

set_option maxHeartbeats 4000000 in
theorem laplPlays_lo_hi (v p : Int) (B : ByteArray) (W : World) (hB : B.size ≤ 300) (v1 : -9223372036854775808 ≤ v) (v2 : v ≤ 9223372036854775807) (p1 : -9223372036854775808 ≤ p) (p2 : p ≤ 9223372036854775807)
    (hvx : v < -24) (hpx : 32768 ≤ p) :
    Calls Try.prog 4 #[.int .i64 v, .int .i64 p, .string B] W fun e w' => e = .returned (.bool true) ∧ Below W.heap.size W w' := by
  have h300' : decide (300 < (B.size : Int)) = false := by simp; omega
  obtain ⟨s, hs⟩ : ∃ s : List UInt8, s = B.data.toList := ⟨_, rfl⟩
  have hsB : (⟨s.toArray⟩ : ByteArray) = B := by rw [hs]
  have hsl : s.length ≤ 300 := by rw [hs, ← Lib.size_eq]; omega
  have HB1 := Lib.hid hsB
  clear hs hsB hB
  obtain ⟨x, hx⟩ : ∃ x, fV p = x := ⟨_, rfl⟩
  have hp : ¬ (0 ≤ p ∧ p < 32768) := by omega
  have hz : fB p = false := by unfold fB; simpa using hp
  have hx0 : x = 0 := by rw [← hx]; unfold fV; rw [if_neg hp]
  subst hx0
  have HX := Lib.hid (And.intro hx hz)
  clear hx hz hp
  have HV := Lib.hid (show ¬ (-24 ≤ v ∧ v ≤ 24) by omega)
  have t1 : decide (-24 ≤ v) = false := decide_eq_false (by omega)
  go_enter Try.func4, Try.ntmps4
  go_wp2_with fail
  refine (awake_yes _).mono ?_
  rintro e w1 ⟨rfl, h1⟩
  have B1 := Lib.hid h1
  clear h1
  go_wp2_with fail
  refine (cell_no v _ HV.out).mono ?_
  rintro e w2 ⟨rfl, h2⟩
  have B2 := Lib.hid (below_trans B1.out h2 B1.out.size)
  clear h2 B1
  go_wp2_with fail
  refine (find_on p 0 false _ HX.out.1 HX.out.2).mono ?_
  rintro e w3 ⟨rfl, h3⟩
  have B3 := Lib.hid (below_trans B2.out h3 B2.out.size)
  clear h3 B2 HX
  go_wp2_with fail
  refine (newEnc_yes 9 _ (by omega) (by omega)).mono ?_
  intro e w4 h
  obtain ⟨b, rfl, h2⟩ := EncOn.new h
  have E4 := Lib.hid (EncOn.from B3.out h2)
  clear h h2 B3
  go_wp2_with fail
  refine (cost_no v _ HV.out).mono ?_
  rintro e w7 ⟨rfl, h7⟩
  have E7 := Lib.hid (E4.out.below h7)
  clear h7 E4
  go_wp2_with fail
  refine (lput_no _ (some ⟨b, 0, none⟩) v HV.out).mono ?_
  rintro e w8 ⟨rfl, h8⟩
  have B8 := Lib.hid (EncOn.bel (E7.out.below h8))
  clear h8 E7
  go_wp2_with fail
  refine (newDec_as B s _ HB1.out (by omega)).mono ?_
  rintro e w10 ⟨bd, T, rfl, hD, hT, hb⟩
  obtain ⟨y, hy⟩ : ∃ y, lv (Dt.new (byteF s)) = y := ⟨_, rfl⟩
  obtain ⟨y1, y2⟩ := hy ▸ lv_in (Dt.new (byteF s))
  have HY := Lib.hid hy
  have D10 := Lib.hid hD
  have T10 := Lib.hid (show ∀ k, T k → W.heap.size ≤ k from fun k hk => by have := hT k hk; have := B8.out.size; omega)
  have B10 := Lib.hid (below_trans B8.out hb B8.out.size)
  clear hD hT hb hy B8
  go_wp2_with fail
  refine (ltake_as _ bd T s _ y D10.out (new_dt _) HY.out (Nat.zero_le _) (by omega)).mono ?_
  rintro e w11 ⟨rfl, h11, hF⟩
  have B11 := Lib.hid (B10.out.trans (hF.below (B := W.heap.size) B10.out.size T10.out))
  clear h11 hF HY D10 T10 B10
  go_wp2_with fail
  refine (ltake_no _).mono ?_
  rintro e w12 ⟨rfl, rfl⟩
  go_wp2
  go_ret
  exact ⟨rfl, B11.out⟩

set_option maxHeartbeats 4000000 in
theorem laplPlays_hi_in (v p : Int) (B : ByteArray) (W : World) (hB : B.size ≤ 300) (v1 : -9223372036854775808 ≤ v) (v2 : v ≤ 9223372036854775807) (p1 : -9223372036854775808 ≤ p) (p2 : p ≤ 9223372036854775807)
    (hvx : 24 < v) (hp : 0 ≤ p ∧ p < 32768) :
    Calls Try.prog 4 #[.int .i64 v, .int .i64 p, .string B] W fun e w' => e = .returned (.bool true) ∧ Below W.heap.size W w' := by
  have h300' : decide (300 < (B.size : Int)) = false := by simp; omega
  obtain ⟨s, hs⟩ : ∃ s : List UInt8, s = B.data.toList := ⟨_, rfl⟩
  have hsB : (⟨s.toArray⟩ : ByteArray) = B := by rw [hs]
  have hsl : s.length ≤ 300 := by rw [hs, ← Lib.size_eq]; omega
  have HB1 := Lib.hid hsB
  clear hs hsB hB
  obtain ⟨x, hx⟩ : ∃ x, fV p = x := ⟨_, rfl⟩
  have hz : fB p = true := by unfold fB; simpa using hp
  have hx2 : vI (fI p.toNat) = x := by rw [← hx]; unfold fV; rw [if_pos hp]
  have HX := Lib.hid (And.intro hx (And.intro hz hx2))
  obtain ⟨p3, p4⟩ := hp
  have xne : (x != x) = false := by simp
  clear hx hz hx2
  have HV := Lib.hid (show ¬ (-24 ≤ v ∧ v ≤ 24) by omega)
  have t1 : decide (-24 ≤ v) = true := decide_eq_true (by omega)
  have t2 : decide (v ≤ 24) = false := decide_eq_false (by omega)
  go_enter Try.func4, Try.ntmps4
  go_wp2_with fail
  refine (awake_yes _).mono ?_
  rintro e w1 ⟨rfl, h1⟩
  have B1 := Lib.hid h1
  clear h1
  go_wp2_with fail
  refine (cell_no v _ HV.out).mono ?_
  rintro e w2 ⟨rfl, h2⟩
  have B2 := Lib.hid (below_trans B1.out h2 B1.out.size)
  clear h2 B1
  go_wp2_with fail
  refine (find_on p x true _ HX.out.1 HX.out.2.1).mono ?_
  rintro e w3 ⟨rfl, h3⟩
  have B3 := Lib.hid (below_trans B2.out h3 B2.out.size)
  have HX2 := Lib.hid HX.out.2.2
  clear h3 B2 HX
  go_wp2_with fail
  refine (newEnc_yes 9 _ (by omega) (by omega)).mono ?_
  intro e w4 h
  obtain ⟨b, rfl, h2⟩ := EncOn.new h
  have E4 := Lib.hid (EncOn.from B3.out h2)
  clear h h2 B3
  go_wp2_with fail
  refine (cost_no v _ HV.out).mono ?_
  rintro e w7 ⟨rfl, h7⟩
  have E7 := Lib.hid (E4.out.below h7)
  clear h7 E4
  go_wp2_with fail
  refine (lput_no _ (some ⟨b, 0, none⟩) v HV.out).mono ?_
  rintro e w8 ⟨rfl, h8⟩
  have B8 := Lib.hid (EncOn.bel (E7.out.below h8))
  clear h8 E7
  go_wp2_with fail
  refine (refFind_as p x _ p3 p4 HX2.out).mono ?_
  rintro e w9 ⟨rfl, rfl⟩
  go_wp2_with fail
  refine (newDec_as B s _ HB1.out (by omega)).mono ?_
  rintro e w10 ⟨bd, T, rfl, hD, hT, hb⟩
  obtain ⟨y, hy⟩ : ∃ y, lv (Dt.new (byteF s)) = y := ⟨_, rfl⟩
  obtain ⟨y1, y2⟩ := hy ▸ lv_in (Dt.new (byteF s))
  have HY := Lib.hid hy
  have D10 := Lib.hid hD
  have T10 := Lib.hid (show ∀ k, T k → W.heap.size ≤ k from fun k hk => by have := hT k hk; have := B8.out.size; omega)
  have B10 := Lib.hid (below_trans B8.out hb B8.out.size)
  clear hD hT hb hy B8
  go_wp2_with fail
  refine (ltake_as _ bd T s _ y D10.out (new_dt _) HY.out (Nat.zero_le _) (by omega)).mono ?_
  rintro e w11 ⟨rfl, h11, hF⟩
  have B11 := Lib.hid (B10.out.trans (hF.below (B := W.heap.size) B10.out.size T10.out))
  clear h11 hF HY D10 T10 B10
  go_wp2_with fail
  refine (ltake_no _).mono ?_
  rintro e w12 ⟨rfl, rfl⟩
  go_wp2
  go_ret
  exact ⟨rfl, B11.out⟩

set_option maxHeartbeats 4000000 in
theorem laplPlays_hi_lo (v p : Int) (B : ByteArray) (W : World) (hB : B.size ≤ 300) (v1 : -9223372036854775808 ≤ v) (v2 : v ≤ 9223372036854775807) (p1 : -9223372036854775808 ≤ p) (p2 : p ≤ 9223372036854775807)
    (hvx : 24 < v) (hpx : p < 0) :
    Calls Try.prog 4 #[.int .i64 v, .int .i64 p, .string B] W fun e w' => e = .returned (.bool true) ∧ Below W.heap.size W w' := by
  have h300' : decide (300 < (B.size : Int)) = false := by simp; omega
  obtain ⟨s, hs⟩ : ∃ s : List UInt8, s = B.data.toList := ⟨_, rfl⟩
  have hsB : (⟨s.toArray⟩ : ByteArray) = B := by rw [hs]
  have hsl : s.length ≤ 300 := by rw [hs, ← Lib.size_eq]; omega
  have HB1 := Lib.hid hsB
  clear hs hsB hB
  obtain ⟨x, hx⟩ : ∃ x, fV p = x := ⟨_, rfl⟩
  have hp : ¬ (0 ≤ p ∧ p < 32768) := by omega
  have hz : fB p = false := by unfold fB; simpa using hp
  have hx0 : x = 0 := by rw [← hx]; unfold fV; rw [if_neg hp]
  subst hx0
  have HX := Lib.hid (And.intro hx hz)
  clear hx hz hp
  have HV := Lib.hid (show ¬ (-24 ≤ v ∧ v ≤ 24) by omega)
  have t1 : decide (-24 ≤ v) = true := decide_eq_true (by omega)
  have t2 : decide (v ≤ 24) = false := decide_eq_false (by omega)
  go_enter Try.func4, Try.ntmps4
  go_wp2_with fail
  refine (awake_yes _).mono ?_
  rintro e w1 ⟨rfl, h1⟩
  have B1 := Lib.hid h1
  clear h1
  go_wp2_with fail
  refine (cell_no v _ HV.out).mono ?_
  rintro e w2 ⟨rfl, h2⟩
  have B2 := Lib.hid (below_trans B1.out h2 B1.out.size)
  clear h2 B1
  go_wp2_with fail
  refine (find_on p 0 false _ HX.out.1 HX.out.2).mono ?_
  rintro e w3 ⟨rfl, h3⟩
  have B3 := Lib.hid (below_trans B2.out h3 B2.out.size)
  clear h3 B2 HX
  go_wp2_with fail
  refine (newEnc_yes 9 _ (by omega) (by omega)).mono ?_
  intro e w4 h
  obtain ⟨b, rfl, h2⟩ := EncOn.new h
  have E4 := Lib.hid (EncOn.from B3.out h2)
  clear h h2 B3
  go_wp2_with fail
  refine (cost_no v _ HV.out).mono ?_
  rintro e w7 ⟨rfl, h7⟩
  have E7 := Lib.hid (E4.out.below h7)
  clear h7 E4
  go_wp2_with fail
  refine (lput_no _ (some ⟨b, 0, none⟩) v HV.out).mono ?_
  rintro e w8 ⟨rfl, h8⟩
  have B8 := Lib.hid (EncOn.bel (E7.out.below h8))
  clear h8 E7
  go_wp2_with fail
  refine (newDec_as B s _ HB1.out (by omega)).mono ?_
  rintro e w10 ⟨bd, T, rfl, hD, hT, hb⟩
  obtain ⟨y, hy⟩ : ∃ y, lv (Dt.new (byteF s)) = y := ⟨_, rfl⟩
  obtain ⟨y1, y2⟩ := hy ▸ lv_in (Dt.new (byteF s))
  have HY := Lib.hid hy
  have D10 := Lib.hid hD
  have T10 := Lib.hid (show ∀ k, T k → W.heap.size ≤ k from fun k hk => by have := hT k hk; have := B8.out.size; omega)
  have B10 := Lib.hid (below_trans B8.out hb B8.out.size)
  clear hD hT hb hy B8
  go_wp2_with fail
  refine (ltake_as _ bd T s _ y D10.out (new_dt _) HY.out (Nat.zero_le _) (by omega)).mono ?_
  rintro e w11 ⟨rfl, h11, hF⟩
  have B11 := Lib.hid (B10.out.trans (hF.below (B := W.heap.size) B10.out.size T10.out))
  clear h11 hF HY D10 T10 B10
  go_wp2_with fail
  refine (ltake_no _).mono ?_
  rintro e w12 ⟨rfl, rfl⟩
  go_wp2
  go_ret
  exact ⟨rfl, B11.out⟩

set_option maxHeartbeats 4000000 in
theorem laplPlays_hi_hi (v p : Int) (B : ByteArray) (W : World) (hB : B.size ≤ 300) (v1 : -9223372036854775808 ≤ v) (v2 : v ≤ 9223372036854775807) (p1 : -9223372036854775808 ≤ p) (p2 : p ≤ 9223372036854775807)
    (hvx : 24 < v) (hpx : 32768 ≤ p) :
    Calls Try.prog 4 #[.int .i64 v, .int .i64 p, .string B] W fun e w' => e = .returned (.bool true) ∧ Below W.heap.size W w' := by
  have h300' : decide (300 < (B.size : Int)) = false := by simp; omega
  obtain ⟨s, hs⟩ : ∃ s : List UInt8, s = B.data.toList := ⟨_, rfl⟩
  have hsB : (⟨s.toArray⟩ : ByteArray) = B := by rw [hs]
  have hsl : s.length ≤ 300 := by rw [hs, ← Lib.size_eq]; omega
  have HB1 := Lib.hid hsB
  clear hs hsB hB
  obtain ⟨x, hx⟩ : ∃ x, fV p = x := ⟨_, rfl⟩
  have hp : ¬ (0 ≤ p ∧ p < 32768) := by omega
  have hz : fB p = false := by unfold fB; simpa using hp
  have hx0 : x = 0 := by rw [← hx]; unfold fV; rw [if_neg hp]
  subst hx0
  have HX := Lib.hid (And.intro hx hz)
  clear hx hz hp
  have HV := Lib.hid (show ¬ (-24 ≤ v ∧ v ≤ 24) by omega)
  have t1 : decide (-24 ≤ v) = true := decide_eq_true (by omega)
  have t2 : decide (v ≤ 24) = false := decide_eq_false (by omega)
  go_enter Try.func4, Try.ntmps4
  go_wp2_with fail
  refine (awake_yes _).mono ?_
  rintro e w1 ⟨rfl, h1⟩
  have B1 := Lib.hid h1
  clear h1
  go_wp2_with fail
  refine (cell_no v _ HV.out).mono ?_
  rintro e w2 ⟨rfl, h2⟩
  have B2 := Lib.hid (below_trans B1.out h2 B1.out.size)
  clear h2 B1
  go_wp2_with fail
  refine (find_on p 0 false _ HX.out.1 HX.out.2).mono ?_
  rintro e w3 ⟨rfl, h3⟩
  have B3 := Lib.hid (below_trans B2.out h3 B2.out.size)
  clear h3 B2 HX
  go_wp2_with fail
  refine (newEnc_yes 9 _ (by omega) (by omega)).mono ?_
  intro e w4 h
  obtain ⟨b, rfl, h2⟩ := EncOn.new h
  have E4 := Lib.hid (EncOn.from B3.out h2)
  clear h h2 B3
  go_wp2_with fail
  refine (cost_no v _ HV.out).mono ?_
  rintro e w7 ⟨rfl, h7⟩
  have E7 := Lib.hid (E4.out.below h7)
  clear h7 E4
  go_wp2_with fail
  refine (lput_no _ (some ⟨b, 0, none⟩) v HV.out).mono ?_
  rintro e w8 ⟨rfl, h8⟩
  have B8 := Lib.hid (EncOn.bel (E7.out.below h8))
  clear h8 E7
  go_wp2_with fail
  refine (newDec_as B s _ HB1.out (by omega)).mono ?_
  rintro e w10 ⟨bd, T, rfl, hD, hT, hb⟩
  obtain ⟨y, hy⟩ : ∃ y, lv (Dt.new (byteF s)) = y := ⟨_, rfl⟩
  obtain ⟨y1, y2⟩ := hy ▸ lv_in (Dt.new (byteF s))
  have HY := Lib.hid hy
  have D10 := Lib.hid hD
  have T10 := Lib.hid (show ∀ k, T k → W.heap.size ≤ k from fun k hk => by have := hT k hk; have := B8.out.size; omega)
  have B10 := Lib.hid (below_trans B8.out hb B8.out.size)
  clear hD hT hb hy B8
  go_wp2_with fail
  refine (ltake_as _ bd T s _ y D10.out (new_dt _) HY.out (Nat.zero_le _) (by omega)).mono ?_
  rintro e w11 ⟨rfl, h11, hF⟩
  have B11 := Lib.hid (B10.out.trans (hF.below (B := W.heap.size) B10.out.size T10.out))
  clear h11 hF HY D10 T10 B10
  go_wp2_with fail
  refine (ltake_no _).mono ?_
  rintro e w12 ⟨rfl, rfl⟩
  go_wp2
  go_ret
  exact ⟨rfl, B11.out⟩


theorem i64_bd {a : Int} (h : (Lit.int .i64 a).wf = true) : -9223372036854775808 ≤ a ∧ a ≤ 9223372036854775807 := by
  simpa [Lit.wf, IntKind.min, IntKind.max, IntKind.bits, IntKind.signed] using h
theorem laplPlays_any (v p : Int) (B : ByteArray) (W : World) (h1 : (Lit.int .i64 v).wf = true) (h2 : (Lit.int .i64 p).wf = true) (hB : B.size ≤ maxLen) :
    Calls Try.prog 4 #[.int .i64 v, .int .i64 p, .string B] W fun e w' => e = .returned (.bool true) ∧ Below W.heap.size W w' := by
  obtain ⟨v1, v2⟩ := i64_bd h1
  obtain ⟨p1, p2⟩ := i64_bd h2
  by_cases h300 : 300 < B.size
  · exact laplPlays_long v p B W hB h300
  · have hB' : B.size ≤ 300 := by omega
    have hv : (-24 ≤ v ∧ v ≤ 24) ∨ v < -24 ∨ 24 < v := by omega
    have hp : (0 ≤ p ∧ p < 32768) ∨ p < 0 ∨ 32768 ≤ p := by omega
    rcases hv with hv | hv | hv <;> rcases hp with hp | hp | hp
    · exact laplPlays_in_in v p B W hB' v1 v2 p1 p2 hv hp
    · exact laplPlays_in_lo v p B W hB' v1 v2 p1 p2 hv hp
    · exact laplPlays_in_hi v p B W hB' v1 v2 p1 p2 hv hp
    · exact laplPlays_lo_in v p B W hB' v1 v2 p1 p2 hv hp
    · exact laplPlays_lo_lo v p B W hB' v1 v2 p1 p2 hv hp
    · exact laplPlays_lo_hi v p B W hB' v1 v2 p1 p2 hv hp
    · exact laplPlays_hi_in v p B W hB' v1 v2 p1 p2 hv hp
    · exact laplPlays_hi_lo v p B W hB' v1 v2 p1 p2 hv hp
    · exact laplPlays_hi_hi v p B W hB' v1 v2 p1 p2 hv hp
end Go.Proofs.Ytidbagkkkpfkbaa.Lp
