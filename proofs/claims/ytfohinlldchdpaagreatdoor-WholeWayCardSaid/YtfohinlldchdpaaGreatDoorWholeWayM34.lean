/- Texts of the walk, one behind the other. -/
import Derived.Test.YtfohinlldchdpaaGreatDoorWholeWayM23
import Derived.Test.YtfohinlldchdpaaGreatDoorWholeWayM27
import Derived.Test.YtfohinlldchdpaaGreatDoorWholeWayM29
import Derived.Test.YtfohinlldchdpaaGreatDoorWholeWayM30
import Derived.Test.YtfohinlldchdpaaGreatDoorWholeWayM21
import Derived.Test.YtfohinlldchdpaaGreatDoorWholeWayM32
import Derived.Test.YtfohinlldchdpaaGreatDoorWholeWayM33

section
/- Contracts: enc's pulses and putPulses. -/
set_option maxRecDepth 100000
set_option linter.unusedVariables false
namespace Go.Proofs.YtfohinlldchdpaaGreatDoor.En
open Go.RowKit Go.Proofs.YtfohinlldchdpaaGreatDoor.Row Go.Proofs.YtfohinlldchdpaaGreatDoor.Rg

/-- A wave brought near. -/
def hdW (x : Nat → Int) (i : Nat) : Int := max (-1048576) (min (x i) 1048576)
theorem hd_bd (x : Nat → Int) (i : Nat) : -1048576 ≤ hdW x i ∧ hdW x i ≤ 1048576 := by unfold hdW; omega
theorem hd_ok (x : Nat → Int) {n : Nat} (h0 : 0 < n) (h8 : n ≤ 8) : Sh.okC (hdW x) n = true := (Sh.okC_iff _ _).2 ⟨h0, h8, fun i _ => hd_bd x i⟩
theorem fs_sm (c : Nat → Int) {n : Nat} (h0 : 0 < n) (k : Nat) : Ve.sm (Sh.fS c n k) n = k := by
  unfold Ve.sm
  rw [S_eq]
  have h := Sh.y_sum (u := Sh.sz c) (n := n) h0 k
  rw [← h]
  exact Sh.S_congr fun i _ => by rw [h]; exact Sh.f_abs _ _ _ _
theorem Keeps.of_below {A : Nat → Prop} {w w' : World} {n : Nat} (hA : ∀ k, A k → k < n) (h : Below n w w') : Keeps A w w' := fun k hk => h.block k (hA k hk)

set_option maxHeartbeats 400000 in
theorem pulses_as (a : Option Addr) (n c K : Nat) (x : Nat → Int) (w : World) (hS : Sl .i64 w a n c x) (h0 : 0 < n) (h8 : n ≤ 8) (hK : K ≤ 8) :
    Calls Tryz.prog 121 #[.slice a n c, .int .i64 K] w fun e w' => Lv.RetRow w w' e n (Sh.fS (hdW x) n K) := by
  obtain ⟨b, o, rfl, hc⟩ := hS.2.2 h0
  have F0 := Lib.hid (Lv.FillS.start w n (hdW x))
  have HC := Lib.hid hc
  have HOK := Lib.hid (hd_ok x h0 h8)
  clear hS hc
  go_enter Tryz.func121, Tryz.ntmps121
  go_wp2_with (at_make; refine wpList_make_rowL (hdW x) rfl _ _ rfl n _ _ rfl rfl (by omega) ?_)
  go_loopw [15] (fun i w' => ∃ k : Nat, k ≤ n ∧ i = .int .i64 k ∧ Hid (Lv.FillS w n (hdW x) k w')) (fun i _ => n - (intOf i).toNat)
  case atStart => exact ⟨0, Nat.zero_le _, rfl, F0⟩
  case round =>
    obtain ⟨k, hk, rfl, HS⟩ := hrel
    clear F0
    by_cases hlt : k < n
    · have c0 := (Below.cell HS.out.1 (block_lt_of_cell (HC.out k hlt))).trans (HC.out k hlt)
      have c1 := rowL_cell HS.out.2 k hlt
      have f1 := HS.out.2.frozen k
      have HV := Lib.hid (show hdW x k = max (-1048576) (min (x k) 1048576) from rfl)
      obtain ⟨y, hy⟩ : ∃ y, x k = y := ⟨_, rfl⟩
      rw [hy] at c0 HV
      obtain ⟨u, hu⟩ : ∃ u, min y 1048576 = u := ⟨_, rfl⟩
      have hmin : ∀ W, (Builtin.min_ #[3, 3] 3 #[.int .i64 y, .int .i64 1048576]).run Tryz.prog W = .ok (.int .i64 u) W := fun W => by
        rw [← hu]
        simp [Builtin.min_, Builtin.min2]
        split <;> omega
      rw [hu] at HV
      obtain ⟨v, hv⟩ : ∃ v, max (-1048576) u = v := ⟨_, rfl⟩
      have hmax : ∀ W, (Builtin.max_ #[3, 3] 3 #[.int .i64 (-1048576), .int .i64 u]).run Tryz.prog W = .ok (.int .i64 v) W := fun W => by
        rw [← hv]
        simp [Builtin.max_, Builtin.max2]
        split <;> omega
      rw [hv] at HV
      clear hy hu hv
      go_wp2_with fail
      go_roundw
      case rel => exact ⟨k + 1, by omega, by go_num, Lib.hid (by rw [← HV.out]; exact HS.out.put hlt)⟩
      case measure => simp [intOf]; omega
    · obtain rfl : k = n := by omega
      have HR := Lib.hid (show Sl .i64 wr (some ⟨w.heap.size, 0, none⟩) k k (hdW x) from ⟨Nat.le_refl _, by unfold maxLen; omega, fun _ => ⟨_, _, rfl, fun i hi => by rw [Nat.zero_add]; exact (isRow k (hdW x)).cell HS.out.2 i hi⟩⟩)
      have HF := Lib.hid (Sh.find_yes _ k k K (hdW x) wr HR.out HOK.out hK)
      go_wp2_with fail
      refine HF.out.mono ?_
      rintro e w1 ⟨g, U, rfl, hg, hU, hA, hb⟩
      have HZ := Lib.hid (show Lv.RetRow w w1 (.returned (.slice (some ⟨g, 0, none⟩) k k)) k (Sh.fS (hdW x) k K) from ⟨g, U, rfl, by have := HS.out.1.size; omega, hU, hA, below_trans HS.out.1 hb HS.out.1.size⟩)
      clear hg hU hA hb
      go_wp2_with fail
      go_ret
      exact HZ.out

set_option maxHeartbeats 400000 in
theorem putPulses_off (w0 w : World) (b size : Nat) (x : St) (A : Nat → Prop) (a : Option Addr) (n c K P : Nat) (u : Nat → Int) (hE : EncOff w0 b size x A w) (hx : x.ok) (hsz : size ≤ 4096) (hg : x.g ≤ 90000)
    (hS : Sl .i64 w a n c u) (h0 : 0 < n) (h8 : n ≤ 8) (hK : K ≤ 8) (hP : Ve.bI n K = P) (hP24 : P ≤ 24) (hI : Ve.num (Sh.fS (hdW u) n K) n K < 2 ^ P) :
    Calls Tryz.prog 78 #[.pointer (some ⟨b, 0, none⟩), .slice a n c, .int .i64 K] w fun e w' => e = .returned (.tuple #[]) ∧ EncOff w0 b size (x.run (bitsC 3 (Ve.num (Sh.fS (hdW u) n K) n K) P)) A w' ∧ Keeps A w w' := by
  have HU := Lib.hid (pulses_as a n c K u w hS h0 h8 hK)
  have HSM := Lib.hid (fs_sm (hdW u) h0 K)
  obtain ⟨f, hf⟩ : ∃ f, Sh.fS (hdW u) n K = f := ⟨_, rfl⟩
  rw [hf] at HU HSM hI ⊢
  have HPI := Lib.hid (show Ve.pI f n = K by unfold Ve.pI; rw [if_pos h8, HSM.out]; omega)
  have HFB := Lib.hid (show ∀ i, i < n → -9223372036854775808 ≤ f i ∧ f i ≤ 9223372036854775807 from fun i hi => by
    have := De.sm_at (f := f) hi
    rw [HSM.out] at this
    omega)
  obtain ⟨q, hq⟩ : ∃ q, Ve.num f n K = q := ⟨_, rfl⟩
  have HNU := Lib.hid (fun (g : Nat) w' (h : Sl .i64 w' (some ⟨g, 0, none⟩) n n f) => Ve.number_yes (some ⟨g, 0, none⟩) n n K f w' h HFB.out HPI.out hK)
  rw [hq] at HNU hI ⊢
  have HE := Lib.hid hE
  have HX := Lib.hid hx
  have HI := Lib.hid hI
  have HBI := Lib.hid hP
  clear hE hx hS hf hq hI hP
  go_enter Tryz.func78, Tryz.ntmps78
  go_wp2_with fail
  refine HU.out.mono ?_
  rintro e w1 ⟨g, U, rfl, hg1, hU1, hA1, hb1⟩
  have HB1 := Lib.hid hb1
  have HS1 := Lib.hid (show Sl .i64 w1 (some ⟨g, 0, none⟩) n n f from ⟨Nat.le_refl _, by unfold maxLen; omega, fun _ => ⟨_, _, rfl, fun i hi => by rw [Nat.zero_add]; exact hU1.cell hA1 i hi⟩⟩)
  clear hg1 hU1 hA1 hb1
  go_wp2_with fail
  refine (HNU.out g w1 HS1.out).mono ?_
  rintro e w2 ⟨rfl, hb2⟩
  have HB2 := Lib.hid (below_trans HB1.out hb2 HB1.out.size)
  clear hb2
  go_wp2_with fail
  refine (Ve.bits_as n K P _ HBI.out).mono ?_
  rintro e w3 ⟨rfl, hb3⟩
  have HB3 := Lib.hid (below_trans HB2.out hb3 HB2.out.size)
  clear hb3
  have HE3 := Lib.hid (HE.out.below HB3.out)
  have HK3 := Lib.hid (show Keeps A w w3 from by obtain ⟨_, _, _, _, h4⟩ := HE.out; exact Keeps.of_below h4 HB3.out)
  obtain ⟨T, t1, t2, t3, t4⟩ := HE3.out
  have HT := Lib.hid t1
  have HT2 := Lib.hid t2
  have HT3 := Lib.hid t3
  have HT4 := Lib.hid t4
  clear t1 t2 t3 t4
  go_wp2_with fail
  refine (encBits_as w3 b T size x q P HT.out HX.out hsz hg hP24 HI.out).mono ?_
  rintro e w4 ⟨rfl, h4⟩
  have HG := Lib.hid (EncOff.go HT2.out HT3.out HT4.out h4)
  clear h4
  go_wp2_with fail
  go_end0
  exact ⟨rfl, HG.out.1, HK3.out.trans HG.out.2⟩
end Go.Proofs.YtfohinlldchdpaaGreatDoor.En
end
