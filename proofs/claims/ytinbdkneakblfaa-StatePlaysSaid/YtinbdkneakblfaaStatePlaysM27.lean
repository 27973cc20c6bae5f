/- Texts of the walk, one behind the other. -/
import Derived.Test.YtinbdkneakblfaaStatePlaysM26

section
/- Contracts: state.Bytes of right states. -/
set_option maxRecDepth 100000
set_option linter.unusedVariables false
namespace Go.Proofs.Ytinbdkneakblfaa.Sta
open Go.RowKit Go.Proofs.Ytinbdkneakblfaa.Row
attribute [local irreducible] wds bts stL wordL byteL

set_option maxHeartbeats 1000000 in
theorem bytes_yes (T : Array Value) (f : Nat → Int) (w : World) (hT : IsRow 38 f T) (h : Rt f) : Calls Try.prog 10 #[.agg T] w (RetTx w (stL f) 0) := by
  obtain ⟨Z, hZ, hZ0, hz, hi⟩ := zero_p
  obtain ⟨_, _, _, _, hi4⟩ := zero_4
  obtain ⟨i0, hi0, hz0, hs0, hb0⟩ := info_byte
  have hmf : ∀ (fn : Fn) (first cap : Array Value) (w : World), (Instr.makeFunc fn first cap).run Try.prog w = .ok (.func fn first cap) w := fun _ _ _ _ => rfl
  have HI := Lib.hid hi
  have HI4 := Lib.hid hi4
  have HT := Lib.hid hT
  have HN := Lib.hid h
  have HA := Lib.hid (At.new w T 32)
  have HB := Lib.hid ((Below.refl w.heap.size w).alloc (Nat.le_refl _) (.cells T 32))
  have HI0 := Lib.hid hi0
  have HZ2 := Lib.hid hz0
  have HS0 := Lib.hid hs0
  have HBY := Lib.hid hb0
  clear hT hZ0 hi hZ h hi4 hi0 hz0 hs0 hb0
  go_enter Try.func10, Try.ntmps10
  go_wp2_with (refine wpList_load_all (by rfl) 32 _ rfl w.heap.size rfl HT.out HA.out Try.underlying32 rfl HI.out ?_)
  revert HA HB
  generalize w.alloc (.cells T 32) = W
  intro HA HB
  refine (right_yes T f W HT.out HN.out).mono ?_
  rintro e W1 ⟨rfl, hw⟩
  have HA1 := Lib.hid (HA.out.below hw HA.out.lt)
  have HB1 := Lib.hid (below_trans HB.out hw HB.out.size)
  clear hw HA HB
  clear W
  go_wp2_with (refine wpList_make_own _ rfl _ _ 48 rfl 0 5 i0 (.int .u8 0) 1 Try.underlying48 HI0.out HZ2.out HS0.out .i64 .i64 137 137 rfl rfl rfl (by rw [HBY.out]; omega) (by unfold maxLen; omega) (by omega) ?_; intro W2 hown hgr; have HS := Lib.hid (BtS.start HA1.out HB1.out hown hgr); clear hown hgr)
  clear HA1 HB1 HI0 HZ2 HS0 HBY hmf
  revert HS
  generalize W2.alloc _ = V
  generalize W2.heap.size = b
  generalize W1.heap.size = g
  intro HS
  clear W1 W2 i0
  have hbg := HS.out.2.1
  have hgg := HS.out.2.2.1
  refine (words_as _ 16 16 f b g 0 [] V (Sl.part HT.out HS.out.2.2.2.2.1 (by omega) (by unfold maxLen; omega) fun i _ => by rw [Nat.zero_add]) (fun p hp => by injection hp with hp; subst hp; exact ⟨by show w.heap.size ≠ b; omega, by show w.heap.size ≠ g; omega⟩) (by omega) HS.out.wd (by omega)).mono ?_
  rintro e V1 ⟨rfl, hV⟩
  have HS1 := Lib.hid (HS.out.words hV)
  clear hV HS V
  have c16 := HT.out.cell HS1.out.2.2.2.2.1 16 (by omega)
  obtain ⟨x16, hx16⟩ : ∃ x, f 16 = x := ⟨_, rfl⟩
  rw [hx16] at c16
  have HX := Lib.hid hx16
  clear hx16
  go_wp2_with fail
  clear c16
  have HSl := Lib.hid (Sl.one V1 x16)
  have HS2 := Lib.hid (HS1.out.alloc (.cells #[.int .i64 x16] 3))
  have hbs := HS1.out.2.2.2.2.2.1.lt
  have hgs := HS1.out.2.2.2.2.2.2.1.lt
  clear HS1
  revert HSl HS2
  generalize V1.alloc _ = V
  intro HSl HS2
  refine (words_as _ 1 1 (fun _ => x16) b g 64 _ V HSl.out (fun p hp => by injection hp with hp; subst hp; exact ⟨by show V1.heap.size ≠ b; omega, by show V1.heap.size ≠ g; omega⟩) (by omega) HS2.out.wd (by omega)).mono ?_
  rintro e V2 ⟨rfl, hV⟩
  have HS := Lib.hid (HS2.out.words hV)
  rw [List.nil_append, wds_add f x16 16 HX.out] at HS
  clear hV HS2 HSl hbs hgs HX V
  generalize V1.heap.size = s1
  clear V1
  obtain ⟨M, hM⟩ : ∃ M, T.extract 17 (17 + 4) = M := ⟨_, rfl⟩
  have HV := Lib.hid (HT.out.sub (show 17 + 4 ≤ 38 by omega))
  rw [hM] at HV
  clear hM
  have HR := Lib.hid HN.out.2.2.1
  have HR2 := Lib.hid HN.out.2.2.2.2
  clear HN
  go_wp2_with (refine wpList_load_part (by rfl) 23 _ rfl w.heap.size 17 rfl HT.out HS.out.2.2.2.2.1 HV.out (by omega) (fun i _ => rfl) Try.underlying23 rfl (HI4.out _ HV.out.1) ?_)
  rw [← bts_0 (fun i => f (17 + i)) (wds f (16 + 1))] at HS
  go_loopw [24] (fun i w' => ∃ k : Nat, k ≤ 4 ∧ i = .int .i64 k ∧ Hid (BtS w T b g (68 + k) (wds f 17 ++ bts (fun i => f (17 + i)) k) w')) (fun i _ => 4 - (intOf i).toNat)
  case atStart => exact ⟨0, by omega, rfl, HS⟩
  case round =>
    obtain ⟨k, hk, rfl, HW⟩ := hrel
    clear HS
    by_cases hlt : k < 4
    · have k1 : (k : Int) < 4 := by omega
      have hcell : M[k]? = some (.int .i64 (f (17 + k))) := HV.out.2.2 k hlt
      have hrx := HR.out k hlt
      obtain ⟨x, hx⟩ : ∃ x, f (17 + k) = x := ⟨_, rfl⟩
      have HE := Lib.hid (bts_s (fun i => f (17 + i)) k x hx (wds f 17))
      rw [hx] at hcell hrx
      clear hx
      obtain ⟨x0, x1⟩ := hrx
      obtain ⟨L, hL⟩ : ∃ L, wds f 17 ++ bts (fun i => f (17 + i)) k = L := ⟨_, rfl⟩
      obtain ⟨L', hL'⟩ : ∃ L, wds f 17 ++ bts (fun i => f (17 + i)) (k + 1) = L := ⟨_, rfl⟩
      rw [hL] at HW
      rw [hL, hL'] at HE
      have HQ := Lib.hid hL'
      have c4 := cell_of_row _ _ 0 _ _ _ HW.out.2.2.2.2.2.1
      simp only [List.getElem?_toArray, List.getElem?_cons_zero] at c4
      have f4 := HW.out.2.2.2.2.2.1.frozen 0
      have hbs := HW.out.2.2.2.2.2.1.lt
      have hgs := HW.out.2.2.2.2.2.2.1.lt
      have hidx : ∀ w' : World, (Instr.index 23 (.agg M) (.int .i64 (k : Int))).run Try.prog w' = .ok (.int .i64 x) w' := fun w' => run_index Try.underlying23 hlt hcell w'
      clear hcell HR HR2 HV hL hL' HT HI HI4
      go_wp2_with (
        (refine wpList_app rfl _ _ 48 rfl (r := 68 + (k + 1)) rfl rfl (HW.out.alloc (.cells #[.int .u8 x] 5)).2.2.2.2.2.2.1 HW.out.2.2.2.2.2.2.2 (byteL_len x) (src_byte x x0 (by omega)) (by omega) (by omega) ?_
         intro C hC
         have HW3 := Lib.hid ((HW.out.alloc (.cells #[.int .u8 x] 5)).putr (byteL_len x) (show 68 + k + 1 = 68 + (k + 1) by omega) hC)
         rw [HE.out] at HW3
         have cB := cell_of_row _ _ 0 _ _ _ ((HW.out.alloc (.cells #[.int .u8 x] 5)).2.2.2.2.2.1.setRow_other (C := C) HW.out.2.2.2.1)
         simp only [List.getElem?_toArray, List.getElem?_cons_zero] at cB
         have fB := ((HW.out.alloc (.cells #[.int .u8 x] 5)).2.2.2.2.2.1.setRow_other (C := C) HW.out.2.2.2.1).frozen 0
         clear hC HW HE))
      go_roundw
      case rel => exact ⟨k + 1, by omega, by go_num, by rw [HQ.out]; exact HW3⟩
      case measure => simp [intOf]; omega
    · have e4 : k = 4 := by omega
      have hn4 : ¬ (k : Int) < 4 := by omega
      rw [e4] at HW
      clear e4 hk hlt HR HV
      go_wp2_with fail
      clear hn4
      obtain ⟨L, hL⟩ : ∃ L, wds f 17 ++ bts (fun i => f (17 + i)) 4 = L := ⟨_, rfl⟩
      have HL := Lib.hid hL
      rw [hL] at HW
      clear hL
      refine (words_as _ 16 16 (fun i => f (21 + i)) b g (68 + 4) L wr (Sl.of_part HT.out HW.out.2.2.2.2.1 21 16 (by omega) (by unfold maxLen; omega)) (fun p hp => by injection hp with hp; subst hp; exact ⟨by show w.heap.size ≠ b; omega, by show w.heap.size ≠ g; omega⟩) (by omega) HW.out.wd (by omega)).mono ?_
      rintro e V3 ⟨rfl, hV⟩
      have HS := Lib.hid (HW.out.words hV)
      clear hV HW
      obtain ⟨L2, hL2⟩ : ∃ L2, L ++ wds (fun i => f (21 + i)) 16 = L2 := ⟨_, rfl⟩
      rw [hL2] at HS
      obtain ⟨x, hx⟩ : ∃ x, f 37 = x := ⟨_, rfl⟩
      have HE := Lib.hid (show L2 ++ byteL x = stL f by rw [← hL2, ← HL.out]; exact st_end f x hx)
      have c37 := HT.out.cell HS.out.2.2.2.2.1 37 (by omega)
      obtain ⟨x0, x1⟩ := HR2.out
      rw [hx] at c37 x0 x1
      have c4 := cell_of_row _ _ 0 _ _ _ HS.out.2.2.2.2.2.1
      simp only [List.getElem?_toArray, List.getElem?_cons_zero] at c4
      clear hx hL2 HL HR2 HT HI HI4
      have HF := Lib.hid (stL_len f)
      obtain ⟨L3, hL3⟩ : ∃ L3, stL f = L3 := ⟨_, rfl⟩
      rw [hL3] at HE HF
      have HQ := Lib.hid hL3
      clear hL3
      have hbs := HS.out.2.2.2.2.2.1.lt
      have hgs := HS.out.2.2.2.2.2.2.1.lt
      go_wp2_with (
        (refine wpList_app rfl _ _ 48 rfl (r := 137) rfl rfl (HS.out.alloc (.cells #[.int .u8 x] 5)).2.2.2.2.2.2.1 HS.out.2.2.2.2.2.2.2 (byteL_len x) (src_byte x x0 x1) (by omega) (by omega) ?_
         intro C hC
         have HW3 := Lib.hid ((HS.out.alloc (.cells #[.int .u8 x] 5)).putr (byteL_len x) (show 68 + 4 + 4 * 16 + 1 = 137 by omega) hC)
         rw [HE.out] at HW3
         have cB := cell_of_row _ _ 0 _ _ _ ((HS.out.alloc (.cells #[.int .u8 x] 5)).2.2.2.2.2.1.setRow_other (C := C) HS.out.2.2.2.1)
         simp only [List.getElem?_toArray, List.getElem?_cons_zero] at cB
         have fB := ((HS.out.alloc (.cells #[.int .u8 x] 5)).2.2.2.2.2.1.setRow_other (C := C) HS.out.2.2.2.1).frozen 0
         have c5 := cell_of_row _ _ 0 _ _ _ HW3.out.2.2.2.2.2.1
         simp only [List.getElem?_toArray, List.getElem?_cons_zero] at c5
         have hcv := conv_txt (c := 137) HW3.out.2.2.2.2.2.2.1 HF.out
         clear hC HS HE))
      go_ret2
      exact ⟨by rw [HQ.out]; rfl, HW3.out.1⟩
end Go.Proofs.Ytinbdkneakblfaa.Sta
end
