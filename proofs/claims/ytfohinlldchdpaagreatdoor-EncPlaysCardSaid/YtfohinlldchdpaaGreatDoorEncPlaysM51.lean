/- Texts of the walk, one behind the other. -/
import Derived.Test.YtfohinlldchdpaaGreatDoorEncPlaysM38
import Derived.Test.YtfohinlldchdpaaGreatDoorEncPlaysM50

section
/- EncPlays: the walks. Written by g47.py. -/
set_option maxRecDepth 100000
set_option linter.unusedVariables false
namespace Go.Proofs.YtfohinlldchdpaaGreatDoor.En.Pl
open Go.RowKit Go.Proofs.YtfohinlldchdpaaGreatDoor.Row Rg Md Tl Sta En
open List (setIfInBounds_toArray set_cons_zero set_cons_succ)
open Lib (hid)

set_option maxHeartbeats 4000000 in
theorem encPlays_size (T F : Array Value) (f x : Nat → Int) (m : Int) (w : World) (hT : IsRow 55 f T) (hF : IsRow 16 x F) (hm : m < 10 ∨ 32 < m) (hTab : Lv.Tab w) :
    Calls Tryz.prog 6 #[.agg T, .agg F, .int .i64 m] w fun e w' => e = .returned (.bool true) ∧ Below w.heap.size w w' := by
  obtain ⟨Ze, hZe, _, hze, hie⟩ := zero_ep
  obtain ⟨Zr, hZr, _, hzr, hir⟩ := zero_er
  obtain ⟨_, _, _, _, hia⟩ := zero_a
  obtain ⟨G, hG, bG⟩ := ebuilt_0 isEn_p
  obtain ⟨B, hB⟩ : ∃ B : ByteArray, B = ⟨#[]⟩ := ⟨_, rfl⟩
  obtain ⟨Q, hQ⟩ : ∃ Q, IsRow 55 (fun _ => 0) Q := ⟨_, isRow _ _⟩
  have HEN := hid (show ∀ w' : World, Lv.Tab w' → Calls Tryz.prog 12 #[.agg T, .agg F, .int .i64 m] w' fun e w'' => e = .returned (.tuple #[.string B, .agg Q, .int .i64 10]) ∧ Below w'.heap.size w' w'' from fun w' _ => by rw [hB]; exact as_E (encode_size T F f x m w' hT hF hm) hQ)
  have HBE := hid hB
  have e1 := en_eq_p hQ hG (fun _ _ => rfl)
  obtain ⟨r, hr⟩ : ∃ r : Bool, r = true ↔ Re f := by
    by_cases h : Re f
    · exact ⟨true, by simp [h]⟩
    · exact ⟨false, by simp [h]⟩
  have HR1 := hid (fun w => eright_any T f r w hT hr)
  have HR2 := hid (fun w => refRight_en T f r w hT hr)
  have HQ := hid hQ
  have HW := hid (Duo.start (Below.refl w.heap.size w) T F 27 22)
  have HT := hid hT
  have HF := hid hF
  have HIE := hid hie
  have HIR := hid hir
  have HIA := hid hia
  have HZE := hid hZe.1
  have HZR := hid hZr.1
  have HG := hid hG
  have HBG := hid bG
  have HTAB := hid hTab
  clear hT hF hie hir hia hZe hZr hG bG hTab hB hQ
  go_enter Tryz.func6, Tryz.ntmps6
  go_wp2_with fail
  refine (awake_as _ (HTAB.out.next HW.out.1)).mono ?_
  rintro e W1 ⟨rfl, hb⟩
  replace HW := hid (HW.out.next hb)
  clear hb
  have HTW := hid (HTAB.out.next HW.out.1)
  go_wp2_with fail
  refine mv_start fun hS => ?_
  refine mv_yield (i := 0) (d := 15) (.agg T) rfl rfl (by kernel_rfl) (by kernel_rfl) (by kernel_rfl) hS (y_load_part (l := 0) (by rfl) rfl rfl HT.out (fun w' h => HW.out.2.2.1.below h HW.out.2.2.1.lt) HT.out (by omega) (fun i _ => by rw [Nat.zero_add]) Tryz.underlying27 rfl (HIR.out _ HT.out.1)) ?_
  simp only [Act.put, setIfInBounds_toArray, set_cons_zero, set_cons_succ]
  refine mv_yield (i := 2) (d := 17) (.agg F) rfl rfl (by kernel_rfl) (by kernel_rfl) (by kernel_rfl) hS (y_load_part (l := 0) (by rfl) rfl rfl HF.out (fun w' h => HW.out.2.2.2.below h HW.out.2.2.2.lt) HF.out (by omega) (fun i _ => by rw [Nat.zero_add]) Tryz.underlying22 rfl (HIA.out _ HF.out.1)) ?_
  simp only [Act.put, setIfInBounds_toArray, set_cons_zero, set_cons_succ]
  refine mv_yield (i := 3) (d := 18) (.int .i64 m) rfl rfl (by kernel_rfl) (by kernel_rfl) (by kernel_rfl) hS (y_run (by rfl) fun _ => by rfl) ?_
  simp only [Act.put, setIfInBounds_toArray, set_cons_zero, set_cons_succ]
  refine parD0 (fuel := 2) [1, 4, 5, 6, 7, 8, 9, 10] [1, 4, 5, 6, 7, 9, 10] 8 (fun i => i == 9) (fun i => if i = 1 then .agg T else if i = 4 then .tuple #[.string B, .agg Q, .int .i64 10] else if i = 5 then .tuple #[.string B, .agg Q, .int .i64 10] else if i = 6 then .string B else if i = 7 then .agg Q else if i = 8 then .int .i64 10 else .string B) (fun i => Ze) (fun i => 36) #[true, true, true, true, true, true, true, true, false, true, true, false, false] #[true, true, true, true, true, true, true, true, true, true, true, false, false] _ rfl (by decide) (by decide) (by decide) rfl (by kernel_rfl) (by kernel_rfl) (by kernel_rfl) (by decide) rfl rfl rfl (by kernel_rfl) (by kernel_rfl) (by kernel_rfl) (by kernel_rfl) (by kernel_rfl) (by kernel_rfl) hS ?_ ?_ ?_
  · intro i hi
    simp only [List.mem_cons, List.not_mem_nil, or_false] at hi
    rcases hi with rfl | rfl | rfl | rfl | rfl | rfl | rfl | rfl
    · exact ⟨_, rfl, fun D val w' hw' hD hv => st_call (isA := fun i => i == 9) (V := fun i => if i = 1 then .agg T else if i = 4 then .tuple #[.string B, .agg Q, .int .i64 10] else if i = 5 then .tuple #[.string B, .agg Q, .int .i64 10] else if i = 6 then .string B else if i = 7 then .agg Q else if i = 8 then .int .i64 10 else .string B) (Zc := fun i => Ze) (ty := fun i => 36) (i := 1) #[.agg T] rfl rfl rfl enter_of_en (map1 (Eq.trans (part_other _ _ (by kernel_rfl)) rfl)) (of_en T f HT.out _)⟩
    · exact ⟨_, rfl, fun D val w' hw' hD hv => st_call (isA := fun i => i == 9) (V := fun i => if i = 1 then .agg T else if i = 4 then .tuple #[.string B, .agg Q, .int .i64 10] else if i = 5 then .tuple #[.string B, .agg Q, .int .i64 10] else if i = 6 then .string B else if i = 7 then .agg Q else if i = 8 then .int .i64 10 else .string B) (Zc := fun i => Ze) (ty := fun i => 36) (i := 4) #[.agg T, .agg F, .int .i64 m] rfl rfl rfl enter_encode (map3 (Eq.trans (part_eval 1 rfl (hD 1 (by decide +kernel) (by decide)) _ _ rfl (by kernel_rfl) (by kernel_rfl)) (hv 1 (by decide) (hD 1 (by decide +kernel) (by decide)) rfl)) (Eq.trans (part_other _ _ (by kernel_rfl)) rfl) (Eq.trans (part_other _ _ (by kernel_rfl)) rfl)) (HEN.out _ (HTW.out.next hw'))⟩
    · exact ⟨_, rfl, fun D val w' hw' hD hv => st_run (isA := fun i => i == 9) (V := fun i => if i = 1 then .agg T else if i = 4 then .tuple #[.string B, .agg Q, .int .i64 10] else if i = 5 then .tuple #[.string B, .agg Q, .int .i64 10] else if i = 6 then .string B else if i = 7 then .agg Q else if i = 8 then .int .i64 10 else .string B) (Zc := fun i => Ze) (ty := fun i => 36) (i := 5) (run_move rfl (Eq.trans (part_eval 4 rfl (hD 4 (by decide +kernel) (by decide)) _ _ rfl (by kernel_rfl) (by kernel_rfl)) (hv 4 (by decide) (hD 4 (by decide +kernel) (by decide)) rfl))) rfl rfl⟩
    · exact ⟨_, rfl, fun D val w' hw' hD hv => st_run (isA := fun i => i == 9) (V := fun i => if i = 1 then .agg T else if i = 4 then .tuple #[.string B, .agg Q, .int .i64 10] else if i = 5 then .tuple #[.string B, .agg Q, .int .i64 10] else if i = 6 then .string B else if i = 7 then .agg Q else if i = 8 then .int .i64 10 else .string B) (Zc := fun i => Ze) (ty := fun i => 36) (i := 6) (run_extract rfl (Eq.trans (part_eval 5 rfl (hD 5 (by decide +kernel) (by decide)) _ _ rfl (by kernel_rfl) (by kernel_rfl)) (hv 5 (by decide) (hD 5 (by decide +kernel) (by decide)) rfl)) rfl) rfl rfl⟩
    · exact ⟨_, rfl, fun D val w' hw' hD hv => st_run (isA := fun i => i == 9) (V := fun i => if i = 1 then .agg T else if i = 4 then .tuple #[.string B, .agg Q, .int .i64 10] else if i = 5 then .tuple #[.string B, .agg Q, .int .i64 10] else if i = 6 then .string B else if i = 7 then .agg Q else if i = 8 then .int .i64 10 else .string B) (Zc := fun i => Ze) (ty := fun i => 36) (i := 7) (run_extract rfl (Eq.trans (part_eval 5 rfl (hD 5 (by decide +kernel) (by decide)) _ _ rfl (by kernel_rfl) (by kernel_rfl)) (hv 5 (by decide) (hD 5 (by decide +kernel) (by decide)) rfl)) rfl) rfl rfl⟩
    · exact ⟨_, rfl, fun D val w' hw' hD hv => st_run (isA := fun i => i == 9) (V := fun i => if i = 1 then .agg T else if i = 4 then .tuple #[.string B, .agg Q, .int .i64 10] else if i = 5 then .tuple #[.string B, .agg Q, .int .i64 10] else if i = 6 then .string B else if i = 7 then .agg Q else if i = 8 then .int .i64 10 else .string B) (Zc := fun i => Ze) (ty := fun i => 36) (i := 8) (run_extract rfl (Eq.trans (part_eval 5 rfl (hD 5 (by decide +kernel) (by decide)) _ _ rfl (by kernel_rfl) (by kernel_rfl)) (hv 5 (by decide) (hD 5 (by decide +kernel) (by decide)) rfl)) rfl) rfl rfl⟩
    · exact ⟨_, rfl, fun D val w' hw' hD hv => st_alloc (isA := fun i => i == 9) (V := fun i => if i = 1 then .agg T else if i = 4 then .tuple #[.string B, .agg Q, .int .i64 10] else if i = 5 then .tuple #[.string B, .agg Q, .int .i64 10] else if i = 6 then .string B else if i = 7 then .agg Q else if i = 8 then .int .i64 10 else .string B) (Zc := fun i => Ze) (ty := fun i => 36) (i := 9) rfl rfl rfl rfl hze⟩
    · exact ⟨_, rfl, fun D val w' hw' hD hv => st_run (isA := fun i => i == 9) (V := fun i => if i = 1 then .agg T else if i = 4 then .tuple #[.string B, .agg Q, .int .i64 10] else if i = 5 then .tuple #[.string B, .agg Q, .int .i64 10] else if i = 6 then .string B else if i = 7 then .agg Q else if i = 8 then .int .i64 10 else .string B) (Zc := fun i => Ze) (ty := fun i => 36) (i := 10) (run_assign rfl (Eq.trans (part_eval 6 rfl (hD 6 (by decide +kernel) (by decide)) _ _ rfl (by kernel_rfl) (by kernel_rfl)) (hv 6 (by decide) (hD 6 (by decide +kernel) (by decide)) rfl))) rfl rfl⟩
  · exact ⟨_, rfl, fun D val hD hv => y_of_run (by rfl) (fun w' => run_extract rfl (Eq.trans (part_eval 5 rfl (hD 5 (by decide +kernel) (by decide)) _ _ rfl (by kernel_rfl) (by kernel_rfl)) (hv 5 (by decide) (hD 5 (by decide +kernel) (by decide)) rfl)) rfl)⟩
  clear hS
  intro val w' hS hY hV
  have v1 : val 1 = .agg T := (hY 1 (by simp)).1 rfl
  have v4 : val 4 = .tuple #[.string B, .agg Q, .int .i64 10] := (hY 4 (by simp)).1 rfl
  have v5 : val 5 = .tuple #[.string B, .agg Q, .int .i64 10] := (hY 5 (by simp)).1 rfl
  have v6 : val 6 = .string B := (hY 6 (by simp)).1 rfl
  have v7 : val 7 = .agg Q := (hY 7 (by simp)).1 rfl
  have v8 : val 8 = .int .i64 10 := (hY 8 (by simp)).1 rfl
  have v10 : val 10 = .string B := (hY 10 (by simp)).1 rfl
  obtain ⟨b9, e9, a9, g9⟩ : ∃ b, val 9 = .pointer (some ⟨b, 0, none⟩) ∧ At w' b Ze 36 ∧ W1.heap.size ≤ b := (hY 9 (by simp)).2 rfl
  show wpAnyH _ _ _ _ _ _ _ (Act.put (Act.put (Act.put (Act.put (Act.put (Act.put (Act.put (Act.put _ (some 16) (val 1)) (some 19) (val 4)) (some 14) (val 5)) (some 20) (val 6)) (some 21) (val 7)) (some 22) (val 8)) (some 8) (val 9)) (some 7) (val 10)) _
  rw [v1, v4, v5, v6, v7, v8, v10, e9]
  simp only [Act.put, setIfInBounds_toArray, set_cons_zero, set_cons_succ]
  clear hY hV v1 v4 v5 v6 v7 v8 v10 e9
  refine mv_store (i := 11) b9 Q _ rfl rfl (by kernel_rfl) (by rfl) rfl rfl rfl a9 (by rw [HZE.out, HQ.out.1]) HQ.out.2.1 (HIE.out _ HQ.out.1) g9 hS (fun hS1 => ?_)
  clear hS
  have PX := hid (a9.setRow (C := Q))
  have hS := hS1
  clear hS1
  refine mv_yield (i := 12) (d := 9) (.int .i64 10) rfl rfl (by kernel_rfl) (by kernel_rfl) (by kernel_rfl) hS (y_run (by rfl) fun _ => by rfl) ?_
  simp only [Act.put, setIfInBounds_toArray, set_cons_zero, set_cons_succ]
  refine mv_done (by kernel_rfl) ?_
  replace HW := hid (HW.out.next hS)
  clear hS a9 g9 HTW
  revert PX HW
  generalize World.setRow _ _ _ = W8
  generalize b9 = b8
  intro PX HW
  go_wp2_with fail
  refine mv_start fun hS => ?_
  refine mv_yield (i := 0) (d := 23) (.agg T) rfl rfl (by kernel_rfl) (by kernel_rfl) (by kernel_rfl) hS (y_load_part (l := 0) (by rfl) rfl rfl HT.out (fun w' h => HW.out.2.2.1.below h HW.out.2.2.1.lt) HT.out (by omega) (fun i _ => by rw [Nat.zero_add]) Tryz.underlying27 rfl (HIR.out _ HT.out.1)) ?_
  simp only [Act.put, setIfInBounds_toArray, set_cons_zero, set_cons_succ]
  refine mv_yield (i := 3) (d := 26) (.agg T) rfl rfl (by kernel_rfl) (by kernel_rfl) (by kernel_rfl) hS (y_load_part (l := 0) (by rfl) rfl rfl HT.out (fun w' h => HW.out.2.2.1.below h HW.out.2.2.1.lt) HT.out (by omega) (fun i _ => by rw [Nat.zero_add]) Tryz.underlying27 rfl (HIR.out _ HT.out.1)) ?_
  simp only [Act.put, setIfInBounds_toArray, set_cons_zero, set_cons_succ]
  refine mv_call (i := 1) (d := 24) (v := (.agg T)) #[.agg T] rfl rfl (by kernel_rfl) (by rfl) rfl hS enter_of_en (by kernel_rfl) (of_en T f HT.out _) ?_
  clear hS
  rintro w' hS
  simp only [Act.put, setIfInBounds_toArray, set_cons_zero, set_cons_succ]
  refine mv_call (i := 2) (d := 25) (v := (.bool r)) #[.agg T] rfl rfl (by kernel_rfl) (by rfl) rfl hS enter_eright (by kernel_rfl) (HR1.out _) ?_
  clear hS
  rintro w' hS
  simp only [Act.put, setIfInBounds_toArray, set_cons_zero, set_cons_succ]
  refine mv_call (i := 4) (d := 27) (v := (.bool r)) #[.agg T] rfl rfl (by kernel_rfl) (by rfl) rfl hS enter_rright (by kernel_rfl) (HR2.out _) ?_
  clear hS
  rintro w' hS
  simp only [Act.put, setIfInBounds_toArray, set_cons_zero, set_cons_succ]
  refine mv_yield (i := 5) (d := 28) (.bool false) rfl rfl (by kernel_rfl) (by kernel_rfl) (by kernel_rfl) hS (y_neb (by rfl) rfl rfl rfl (bne_self_eq_false _)) ?_
  simp only [Act.put, setIfInBounds_toArray, set_cons_zero, set_cons_succ]
  refine mv_done (by kernel_rfl) ?_
  replace HW := hid (HW.out.next hS)
  replace PX := hid (At.two PX.out hS)
  clear hS
  rw [HBE.out]
  by_cases hlo : m < 10
  · go_wp2_with (first
      | refine wpList_load_all (by rfl) 36 _ rfl b8 rfl HQ.out PX.out Tryz.underlying36 rfl HIE.out ?_
      | refine wpList_build_parts (by rfl) 36 [] rfl _ rfl HBG.out ?_
      | refine wpList_load_all (by rfl) 27 _ rfl w.heap.size rfl HT.out HW.out.2.2.1 Tryz.underlying27 rfl HIR.out ?_
      | refine wpList_load_all (by rfl) 22 _ rfl (w.heap.size + 1) rfl HF.out HW.out.2.2.2 Tryz.underlying22 rfl HIA.out ?_)
    go_ret
    exact ⟨rfl, HW.out.1⟩
  · have hhi : 32 < m := by omega
    go_wp2_with (first
      | refine wpList_load_all (by rfl) 36 _ rfl b8 rfl HQ.out PX.out Tryz.underlying36 rfl HIE.out ?_
      | refine wpList_build_parts (by rfl) 36 [] rfl _ rfl HBG.out ?_
      | refine wpList_load_all (by rfl) 27 _ rfl w.heap.size rfl HT.out HW.out.2.2.1 Tryz.underlying27 rfl HIR.out ?_
      | refine wpList_load_all (by rfl) 22 _ rfl (w.heap.size + 1) rfl HF.out HW.out.2.2.2 Tryz.underlying22 rfl HIA.out ?_)
    go_ret
    exact ⟨rfl, HW.out.1⟩

set_option maxHeartbeats 4000000 in
theorem encPlays_wrong (T F : Array Value) (f x : Nat → Int) (m : Nat) (w : World) (hT : IsRow 55 f T) (hF : IsRow 16 x F) (h10 : 10 ≤ m) (h32 : m ≤ 32) (hr : ¬ Re f) (hTab : Lv.Tab w) :
    Calls Tryz.prog 6 #[.agg T, .agg F, .int .i64 m] w fun e w' => e = .returned (.bool true) ∧ Below w.heap.size w w' := by
  obtain ⟨Ze, hZe, _, hze, hie⟩ := zero_ep
  obtain ⟨Zr, hZr, _, hzr, hir⟩ := zero_er
  obtain ⟨_, _, _, _, hia⟩ := zero_a
  obtain ⟨G, hG, bG⟩ := ebuilt_0 isEn_p
  obtain ⟨B, hB⟩ : ∃ B : ByteArray, B = ⟨#[]⟩ := ⟨_, rfl⟩
  obtain ⟨Q, hQ⟩ : ∃ Q, IsRow 55 (fun _ => 0) Q := ⟨_, isRow _ _⟩
  have HEN := hid (show ∀ w' : World, Lv.Tab w' → Calls Tryz.prog 12 #[.agg T, .agg F, .int .i64 m] w' fun e w'' => e = .returned (.tuple #[.string B, .agg Q, .int .i64 1]) ∧ Below w'.heap.size w' w'' from fun w' _ => by rw [hB]; exact as_E (encode_no T F f x m w' hT hF h10 h32 fun h => hr h.1) hQ)
  have HBE := hid hB
  have e1 := en_eq_p hQ hG (fun _ _ => rfl)
  have hl1 : ¬ (m : Int) < 10 := by omega
  have hl2 : ¬ (32 : Int) < m := by omega
  have HR1 := hid (fun w => eright_any T f false w hT ⟨fun h => (by cases h), fun h => absurd h hr⟩)
  have HR2 := hid (fun w => refRight_en T f false w hT ⟨fun h => (by cases h), fun h => absurd h hr⟩)
  have HQ := hid hQ
  have HW := hid (Duo.start (Below.refl w.heap.size w) T F 27 22)
  have HT := hid hT
  have HF := hid hF
  have HIE := hid hie
  have HIR := hid hir
  have HIA := hid hia
  have HZE := hid hZe.1
  have HZR := hid hZr.1
  have HG := hid hG
  have HBG := hid bG
  have HTAB := hid hTab
  clear hT hF hie hir hia hZe hZr hG bG hTab hB hQ hr
  go_enter Tryz.func6, Tryz.ntmps6
  go_wp2_with fail
  refine (awake_as _ (HTAB.out.next HW.out.1)).mono ?_
  rintro e W1 ⟨rfl, hb⟩
  replace HW := hid (HW.out.next hb)
  clear hb
  have HTW := hid (HTAB.out.next HW.out.1)
  go_wp2_with fail
  refine mv_start fun hS => ?_
  refine mv_yield (i := 0) (d := 15) (.agg T) rfl rfl (by kernel_rfl) (by kernel_rfl) (by kernel_rfl) hS (y_load_part (l := 0) (by rfl) rfl rfl HT.out (fun w' h => HW.out.2.2.1.below h HW.out.2.2.1.lt) HT.out (by omega) (fun i _ => by rw [Nat.zero_add]) Tryz.underlying27 rfl (HIR.out _ HT.out.1)) ?_
  simp only [Act.put, setIfInBounds_toArray, set_cons_zero, set_cons_succ]
  refine mv_yield (i := 2) (d := 17) (.agg F) rfl rfl (by kernel_rfl) (by kernel_rfl) (by kernel_rfl) hS (y_load_part (l := 0) (by rfl) rfl rfl HF.out (fun w' h => HW.out.2.2.2.below h HW.out.2.2.2.lt) HF.out (by omega) (fun i _ => by rw [Nat.zero_add]) Tryz.underlying22 rfl (HIA.out _ HF.out.1)) ?_
  simp only [Act.put, setIfInBounds_toArray, set_cons_zero, set_cons_succ]
  refine mv_yield (i := 3) (d := 18) (.int .i64 m) rfl rfl (by kernel_rfl) (by kernel_rfl) (by kernel_rfl) hS (y_run (by rfl) fun _ => by rfl) ?_
  simp only [Act.put, setIfInBounds_toArray, set_cons_zero, set_cons_succ]
  refine parD0 (fuel := 2) [1, 4, 5, 6, 7, 8, 9, 10] [1, 4, 5, 6, 7, 9, 10] 8 (fun i => i == 9) (fun i => if i = 1 then .agg T else if i = 4 then .tuple #[.string B, .agg Q, .int .i64 1] else if i = 5 then .tuple #[.string B, .agg Q, .int .i64 1] else if i = 6 then .string B else if i = 7 then .agg Q else if i = 8 then .int .i64 1 else .string B) (fun i => Ze) (fun i => 36) #[true, true, true, true, true, true, true, true, false, true, true, false, false] #[true, true, true, true, true, true, true, true, true, true, true, false, false] _ rfl (by decide) (by decide) (by decide) rfl (by kernel_rfl) (by kernel_rfl) (by kernel_rfl) (by decide) rfl rfl rfl (by kernel_rfl) (by kernel_rfl) (by kernel_rfl) (by kernel_rfl) (by kernel_rfl) (by kernel_rfl) hS ?_ ?_ ?_
  · intro i hi
    simp only [List.mem_cons, List.not_mem_nil, or_false] at hi
    rcases hi with rfl | rfl | rfl | rfl | rfl | rfl | rfl | rfl
    · exact ⟨_, rfl, fun D val w' hw' hD hv => st_call (isA := fun i => i == 9) (V := fun i => if i = 1 then .agg T else if i = 4 then .tuple #[.string B, .agg Q, .int .i64 1] else if i = 5 then .tuple #[.string B, .agg Q, .int .i64 1] else if i = 6 then .string B else if i = 7 then .agg Q else if i = 8 then .int .i64 1 else .string B) (Zc := fun i => Ze) (ty := fun i => 36) (i := 1) #[.agg T] rfl rfl rfl enter_of_en (map1 (Eq.trans (part_other _ _ (by kernel_rfl)) rfl)) (of_en T f HT.out _)⟩
    · exact ⟨_, rfl, fun D val w' hw' hD hv => st_call (isA := fun i => i == 9) (V := fun i => if i = 1 then .agg T else if i = 4 then .tuple #[.string B, .agg Q, .int .i64 1] else if i = 5 then .tuple #[.string B, .agg Q, .int .i64 1] else if i = 6 then .string B else if i = 7 then .agg Q else if i = 8 then .int .i64 1 else .string B) (Zc := fun i => Ze) (ty := fun i => 36) (i := 4) #[.agg T, .agg F, .int .i64 m] rfl rfl rfl enter_encode (map3 (Eq.trans (part_eval 1 rfl (hD 1 (by decide +kernel) (by decide)) _ _ rfl (by kernel_rfl) (by kernel_rfl)) (hv 1 (by decide) (hD 1 (by decide +kernel) (by decide)) rfl)) (Eq.trans (part_other _ _ (by kernel_rfl)) rfl) (Eq.trans (part_other _ _ (by kernel_rfl)) rfl)) (HEN.out _ (HTW.out.next hw'))⟩
    · exact ⟨_, rfl, fun D val w' hw' hD hv => st_run (isA := fun i => i == 9) (V := fun i => if i = 1 then .agg T else if i = 4 then .tuple #[.string B, .agg Q, .int .i64 1] else if i = 5 then .tuple #[.string B, .agg Q, .int .i64 1] else if i = 6 then .string B else if i = 7 then .agg Q else if i = 8 then .int .i64 1 else .string B) (Zc := fun i => Ze) (ty := fun i => 36) (i := 5) (run_move rfl (Eq.trans (part_eval 4 rfl (hD 4 (by decide +kernel) (by decide)) _ _ rfl (by kernel_rfl) (by kernel_rfl)) (hv 4 (by decide) (hD 4 (by decide +kernel) (by decide)) rfl))) rfl rfl⟩
    · exact ⟨_, rfl, fun D val w' hw' hD hv => st_run (isA := fun i => i == 9) (V := fun i => if i = 1 then .agg T else if i = 4 then .tuple #[.string B, .agg Q, .int .i64 1] else if i = 5 then .tuple #[.string B, .agg Q, .int .i64 1] else if i = 6 then .string B else if i = 7 then .agg Q else if i = 8 then .int .i64 1 else .string B) (Zc := fun i => Ze) (ty := fun i => 36) (i := 6) (run_extract rfl (Eq.trans (part_eval 5 rfl (hD 5 (by decide +kernel) (by decide)) _ _ rfl (by kernel_rfl) (by kernel_rfl)) (hv 5 (by decide) (hD 5 (by decide +kernel) (by decide)) rfl)) rfl) rfl rfl⟩
    · exact ⟨_, rfl, fun D val w' hw' hD hv => st_run (isA := fun i => i == 9) (V := fun i => if i = 1 then .agg T else if i = 4 then .tuple #[.string B, .agg Q, .int .i64 1] else if i = 5 then .tuple #[.string B, .agg Q, .int .i64 1] else if i = 6 then .string B else if i = 7 then .agg Q else if i = 8 then .int .i64 1 else .string B) (Zc := fun i => Ze) (ty := fun i => 36) (i := 7) (run_extract rfl (Eq.trans (part_eval 5 rfl (hD 5 (by decide +kernel) (by decide)) _ _ rfl (by kernel_rfl) (by kernel_rfl)) (hv 5 (by decide) (hD 5 (by decide +kernel) (by decide)) rfl)) rfl) rfl rfl⟩
    · exact ⟨_, rfl, fun D val w' hw' hD hv => st_run (isA := fun i => i == 9) (V := fun i => if i = 1 then .agg T else if i = 4 then .tuple #[.string B, .agg Q, .int .i64 1] else if i = 5 then .tuple #[.string B, .agg Q, .int .i64 1] else if i = 6 then .string B else if i = 7 then .agg Q else if i = 8 then .int .i64 1 else .string B) (Zc := fun i => Ze) (ty := fun i => 36) (i := 8) (run_extract rfl (Eq.trans (part_eval 5 rfl (hD 5 (by decide +kernel) (by decide)) _ _ rfl (by kernel_rfl) (by kernel_rfl)) (hv 5 (by decide) (hD 5 (by decide +kernel) (by decide)) rfl)) rfl) rfl rfl⟩
    · exact ⟨_, rfl, fun D val w' hw' hD hv => st_alloc (isA := fun i => i == 9) (V := fun i => if i = 1 then .agg T else if i = 4 then .tuple #[.string B, .agg Q, .int .i64 1] else if i = 5 then .tuple #[.string B, .agg Q, .int .i64 1] else if i = 6 then .string B else if i = 7 then .agg Q else if i = 8 then .int .i64 1 else .string B) (Zc := fun i => Ze) (ty := fun i => 36) (i := 9) rfl rfl rfl rfl hze⟩
    · exact ⟨_, rfl, fun D val w' hw' hD hv => st_run (isA := fun i => i == 9) (V := fun i => if i = 1 then .agg T else if i = 4 then .tuple #[.string B, .agg Q, .int .i64 1] else if i = 5 then .tuple #[.string B, .agg Q, .int .i64 1] else if i = 6 then .string B else if i = 7 then .agg Q else if i = 8 then .int .i64 1 else .string B) (Zc := fun i => Ze) (ty := fun i => 36) (i := 10) (run_assign rfl (Eq.trans (part_eval 6 rfl (hD 6 (by decide +kernel) (by decide)) _ _ rfl (by kernel_rfl) (by kernel_rfl)) (hv 6 (by decide) (hD 6 (by decide +kernel) (by decide)) rfl))) rfl rfl⟩
  · exact ⟨_, rfl, fun D val hD hv => y_of_run (by rfl) (fun w' => run_extract rfl (Eq.trans (part_eval 5 rfl (hD 5 (by decide +kernel) (by decide)) _ _ rfl (by kernel_rfl) (by kernel_rfl)) (hv 5 (by decide) (hD 5 (by decide +kernel) (by decide)) rfl)) rfl)⟩
  clear hS
  intro val w' hS hY hV
  have v1 : val 1 = .agg T := (hY 1 (by simp)).1 rfl
  have v4 : val 4 = .tuple #[.string B, .agg Q, .int .i64 1] := (hY 4 (by simp)).1 rfl
  have v5 : val 5 = .tuple #[.string B, .agg Q, .int .i64 1] := (hY 5 (by simp)).1 rfl
  have v6 : val 6 = .string B := (hY 6 (by simp)).1 rfl
  have v7 : val 7 = .agg Q := (hY 7 (by simp)).1 rfl
  have v8 : val 8 = .int .i64 1 := (hY 8 (by simp)).1 rfl
  have v10 : val 10 = .string B := (hY 10 (by simp)).1 rfl
  obtain ⟨b9, e9, a9, g9⟩ : ∃ b, val 9 = .pointer (some ⟨b, 0, none⟩) ∧ At w' b Ze 36 ∧ W1.heap.size ≤ b := (hY 9 (by simp)).2 rfl
  show wpAnyH _ _ _ _ _ _ _ (Act.put (Act.put (Act.put (Act.put (Act.put (Act.put (Act.put (Act.put _ (some 16) (val 1)) (some 19) (val 4)) (some 14) (val 5)) (some 20) (val 6)) (some 21) (val 7)) (some 22) (val 8)) (some 8) (val 9)) (some 7) (val 10)) _
  rw [v1, v4, v5, v6, v7, v8, v10, e9]
  simp only [Act.put, setIfInBounds_toArray, set_cons_zero, set_cons_succ]
  clear hY hV v1 v4 v5 v6 v7 v8 v10 e9
  refine mv_store (i := 11) b9 Q _ rfl rfl (by kernel_rfl) (by rfl) rfl rfl rfl a9 (by rw [HZE.out, HQ.out.1]) HQ.out.2.1 (HIE.out _ HQ.out.1) g9 hS (fun hS1 => ?_)
  clear hS
  have PX := hid (a9.setRow (C := Q))
  have hS := hS1
  clear hS1
  refine mv_yield (i := 12) (d := 9) (.int .i64 1) rfl rfl (by kernel_rfl) (by kernel_rfl) (by kernel_rfl) hS (y_run (by rfl) fun _ => by rfl) ?_
  simp only [Act.put, setIfInBounds_toArray, set_cons_zero, set_cons_succ]
  refine mv_done (by kernel_rfl) ?_
  replace HW := hid (HW.out.next hS)
  clear hS a9 g9 HTW
  revert PX HW
  generalize World.setRow _ _ _ = W8
  generalize b9 = b8
  intro PX HW
  go_wp2_with fail
  refine mv_start fun hS => ?_
  refine mv_yield (i := 0) (d := 23) (.agg T) rfl rfl (by kernel_rfl) (by kernel_rfl) (by kernel_rfl) hS (y_load_part (l := 0) (by rfl) rfl rfl HT.out (fun w' h => HW.out.2.2.1.below h HW.out.2.2.1.lt) HT.out (by omega) (fun i _ => by rw [Nat.zero_add]) Tryz.underlying27 rfl (HIR.out _ HT.out.1)) ?_
  simp only [Act.put, setIfInBounds_toArray, set_cons_zero, set_cons_succ]
  refine mv_yield (i := 3) (d := 26) (.agg T) rfl rfl (by kernel_rfl) (by kernel_rfl) (by kernel_rfl) hS (y_load_part (l := 0) (by rfl) rfl rfl HT.out (fun w' h => HW.out.2.2.1.below h HW.out.2.2.1.lt) HT.out (by omega) (fun i _ => by rw [Nat.zero_add]) Tryz.underlying27 rfl (HIR.out _ HT.out.1)) ?_
  simp only [Act.put, setIfInBounds_toArray, set_cons_zero, set_cons_succ]
  refine mv_call (i := 1) (d := 24) (v := (.agg T)) #[.agg T] rfl rfl (by kernel_rfl) (by rfl) rfl hS enter_of_en (by kernel_rfl) (of_en T f HT.out _) ?_
  clear hS
  rintro w' hS
  simp only [Act.put, setIfInBounds_toArray, set_cons_zero, set_cons_succ]
  refine mv_call (i := 2) (d := 25) (v := (.bool false)) #[.agg T] rfl rfl (by kernel_rfl) (by rfl) rfl hS enter_eright (by kernel_rfl) (HR1.out _) ?_
  clear hS
  rintro w' hS
  simp only [Act.put, setIfInBounds_toArray, set_cons_zero, set_cons_succ]
  refine mv_call (i := 4) (d := 27) (v := (.bool false)) #[.agg T] rfl rfl (by kernel_rfl) (by rfl) rfl hS enter_rright (by kernel_rfl) (HR2.out _) ?_
  clear hS
  rintro w' hS
  simp only [Act.put, setIfInBounds_toArray, set_cons_zero, set_cons_succ]
  refine mv_yield (i := 5) (d := 28) (.bool false) rfl rfl (by kernel_rfl) (by kernel_rfl) (by kernel_rfl) hS (y_neb (by rfl) rfl rfl rfl (bne_self_eq_false _)) ?_
  simp only [Act.put, setIfInBounds_toArray, set_cons_zero, set_cons_succ]
  refine mv_done (by kernel_rfl) ?_
  replace HW := hid (HW.out.next hS)
  replace PX := hid (At.two PX.out hS)
  clear hS
  rw [HBE.out]
  go_wp2_with (first
    | refine wpList_load_all (by rfl) 36 _ rfl b8 rfl HQ.out PX.out Tryz.underlying36 rfl HIE.out ?_
    | refine wpList_build_parts (by rfl) 36 [] rfl _ rfl HBG.out ?_
    | refine wpList_load_all (by rfl) 27 _ rfl w.heap.size rfl HT.out HW.out.2.2.1 Tryz.underlying27 rfl HIR.out ?_
    | refine wpList_load_all (by rfl) 22 _ rfl (w.heap.size + 1) rfl HF.out HW.out.2.2.2 Tryz.underlying22 rfl HIA.out ?_)
  refine (HR2.out _).mono ?_
  rintro e W9 ⟨rfl, hb⟩
  replace HW := hid (HW.out.next hb)
  replace PX := hid (At.two PX.out hb)
  clear hb
  go_wp2_with (first
    | refine wpList_load_all (by rfl) 36 _ rfl b8 rfl HQ.out PX.out Tryz.underlying36 rfl HIE.out ?_
    | refine wpList_build_parts (by rfl) 36 [] rfl _ rfl HBG.out ?_
    | refine wpList_load_all (by rfl) 27 _ rfl w.heap.size rfl HT.out HW.out.2.2.1 Tryz.underlying27 rfl HIR.out ?_
    | refine wpList_load_all (by rfl) 22 _ rfl (w.heap.size + 1) rfl HF.out HW.out.2.2.2 Tryz.underlying22 rfl HIA.out ?_)
  go_ret
  exact ⟨rfl, HW.out.1⟩

set_option maxHeartbeats 4000000 in
theorem encPlays_loud (T F : Array Value) (f x : Nat → Int) (m : Nat) (w : World) (hT : IsRow 55 f T) (hF : IsRow 16 x F) (h10 : 10 ≤ m) (h32 : m ≤ 32) (hr : Re f) (hs : ¬ Snd x) (hTab : Lv.Tab w) :
    Calls Tryz.prog 6 #[.agg T, .agg F, .int .i64 m] w fun e w' => e = .returned (.bool true) ∧ Below w.heap.size w w' := by
  obtain ⟨Ze, hZe, _, hze, hie⟩ := zero_ep
  obtain ⟨Zr, hZr, _, hzr, hir⟩ := zero_er
  obtain ⟨_, _, _, _, hia⟩ := zero_a
  obtain ⟨G, hG, bG⟩ := ebuilt_0 isEn_p
  obtain ⟨B, hB⟩ : ∃ B : ByteArray, B = ⟨#[]⟩ := ⟨_, rfl⟩
  obtain ⟨Q, hQ⟩ : ∃ Q, IsRow 55 (fun _ => 0) Q := ⟨_, isRow _ _⟩
  have HEN := hid (show ∀ w' : World, Lv.Tab w' → Calls Tryz.prog 12 #[.agg T, .agg F, .int .i64 m] w' fun e w'' => e = .returned (.tuple #[.string B, .agg Q, .int .i64 1]) ∧ Below w'.heap.size w' w'' from fun w' _ => by rw [hB]; exact as_E (encode_no T F f x m w' hT hF h10 h32 fun h => hs h.2) hQ)
  have HBE := hid hB
  have e1 := en_eq_p hQ hG (fun _ _ => rfl)
  have hl1 : ¬ (m : Int) < 10 := by omega
  have hl2 : ¬ (32 : Int) < m := by omega
  have HR1 := hid (fun w => eright_any T f true w hT ⟨fun _ => hr, fun _ => rfl⟩)
  have HR2 := hid (fun w => refRight_en T f true w hT ⟨fun _ => hr, fun _ => rfl⟩)
  have HSN := hid (fun w => refSound_any F x false w hF ⟨fun h => (by cases h), fun h => absurd h hs⟩)
  have HQ := hid hQ
  have HW := hid (Duo.start (Below.refl w.heap.size w) T F 27 22)
  have HT := hid hT
  have HF := hid hF
  have HIE := hid hie
  have HIR := hid hir
  have HIA := hid hia
  have HZE := hid hZe.1
  have HZR := hid hZr.1
  have HG := hid hG
  have HBG := hid bG
  have HTAB := hid hTab
  clear hT hF hie hir hia hZe hZr hG bG hTab hB hQ hr hs
  go_enter Tryz.func6, Tryz.ntmps6
  go_wp2_with fail
  refine (awake_as _ (HTAB.out.next HW.out.1)).mono ?_
  rintro e W1 ⟨rfl, hb⟩
  replace HW := hid (HW.out.next hb)
  clear hb
  have HTW := hid (HTAB.out.next HW.out.1)
  go_wp2_with fail
  refine mv_start fun hS => ?_
  refine mv_yield (i := 0) (d := 15) (.agg T) rfl rfl (by kernel_rfl) (by kernel_rfl) (by kernel_rfl) hS (y_load_part (l := 0) (by rfl) rfl rfl HT.out (fun w' h => HW.out.2.2.1.below h HW.out.2.2.1.lt) HT.out (by omega) (fun i _ => by rw [Nat.zero_add]) Tryz.underlying27 rfl (HIR.out _ HT.out.1)) ?_
  simp only [Act.put, setIfInBounds_toArray, set_cons_zero, set_cons_succ]
  refine mv_yield (i := 2) (d := 17) (.agg F) rfl rfl (by kernel_rfl) (by kernel_rfl) (by kernel_rfl) hS (y_load_part (l := 0) (by rfl) rfl rfl HF.out (fun w' h => HW.out.2.2.2.below h HW.out.2.2.2.lt) HF.out (by omega) (fun i _ => by rw [Nat.zero_add]) Tryz.underlying22 rfl (HIA.out _ HF.out.1)) ?_
  simp only [Act.put, setIfInBounds_toArray, set_cons_zero, set_cons_succ]
  refine mv_yield (i := 3) (d := 18) (.int .i64 m) rfl rfl (by kernel_rfl) (by kernel_rfl) (by kernel_rfl) hS (y_run (by rfl) fun _ => by rfl) ?_
  simp only [Act.put, setIfInBounds_toArray, set_cons_zero, set_cons_succ]
  refine parD0 (fuel := 2) [1, 4, 5, 6, 7, 8, 9, 10] [1, 4, 5, 6, 7, 9, 10] 8 (fun i => i == 9) (fun i => if i = 1 then .agg T else if i = 4 then .tuple #[.string B, .agg Q, .int .i64 1] else if i = 5 then .tuple #[.string B, .agg Q, .int .i64 1] else if i = 6 then .string B else if i = 7 then .agg Q else if i = 8 then .int .i64 1 else .string B) (fun i => Ze) (fun i => 36) #[true, true, true, true, true, true, true, true, false, true, true, false, false] #[true, true, true, true, true, true, true, true, true, true, true, false, false] _ rfl (by decide) (by decide) (by decide) rfl (by kernel_rfl) (by kernel_rfl) (by kernel_rfl) (by decide) rfl rfl rfl (by kernel_rfl) (by kernel_rfl) (by kernel_rfl) (by kernel_rfl) (by kernel_rfl) (by kernel_rfl) hS ?_ ?_ ?_
  · intro i hi
    simp only [List.mem_cons, List.not_mem_nil, or_false] at hi
    rcases hi with rfl | rfl | rfl | rfl | rfl | rfl | rfl | rfl
    · exact ⟨_, rfl, fun D val w' hw' hD hv => st_call (isA := fun i => i == 9) (V := fun i => if i = 1 then .agg T else if i = 4 then .tuple #[.string B, .agg Q, .int .i64 1] else if i = 5 then .tuple #[.string B, .agg Q, .int .i64 1] else if i = 6 then .string B else if i = 7 then .agg Q else if i = 8 then .int .i64 1 else .string B) (Zc := fun i => Ze) (ty := fun i => 36) (i := 1) #[.agg T] rfl rfl rfl enter_of_en (map1 (Eq.trans (part_other _ _ (by kernel_rfl)) rfl)) (of_en T f HT.out _)⟩
    · exact ⟨_, rfl, fun D val w' hw' hD hv => st_call (isA := fun i => i == 9) (V := fun i => if i = 1 then .agg T else if i = 4 then .tuple #[.string B, .agg Q, .int .i64 1] else if i = 5 then .tuple #[.string B, .agg Q, .int .i64 1] else if i = 6 then .string B else if i = 7 then .agg Q else if i = 8 then .int .i64 1 else .string B) (Zc := fun i => Ze) (ty := fun i => 36) (i := 4) #[.agg T, .agg F, .int .i64 m] rfl rfl rfl enter_encode (map3 (Eq.trans (part_eval 1 rfl (hD 1 (by decide +kernel) (by decide)) _ _ rfl (by kernel_rfl) (by kernel_rfl)) (hv 1 (by decide) (hD 1 (by decide +kernel) (by decide)) rfl)) (Eq.trans (part_other _ _ (by kernel_rfl)) rfl) (Eq.trans (part_other _ _ (by kernel_rfl)) rfl)) (HEN.out _ (HTW.out.next hw'))⟩
    · exact ⟨_, rfl, fun D val w' hw' hD hv => st_run (isA := fun i => i == 9) (V := fun i => if i = 1 then .agg T else if i = 4 then .tuple #[.string B, .agg Q, .int .i64 1] else if i = 5 then .tuple #[.string B, .agg Q, .int .i64 1] else if i = 6 then .string B else if i = 7 then .agg Q else if i = 8 then .int .i64 1 else .string B) (Zc := fun i => Ze) (ty := fun i => 36) (i := 5) (run_move rfl (Eq.trans (part_eval 4 rfl (hD 4 (by decide +kernel) (by decide)) _ _ rfl (by kernel_rfl) (by kernel_rfl)) (hv 4 (by decide) (hD 4 (by decide +kernel) (by decide)) rfl))) rfl rfl⟩
    · exact ⟨_, rfl, fun D val w' hw' hD hv => st_run (isA := fun i => i == 9) (V := fun i => if i = 1 then .agg T else if i = 4 then .tuple #[.string B, .agg Q, .int .i64 1] else if i = 5 then .tuple #[.string B, .agg Q, .int .i64 1] else if i = 6 then .string B else if i = 7 then .agg Q else if i = 8 then .int .i64 1 else .string B) (Zc := fun i => Ze) (ty := fun i => 36) (i := 6) (run_extract rfl (Eq.trans (part_eval 5 rfl (hD 5 (by decide +kernel) (by decide)) _ _ rfl (by kernel_rfl) (by kernel_rfl)) (hv 5 (by decide) (hD 5 (by decide +kernel) (by decide)) rfl)) rfl) rfl rfl⟩
    · exact ⟨_, rfl, fun D val w' hw' hD hv => st_run (isA := fun i => i == 9) (V := fun i => if i = 1 then .agg T else if i = 4 then .tuple #[.string B, .agg Q, .int .i64 1] else if i = 5 then .tuple #[.string B, .agg Q, .int .i64 1] else if i = 6 then .string B else if i = 7 then .agg Q else if i = 8 then .int .i64 1 else .string B) (Zc := fun i => Ze) (ty := fun i => 36) (i := 7) (run_extract rfl (Eq.trans (part_eval 5 rfl (hD 5 (by decide +kernel) (by decide)) _ _ rfl (by kernel_rfl) (by kernel_rfl)) (hv 5 (by decide) (hD 5 (by decide +kernel) (by decide)) rfl)) rfl) rfl rfl⟩
    · exact ⟨_, rfl, fun D val w' hw' hD hv => st_run (isA := fun i => i == 9) (V := fun i => if i = 1 then .agg T else if i = 4 then .tuple #[.string B, .agg Q, .int .i64 1] else if i = 5 then .tuple #[.string B, .agg Q, .int .i64 1] else if i = 6 then .string B else if i = 7 then .agg Q else if i = 8 then .int .i64 1 else .string B) (Zc := fun i => Ze) (ty := fun i => 36) (i := 8) (run_extract rfl (Eq.trans (part_eval 5 rfl (hD 5 (by decide +kernel) (by decide)) _ _ rfl (by kernel_rfl) (by kernel_rfl)) (hv 5 (by decide) (hD 5 (by decide +kernel) (by decide)) rfl)) rfl) rfl rfl⟩
    · exact ⟨_, rfl, fun D val w' hw' hD hv => st_alloc (isA := fun i => i == 9) (V := fun i => if i = 1 then .agg T else if i = 4 then .tuple #[.string B, .agg Q, .int .i64 1] else if i = 5 then .tuple #[.string B, .agg Q, .int .i64 1] else if i = 6 then .string B else if i = 7 then .agg Q else if i = 8 then .int .i64 1 else .string B) (Zc := fun i => Ze) (ty := fun i => 36) (i := 9) rfl rfl rfl rfl hze⟩
    · exact ⟨_, rfl, fun D val w' hw' hD hv => st_run (isA := fun i => i == 9) (V := fun i => if i = 1 then .agg T else if i = 4 then .tuple #[.string B, .agg Q, .int .i64 1] else if i = 5 then .tuple #[.string B, .agg Q, .int .i64 1] else if i = 6 then .string B else if i = 7 then .agg Q else if i = 8 then .int .i64 1 else .string B) (Zc := fun i => Ze) (ty := fun i => 36) (i := 10) (run_assign rfl (Eq.trans (part_eval 6 rfl (hD 6 (by decide +kernel) (by decide)) _ _ rfl (by kernel_rfl) (by kernel_rfl)) (hv 6 (by decide) (hD 6 (by decide +kernel) (by decide)) rfl))) rfl rfl⟩
  · exact ⟨_, rfl, fun D val hD hv => y_of_run (by rfl) (fun w' => run_extract rfl (Eq.trans (part_eval 5 rfl (hD 5 (by decide +kernel) (by decide)) _ _ rfl (by kernel_rfl) (by kernel_rfl)) (hv 5 (by decide) (hD 5 (by decide +kernel) (by decide)) rfl)) rfl)⟩
  clear hS
  intro val w' hS hY hV
  have v1 : val 1 = .agg T := (hY 1 (by simp)).1 rfl
  have v4 : val 4 = .tuple #[.string B, .agg Q, .int .i64 1] := (hY 4 (by simp)).1 rfl
  have v5 : val 5 = .tuple #[.string B, .agg Q, .int .i64 1] := (hY 5 (by simp)).1 rfl
  have v6 : val 6 = .string B := (hY 6 (by simp)).1 rfl
  have v7 : val 7 = .agg Q := (hY 7 (by simp)).1 rfl
  have v8 : val 8 = .int .i64 1 := (hY 8 (by simp)).1 rfl
  have v10 : val 10 = .string B := (hY 10 (by simp)).1 rfl
  obtain ⟨b9, e9, a9, g9⟩ : ∃ b, val 9 = .pointer (some ⟨b, 0, none⟩) ∧ At w' b Ze 36 ∧ W1.heap.size ≤ b := (hY 9 (by simp)).2 rfl
  show wpAnyH _ _ _ _ _ _ _ (Act.put (Act.put (Act.put (Act.put (Act.put (Act.put (Act.put (Act.put _ (some 16) (val 1)) (some 19) (val 4)) (some 14) (val 5)) (some 20) (val 6)) (some 21) (val 7)) (some 22) (val 8)) (some 8) (val 9)) (some 7) (val 10)) _
  rw [v1, v4, v5, v6, v7, v8, v10, e9]
  simp only [Act.put, setIfInBounds_toArray, set_cons_zero, set_cons_succ]
  clear hY hV v1 v4 v5 v6 v7 v8 v10 e9
  refine mv_store (i := 11) b9 Q _ rfl rfl (by kernel_rfl) (by rfl) rfl rfl rfl a9 (by rw [HZE.out, HQ.out.1]) HQ.out.2.1 (HIE.out _ HQ.out.1) g9 hS (fun hS1 => ?_)
  clear hS
  have PX := hid (a9.setRow (C := Q))
  have hS := hS1
  clear hS1
  refine mv_yield (i := 12) (d := 9) (.int .i64 1) rfl rfl (by kernel_rfl) (by kernel_rfl) (by kernel_rfl) hS (y_run (by rfl) fun _ => by rfl) ?_
  simp only [Act.put, setIfInBounds_toArray, set_cons_zero, set_cons_succ]
  refine mv_done (by kernel_rfl) ?_
  replace HW := hid (HW.out.next hS)
  clear hS a9 g9 HTW
  revert PX HW
  generalize World.setRow _ _ _ = W8
  generalize b9 = b8
  intro PX HW
  go_wp2_with fail
  refine mv_start fun hS => ?_
  refine mv_yield (i := 0) (d := 23) (.agg T) rfl rfl (by kernel_rfl) (by kernel_rfl) (by kernel_rfl) hS (y_load_part (l := 0) (by rfl) rfl rfl HT.out (fun w' h => HW.out.2.2.1.below h HW.out.2.2.1.lt) HT.out (by omega) (fun i _ => by rw [Nat.zero_add]) Tryz.underlying27 rfl (HIR.out _ HT.out.1)) ?_
  simp only [Act.put, setIfInBounds_toArray, set_cons_zero, set_cons_succ]
  refine mv_yield (i := 3) (d := 26) (.agg T) rfl rfl (by kernel_rfl) (by kernel_rfl) (by kernel_rfl) hS (y_load_part (l := 0) (by rfl) rfl rfl HT.out (fun w' h => HW.out.2.2.1.below h HW.out.2.2.1.lt) HT.out (by omega) (fun i _ => by rw [Nat.zero_add]) Tryz.underlying27 rfl (HIR.out _ HT.out.1)) ?_
  simp only [Act.put, setIfInBounds_toArray, set_cons_zero, set_cons_succ]
  refine mv_call (i := 1) (d := 24) (v := (.agg T)) #[.agg T] rfl rfl (by kernel_rfl) (by rfl) rfl hS enter_of_en (by kernel_rfl) (of_en T f HT.out _) ?_
  clear hS
  rintro w' hS
  simp only [Act.put, setIfInBounds_toArray, set_cons_zero, set_cons_succ]
  refine mv_call (i := 2) (d := 25) (v := (.bool true)) #[.agg T] rfl rfl (by kernel_rfl) (by rfl) rfl hS enter_eright (by kernel_rfl) (HR1.out _) ?_
  clear hS
  rintro w' hS
  simp only [Act.put, setIfInBounds_toArray, set_cons_zero, set_cons_succ]
  refine mv_call (i := 4) (d := 27) (v := (.bool true)) #[.agg T] rfl rfl (by kernel_rfl) (by rfl) rfl hS enter_rright (by kernel_rfl) (HR2.out _) ?_
  clear hS
  rintro w' hS
  simp only [Act.put, setIfInBounds_toArray, set_cons_zero, set_cons_succ]
  refine mv_yield (i := 5) (d := 28) (.bool false) rfl rfl (by kernel_rfl) (by kernel_rfl) (by kernel_rfl) hS (y_neb (by rfl) rfl rfl rfl (bne_self_eq_false _)) ?_
  simp only [Act.put, setIfInBounds_toArray, set_cons_zero, set_cons_succ]
  refine mv_done (by kernel_rfl) ?_
  replace HW := hid (HW.out.next hS)
  replace PX := hid (At.two PX.out hS)
  clear hS
  rw [HBE.out]
  go_wp2_with (first
    | refine wpList_load_all (by rfl) 36 _ rfl b8 rfl HQ.out PX.out Tryz.underlying36 rfl HIE.out ?_
    | refine wpList_build_parts (by rfl) 36 [] rfl _ rfl HBG.out ?_
    | refine wpList_load_all (by rfl) 27 _ rfl w.heap.size rfl HT.out HW.out.2.2.1 Tryz.underlying27 rfl HIR.out ?_
    | refine wpList_load_all (by rfl) 22 _ rfl (w.heap.size + 1) rfl HF.out HW.out.2.2.2 Tryz.underlying22 rfl HIA.out ?_)
  refine (HR2.out _).mono ?_
  rintro e W9 ⟨rfl, hb⟩
  replace HW := hid (HW.out.next hb)
  replace PX := hid (At.two PX.out hb)
  clear hb
  go_wp2_with (first
    | refine wpList_load_all (by rfl) 36 _ rfl b8 rfl HQ.out PX.out Tryz.underlying36 rfl HIE.out ?_
    | refine wpList_build_parts (by rfl) 36 [] rfl _ rfl HBG.out ?_
    | refine wpList_load_all (by rfl) 27 _ rfl w.heap.size rfl HT.out HW.out.2.2.1 Tryz.underlying27 rfl HIR.out ?_
    | refine wpList_load_all (by rfl) 22 _ rfl (w.heap.size + 1) rfl HF.out HW.out.2.2.2 Tryz.underlying22 rfl HIA.out ?_)
  refine (HSN.out _).mono ?_
  rintro e W10 ⟨rfl, hb⟩
  replace HW := hid (HW.out.next hb)
  replace PX := hid (At.two PX.out hb)
  clear hb
  go_wp2_with (first
    | refine wpList_load_all (by rfl) 36 _ rfl b8 rfl HQ.out PX.out Tryz.underlying36 rfl HIE.out ?_
    | refine wpList_build_parts (by rfl) 36 [] rfl _ rfl HBG.out ?_
    | refine wpList_load_all (by rfl) 27 _ rfl w.heap.size rfl HT.out HW.out.2.2.1 Tryz.underlying27 rfl HIR.out ?_
    | refine wpList_load_all (by rfl) 22 _ rfl (w.heap.size + 1) rfl HF.out HW.out.2.2.2 Tryz.underlying22 rfl HIA.out ?_)
  go_ret
  exact ⟨rfl, HW.out.1⟩

set_option maxHeartbeats 4000000 in
theorem encPlays_yes (T F : Array Value) (f x : Nat → Int) (m : Nat) (w : World) (hT : IsRow 55 f T) (hF : IsRow 16 x F) (h10 : 10 ≤ m) (h32 : m ≤ 32) (hr : Re f) (hs : Snd x) (hTab : Lv.Tab w) :
    Calls Tryz.prog 6 #[.agg T, .agg F, .int .i64 m] w fun e w' => e = .returned (.bool true) ∧ Below w.heap.size w w' := by
  obtain ⟨Ze, hZe, _, hze, hie⟩ := zero_ep
  obtain ⟨Zr, hZr, _, hzr, hir⟩ := zero_er
  obtain ⟨_, _, _, _, hia⟩ := zero_a
  obtain ⟨G, hG, bG⟩ := ebuilt_0 isEn_p
  obtain ⟨B, hB⟩ : ∃ B, (⟨(pkt f x m).toArray⟩ : ByteArray) = B := ⟨_, rfl⟩
  obtain ⟨Q, hQ⟩ : ∃ Q, IsRow 55 (nxE f x m) Q := ⟨_, isRow _ _⟩
  have HEN := hid (fun w' hT' => as_E (encode_yes T F f x m B w' hT hF h10 h32 hr hs hB hT') hQ)
  have HRE := hid (show ∀ w : World, Calls Tryz.prog 19 #[.agg T, .agg F, .int .i64 m] w fun e w' => e = .returned (.tuple #[.string B, .agg Q]) ∧ Below w.heap.size w w' from fun w => by
    refine (refEncode_as T F f x m hT hF hr hs h10 h32 w).mono ?_
    rintro e w' ⟨⟨B', Q', hB', rfl, hQ'⟩, hb⟩
    obtain rfl : B' = B := hB'.symm.trans hB
    obtain rfl := hQ'.eq hQ fun _ _ => rfl
    exact ⟨rfl, hb⟩)
  have HPL := hid (fun w => plain_en Q _ hQ w)
  have e3 := en_eq_r hQ hQ (fun _ _ => rfl)
  have hl1 : ¬ (m : Int) < 10 := by omega
  have hl2 : ¬ (32 : Int) < m := by omega
  have HR1 := hid (fun w => eright_any T f true w hT ⟨fun _ => hr, fun _ => rfl⟩)
  have HR2 := hid (fun w => refRight_en T f true w hT ⟨fun _ => hr, fun _ => rfl⟩)
  have HSN := hid (fun w => refSound_any F x true w hF ⟨fun _ => hs, fun _ => rfl⟩)
  have HQ := hid hQ
  have HW := hid (Duo.start (Below.refl w.heap.size w) T F 27 22)
  have HT := hid hT
  have HF := hid hF
  have HIE := hid hie
  have HIR := hid hir
  have HIA := hid hia
  have HZE := hid hZe.1
  have HZR := hid hZr.1
  have HG := hid hG
  have HBG := hid bG
  have HTAB := hid hTab
  clear hT hF hie hir hia hZe hZr hG bG hTab hB hQ hr hs
  go_enter Tryz.func6, Tryz.ntmps6
  go_wp2_with fail
  refine (awake_as _ (HTAB.out.next HW.out.1)).mono ?_
  rintro e W1 ⟨rfl, hb⟩
  replace HW := hid (HW.out.next hb)
  clear hb
  have HTW := hid (HTAB.out.next HW.out.1)
  go_wp2_with fail
  refine mv_start fun hS => ?_
  refine mv_yield (i := 0) (d := 15) (.agg T) rfl rfl (by kernel_rfl) (by kernel_rfl) (by kernel_rfl) hS (y_load_part (l := 0) (by rfl) rfl rfl HT.out (fun w' h => HW.out.2.2.1.below h HW.out.2.2.1.lt) HT.out (by omega) (fun i _ => by rw [Nat.zero_add]) Tryz.underlying27 rfl (HIR.out _ HT.out.1)) ?_
  simp only [Act.put, setIfInBounds_toArray, set_cons_zero, set_cons_succ]
  refine mv_yield (i := 2) (d := 17) (.agg F) rfl rfl (by kernel_rfl) (by kernel_rfl) (by kernel_rfl) hS (y_load_part (l := 0) (by rfl) rfl rfl HF.out (fun w' h => HW.out.2.2.2.below h HW.out.2.2.2.lt) HF.out (by omega) (fun i _ => by rw [Nat.zero_add]) Tryz.underlying22 rfl (HIA.out _ HF.out.1)) ?_
  simp only [Act.put, setIfInBounds_toArray, set_cons_zero, set_cons_succ]
  refine mv_yield (i := 3) (d := 18) (.int .i64 m) rfl rfl (by kernel_rfl) (by kernel_rfl) (by kernel_rfl) hS (y_run (by rfl) fun _ => by rfl) ?_
  simp only [Act.put, setIfInBounds_toArray, set_cons_zero, set_cons_succ]
  refine parD0 (fuel := 2) [1, 4, 5, 6, 7, 8, 9, 10] [1, 4, 5, 6, 7, 9, 10] 8 (fun i => i == 9) (fun i => if i = 1 then .agg T else if i = 4 then .tuple #[.string B, .agg Q, .int .i64 0] else if i = 5 then .tuple #[.string B, .agg Q, .int .i64 0] else if i = 6 then .string B else if i = 7 then .agg Q else if i = 8 then .int .i64 0 else .string B) (fun i => Ze) (fun i => 36) #[true, true, true, true, true, true, true, true, false, true, true, false, false] #[true, true, true, true, true, true, true, true, true, true, true, false, false] _ rfl (by decide) (by decide) (by decide) rfl (by kernel_rfl) (by kernel_rfl) (by kernel_rfl) (by decide) rfl rfl rfl (by kernel_rfl) (by kernel_rfl) (by kernel_rfl) (by kernel_rfl) (by kernel_rfl) (by kernel_rfl) hS ?_ ?_ ?_
  · intro i hi
    simp only [List.mem_cons, List.not_mem_nil, or_false] at hi
    rcases hi with rfl | rfl | rfl | rfl | rfl | rfl | rfl | rfl
    · exact ⟨_, rfl, fun D val w' hw' hD hv => st_call (isA := fun i => i == 9) (V := fun i => if i = 1 then .agg T else if i = 4 then .tuple #[.string B, .agg Q, .int .i64 0] else if i = 5 then .tuple #[.string B, .agg Q, .int .i64 0] else if i = 6 then .string B else if i = 7 then .agg Q else if i = 8 then .int .i64 0 else .string B) (Zc := fun i => Ze) (ty := fun i => 36) (i := 1) #[.agg T] rfl rfl rfl enter_of_en (map1 (Eq.trans (part_other _ _ (by kernel_rfl)) rfl)) (of_en T f HT.out _)⟩
    · exact ⟨_, rfl, fun D val w' hw' hD hv => st_call (isA := fun i => i == 9) (V := fun i => if i = 1 then .agg T else if i = 4 then .tuple #[.string B, .agg Q, .int .i64 0] else if i = 5 then .tuple #[.string B, .agg Q, .int .i64 0] else if i = 6 then .string B else if i = 7 then .agg Q else if i = 8 then .int .i64 0 else .string B) (Zc := fun i => Ze) (ty := fun i => 36) (i := 4) #[.agg T, .agg F, .int .i64 m] rfl rfl rfl enter_encode (map3 (Eq.trans (part_eval 1 rfl (hD 1 (by decide +kernel) (by decide)) _ _ rfl (by kernel_rfl) (by kernel_rfl)) (hv 1 (by decide) (hD 1 (by decide +kernel) (by decide)) rfl)) (Eq.trans (part_other _ _ (by kernel_rfl)) rfl) (Eq.trans (part_other _ _ (by kernel_rfl)) rfl)) (HEN.out _ (HTW.out.next hw'))⟩
    · exact ⟨_, rfl, fun D val w' hw' hD hv => st_run (isA := fun i => i == 9) (V := fun i => if i = 1 then .agg T else if i = 4 then .tuple #[.string B, .agg Q, .int .i64 0] else if i = 5 then .tuple #[.string B, .agg Q, .int .i64 0] else if i = 6 then .string B else if i = 7 then .agg Q else if i = 8 then .int .i64 0 else .string B) (Zc := fun i => Ze) (ty := fun i => 36) (i := 5) (run_move rfl (Eq.trans (part_eval 4 rfl (hD 4 (by decide +kernel) (by decide)) _ _ rfl (by kernel_rfl) (by kernel_rfl)) (hv 4 (by decide) (hD 4 (by decide +kernel) (by decide)) rfl))) rfl rfl⟩
    · exact ⟨_, rfl, fun D val w' hw' hD hv => st_run (isA := fun i => i == 9) (V := fun i => if i = 1 then .agg T else if i = 4 then .tuple #[.string B, .agg Q, .int .i64 0] else if i = 5 then .tuple #[.string B, .agg Q, .int .i64 0] else if i = 6 then .string B else if i = 7 then .agg Q else if i = 8 then .int .i64 0 else .string B) (Zc := fun i => Ze) (ty := fun i => 36) (i := 6) (run_extract rfl (Eq.trans (part_eval 5 rfl (hD 5 (by decide +kernel) (by decide)) _ _ rfl (by kernel_rfl) (by kernel_rfl)) (hv 5 (by decide) (hD 5 (by decide +kernel) (by decide)) rfl)) rfl) rfl rfl⟩
    · exact ⟨_, rfl, fun D val w' hw' hD hv => st_run (isA := fun i => i == 9) (V := fun i => if i = 1 then .agg T else if i = 4 then .tuple #[.string B, .agg Q, .int .i64 0] else if i = 5 then .tuple #[.string B, .agg Q, .int .i64 0] else if i = 6 then .string B else if i = 7 then .agg Q else if i = 8 then .int .i64 0 else .string B) (Zc := fun i => Ze) (ty := fun i => 36) (i := 7) (run_extract rfl (Eq.trans (part_eval 5 rfl (hD 5 (by decide +kernel) (by decide)) _ _ rfl (by kernel_rfl) (by kernel_rfl)) (hv 5 (by decide) (hD 5 (by decide +kernel) (by decide)) rfl)) rfl) rfl rfl⟩
    · exact ⟨_, rfl, fun D val w' hw' hD hv => st_run (isA := fun i => i == 9) (V := fun i => if i = 1 then .agg T else if i = 4 then .tuple #[.string B, .agg Q, .int .i64 0] else if i = 5 then .tuple #[.string B, .agg Q, .int .i64 0] else if i = 6 then .string B else if i = 7 then .agg Q else if i = 8 then .int .i64 0 else .string B) (Zc := fun i => Ze) (ty := fun i => 36) (i := 8) (run_extract rfl (Eq.trans (part_eval 5 rfl (hD 5 (by decide +kernel) (by decide)) _ _ rfl (by kernel_rfl) (by kernel_rfl)) (hv 5 (by decide) (hD 5 (by decide +kernel) (by decide)) rfl)) rfl) rfl rfl⟩
    · exact ⟨_, rfl, fun D val w' hw' hD hv => st_alloc (isA := fun i => i == 9) (V := fun i => if i = 1 then .agg T else if i = 4 then .tuple #[.string B, .agg Q, .int .i64 0] else if i = 5 then .tuple #[.string B, .agg Q, .int .i64 0] else if i = 6 then .string B else if i = 7 then .agg Q else if i = 8 then .int .i64 0 else .string B) (Zc := fun i => Ze) (ty := fun i => 36) (i := 9) rfl rfl rfl rfl hze⟩
    · exact ⟨_, rfl, fun D val w' hw' hD hv => st_run (isA := fun i => i == 9) (V := fun i => if i = 1 then .agg T else if i = 4 then .tuple #[.string B, .agg Q, .int .i64 0] else if i = 5 then .tuple #[.string B, .agg Q, .int .i64 0] else if i = 6 then .string B else if i = 7 then .agg Q else if i = 8 then .int .i64 0 else .string B) (Zc := fun i => Ze) (ty := fun i => 36) (i := 10) (run_assign rfl (Eq.trans (part_eval 6 rfl (hD 6 (by decide +kernel) (by decide)) _ _ rfl (by kernel_rfl) (by kernel_rfl)) (hv 6 (by decide) (hD 6 (by decide +kernel) (by decide)) rfl))) rfl rfl⟩
  · exact ⟨_, rfl, fun D val hD hv => y_of_run (by rfl) (fun w' => run_extract rfl (Eq.trans (part_eval 5 rfl (hD 5 (by decide +kernel) (by decide)) _ _ rfl (by kernel_rfl) (by kernel_rfl)) (hv 5 (by decide) (hD 5 (by decide +kernel) (by decide)) rfl)) rfl)⟩
  clear hS
  intro val w' hS hY hV
  have v1 : val 1 = .agg T := (hY 1 (by simp)).1 rfl
  have v4 : val 4 = .tuple #[.string B, .agg Q, .int .i64 0] := (hY 4 (by simp)).1 rfl
  have v5 : val 5 = .tuple #[.string B, .agg Q, .int .i64 0] := (hY 5 (by simp)).1 rfl
  have v6 : val 6 = .string B := (hY 6 (by simp)).1 rfl
  have v7 : val 7 = .agg Q := (hY 7 (by simp)).1 rfl
  have v8 : val 8 = .int .i64 0 := (hY 8 (by simp)).1 rfl
  have v10 : val 10 = .string B := (hY 10 (by simp)).1 rfl
  obtain ⟨b9, e9, a9, g9⟩ : ∃ b, val 9 = .pointer (some ⟨b, 0, none⟩) ∧ At w' b Ze 36 ∧ W1.heap.size ≤ b := (hY 9 (by simp)).2 rfl
  show wpAnyH _ _ _ _ _ _ _ (Act.put (Act.put (Act.put (Act.put (Act.put (Act.put (Act.put (Act.put _ (some 16) (val 1)) (some 19) (val 4)) (some 14) (val 5)) (some 20) (val 6)) (some 21) (val 7)) (some 22) (val 8)) (some 8) (val 9)) (some 7) (val 10)) _
  rw [v1, v4, v5, v6, v7, v8, v10, e9]
  simp only [Act.put, setIfInBounds_toArray, set_cons_zero, set_cons_succ]
  clear hY hV v1 v4 v5 v6 v7 v8 v10 e9
  refine mv_store (i := 11) b9 Q _ rfl rfl (by kernel_rfl) (by rfl) rfl rfl rfl a9 (by rw [HZE.out, HQ.out.1]) HQ.out.2.1 (HIE.out _ HQ.out.1) g9 hS (fun hS1 => ?_)
  clear hS
  have PX := hid (a9.setRow (C := Q))
  have hS := hS1
  clear hS1
  refine mv_yield (i := 12) (d := 9) (.int .i64 0) rfl rfl (by kernel_rfl) (by kernel_rfl) (by kernel_rfl) hS (y_run (by rfl) fun _ => by rfl) ?_
  simp only [Act.put, setIfInBounds_toArray, set_cons_zero, set_cons_succ]
  refine mv_done (by kernel_rfl) ?_
  replace HW := hid (HW.out.next hS)
  clear hS a9 g9 HTW
  revert PX HW
  generalize World.setRow _ _ _ = W8
  generalize b9 = b8
  intro PX HW
  go_wp2_with fail
  refine mv_start fun hS => ?_
  refine mv_yield (i := 0) (d := 23) (.agg T) rfl rfl (by kernel_rfl) (by kernel_rfl) (by kernel_rfl) hS (y_load_part (l := 0) (by rfl) rfl rfl HT.out (fun w' h => HW.out.2.2.1.below h HW.out.2.2.1.lt) HT.out (by omega) (fun i _ => by rw [Nat.zero_add]) Tryz.underlying27 rfl (HIR.out _ HT.out.1)) ?_
  simp only [Act.put, setIfInBounds_toArray, set_cons_zero, set_cons_succ]
  refine mv_yield (i := 3) (d := 26) (.agg T) rfl rfl (by kernel_rfl) (by kernel_rfl) (by kernel_rfl) hS (y_load_part (l := 0) (by rfl) rfl rfl HT.out (fun w' h => HW.out.2.2.1.below h HW.out.2.2.1.lt) HT.out (by omega) (fun i _ => by rw [Nat.zero_add]) Tryz.underlying27 rfl (HIR.out _ HT.out.1)) ?_
  simp only [Act.put, setIfInBounds_toArray, set_cons_zero, set_cons_succ]
  refine mv_call (i := 1) (d := 24) (v := (.agg T)) #[.agg T] rfl rfl (by kernel_rfl) (by rfl) rfl hS enter_of_en (by kernel_rfl) (of_en T f HT.out _) ?_
  clear hS
  rintro w' hS
  simp only [Act.put, setIfInBounds_toArray, set_cons_zero, set_cons_succ]
  refine mv_call (i := 2) (d := 25) (v := (.bool true)) #[.agg T] rfl rfl (by kernel_rfl) (by rfl) rfl hS enter_eright (by kernel_rfl) (HR1.out _) ?_
  clear hS
  rintro w' hS
  simp only [Act.put, setIfInBounds_toArray, set_cons_zero, set_cons_succ]
  refine mv_call (i := 4) (d := 27) (v := (.bool true)) #[.agg T] rfl rfl (by kernel_rfl) (by rfl) rfl hS enter_rright (by kernel_rfl) (HR2.out _) ?_
  clear hS
  rintro w' hS
  simp only [Act.put, setIfInBounds_toArray, set_cons_zero, set_cons_succ]
  refine mv_yield (i := 5) (d := 28) (.bool false) rfl rfl (by kernel_rfl) (by kernel_rfl) (by kernel_rfl) hS (y_neb (by rfl) rfl rfl rfl (bne_self_eq_false _)) ?_
  simp only [Act.put, setIfInBounds_toArray, set_cons_zero, set_cons_succ]
  refine mv_done (by kernel_rfl) ?_
  replace HW := hid (HW.out.next hS)
  replace PX := hid (At.two PX.out hS)
  clear hS
  go_wp2_with (first
    | refine wpList_load_all (by rfl) 36 _ rfl b8 rfl HQ.out PX.out Tryz.underlying36 rfl HIE.out ?_
    | refine wpList_build_parts (by rfl) 36 [] rfl _ rfl HBG.out ?_
    | refine wpList_load_all (by rfl) 27 _ rfl w.heap.size rfl HT.out HW.out.2.2.1 Tryz.underlying27 rfl HIR.out ?_
    | refine wpList_load_all (by rfl) 22 _ rfl (w.heap.size + 1) rfl HF.out HW.out.2.2.2 Tryz.underlying22 rfl HIA.out ?_)
  refine (HR2.out _).mono ?_
  rintro e W9 ⟨rfl, hb⟩
  replace HW := hid (HW.out.next hb)
  replace PX := hid (At.two PX.out hb)
  clear hb
  go_wp2_with (first
    | refine wpList_load_all (by rfl) 36 _ rfl b8 rfl HQ.out PX.out Tryz.underlying36 rfl HIE.out ?_
    | refine wpList_build_parts (by rfl) 36 [] rfl _ rfl HBG.out ?_
    | refine wpList_load_all (by rfl) 27 _ rfl w.heap.size rfl HT.out HW.out.2.2.1 Tryz.underlying27 rfl HIR.out ?_
    | refine wpList_load_all (by rfl) 22 _ rfl (w.heap.size + 1) rfl HF.out HW.out.2.2.2 Tryz.underlying22 rfl HIA.out ?_)
  refine (HSN.out _).mono ?_
  rintro e W10 ⟨rfl, hb⟩
  replace HW := hid (HW.out.next hb)
  replace PX := hid (At.two PX.out hb)
  clear hb
  go_wp2_with (first
    | refine wpList_load_all (by rfl) 36 _ rfl b8 rfl HQ.out PX.out Tryz.underlying36 rfl HIE.out ?_
    | refine wpList_build_parts (by rfl) 36 [] rfl _ rfl HBG.out ?_
    | refine wpList_load_all (by rfl) 27 _ rfl w.heap.size rfl HT.out HW.out.2.2.1 Tryz.underlying27 rfl HIR.out ?_
    | refine wpList_load_all (by rfl) 22 _ rfl (w.heap.size + 1) rfl HF.out HW.out.2.2.2 Tryz.underlying22 rfl HIA.out ?_)
  refine (HRE.out _).mono ?_
  rintro e W11 ⟨rfl, hb⟩
  replace HW := hid (HW.out.next hb)
  replace PX := hid (At.two PX.out hb)
  clear hb
  go_wp2_with (refine wpList_store_row rfl 27 _ _ rfl W11.heap.size Q rfl rfl _ _ (heap_alloc_new _ _) (HIR.out _ HQ.out.1) (by rw [HZR.out, HQ.out.1]) HQ.out.2.1 ?_; rw [World.setRow_alloc_new]
               have hb := (Below.refl W11.heap.size W11).alloc (Nat.le_refl _) (.cells Q 27)
               replace HW := hid (HW.out.next hb)
               replace PX := hid (At.two PX.out hb)
               have PR := hid (At.new W11 Q 27)
               clear hb
               revert HW PX PR
               generalize W11.heap.size = bR
               generalize World.alloc _ _ = W12
               intro HW PX PR
               clear W11)
  refine mv_start fun hS => ?_
  refine mv_yield (i := 0) (d := 72) (.int .i64 0) rfl rfl (by kernel_rfl) (by kernel_rfl) (by kernel_rfl) hS (y_run (by rfl) fun _ => by rfl) ?_
  simp only [Act.put, setIfInBounds_toArray, set_cons_zero, set_cons_succ]
  refine mv_yield (i := 1) (d := 73) (.bool true) rfl rfl (by kernel_rfl) (by kernel_rfl) (by kernel_rfl) hS (y_eqe (by rfl) rfl rfl rfl rfl) ?_
  simp only [Act.put, setIfInBounds_toArray, set_cons_zero, set_cons_succ]
  refine mv_yield (i := 2) (d := 74) (.bool true) rfl rfl (by kernel_rfl) (by kernel_rfl) (by kernel_rfl) hS (y_run (by rfl) fun _ => by rfl) ?_
  simp only [Act.put, setIfInBounds_toArray, set_cons_zero, set_cons_succ]
  refine mv_yield (i := 3) (d := 75) (.string B) rfl rfl (by kernel_rfl) (by kernel_rfl) (by kernel_rfl) hS (y_run (by rfl) fun _ => by rfl) ?_
  simp only [Act.put, setIfInBounds_toArray, set_cons_zero, set_cons_succ]
  refine mv_yield (i := 4) (d := 76) (.string B) rfl rfl (by kernel_rfl) (by kernel_rfl) (by kernel_rfl) hS (y_run (by rfl) fun _ => by rfl) ?_
  simp only [Act.put, setIfInBounds_toArray, set_cons_zero, set_cons_succ]
  refine mv_yield (i := 5) (d := 77) (.bool true) rfl rfl (by kernel_rfl) (by kernel_rfl) (by kernel_rfl) hS (y_eqs (by rfl) rfl rfl rfl) ?_
  simp only [Act.put, setIfInBounds_toArray, set_cons_zero, set_cons_succ]
  refine mv_yield (i := 6) (d := 78) (.bool true) rfl rfl (by kernel_rfl) (by kernel_rfl) (by kernel_rfl) hS (y_run (by rfl) fun _ => by rfl) ?_
  simp only [Act.put, setIfInBounds_toArray, set_cons_zero, set_cons_succ]
  refine mv_yield (i := 7) (d := 79) (.bool true) rfl rfl (by kernel_rfl) (by kernel_rfl) (by kernel_rfl) hS (y_run (by rfl) fun _ => by rfl) ?_
  simp only [Act.put, setIfInBounds_toArray, set_cons_zero, set_cons_succ]
  refine mv_yield (i := 8) (d := 80) (.agg Q) rfl rfl (by kernel_rfl) (by kernel_rfl) (by kernel_rfl) hS (y_load_part (l := 0) (by rfl) rfl rfl HQ.out (fun w' h => PX.out.below h PX.out.lt) HQ.out (by omega) (fun i _ => by rw [Nat.zero_add]) Tryz.underlying36 rfl (HIE.out _ HQ.out.1)) ?_
  simp only [Act.put, setIfInBounds_toArray, set_cons_zero, set_cons_succ]
  refine mv_yield (i := 10) (d := 82) (.agg Q) rfl rfl (by kernel_rfl) (by kernel_rfl) (by kernel_rfl) hS (y_load_part (l := 0) (by rfl) rfl rfl HQ.out (fun w' h => PR.out.below h PR.out.lt) HQ.out (by omega) (fun i _ => by rw [Nat.zero_add]) Tryz.underlying27 rfl (HIR.out _ HQ.out.1)) ?_
  simp only [Act.put, setIfInBounds_toArray, set_cons_zero, set_cons_succ]
  refine mv_call (i := 9) (d := 81) (v := (.agg Q)) #[.agg Q] rfl rfl (by kernel_rfl) (by rfl) rfl hS enter_plain_en (by kernel_rfl) (HPL.out _) ?_
  clear hS
  rintro w' hS
  simp only [Act.put, setIfInBounds_toArray, set_cons_zero, set_cons_succ]
  refine mv_yield (i := 11) (d := 83) (.bool true) rfl rfl (by kernel_rfl) (by kernel_rfl) (by kernel_rfl) hS (y_eql (b := true) (by rfl) rfl rfl rfl (by kernel_rfl) e3) ?_
  simp only [Act.put, setIfInBounds_toArray, set_cons_zero, set_cons_succ]
  refine mv_yield (i := 12) (d := 84) (.bool true) rfl rfl (by kernel_rfl) (by kernel_rfl) (by kernel_rfl) hS (y_run (by rfl) fun _ => by rfl) ?_
  simp only [Act.put, setIfInBounds_toArray, set_cons_zero, set_cons_succ]
  refine mv_yield (i := 13) (d := 6) (.bool true) rfl rfl (by kernel_rfl) (by kernel_rfl) (by kernel_rfl) hS (y_run (by rfl) fun _ => by rfl) ?_
  simp only [Act.put, setIfInBounds_toArray, set_cons_zero, set_cons_succ]
  refine mv_done (by kernel_rfl) ?_
  replace HW := hid (HW.out.next hS)
  clear hS
  go_wp2_with fail
  go_ret
  exact ⟨rfl, HW.out.1⟩

theorem encPlays_walk (T F : Array Value) (f x : Nat → Int) (m : Int) (w : World) (hT : IsRow 55 f T) (hF : IsRow 16 x F) (_hm : -9223372036854775808 ≤ m ∧ m ≤ 9223372036854775807) (hTab : Lv.Tab w) :
    Calls Tryz.prog 6 #[.agg T, .agg F, .int .i64 m] w fun e w' => e = .returned (.bool true) ∧ Below w.heap.size w w' := by
  by_cases hm : m < 10 ∨ 32 < m
  · exact encPlays_size T F f x m w hT hF hm hTab
  obtain ⟨k, rfl⟩ : ∃ k : Nat, m = k := ⟨m.toNat, by omega⟩
  by_cases hr : Re f
  · by_cases hs : Snd x
    · exact encPlays_yes T F f x k w hT hF (by omega) (by omega) hr hs hTab
    · exact encPlays_loud T F f x k w hT hF (by omega) (by omega) hr hs hTab
  · exact encPlays_wrong T F f x k w hT hF (by omega) (by omega) hr hTab
end Go.Proofs.YtfohinlldchdpaaGreatDoor.En.Pl
end
