/- Texts of the walk, one behind the other. -/
import Derived.Test.YtfohinlldchdpaaGreatDoorEncSilenceM9
import Derived.Test.YtfohinlldchdpaaGreatDoorEncSilenceM8
import Derived.Test.YtfohinlldchdpaaGreatDoorEncSilenceM44

section
/- The laws' Of and Plain of encoders; the document's Right and Sound. Written by g43.py. -/
set_option maxRecDepth 100000
set_option linter.unusedVariables false
namespace Go.Proofs.YtfohinlldchdpaaGreatDoor.En
open Go.RowKit Go.Proofs.YtfohinlldchdpaaGreatDoor.Row Go.Proofs.YtfohinlldchdpaaGreatDoor.Md Go.Proofs.YtfohinlldchdpaaGreatDoor.Tl Go.Proofs.YtfohinlldchdpaaGreatDoor.Sta

/-- An encoder that came in, and one of one's own behind it. -/
def TwE (w : World) (T : Array Value) (t u : TypeId) (w' : World) : Prop := ∃ Z : Array Value, Z.size = 55 ∧ Below w.heap.size w w' ∧ At w' w.heap.size T t ∧ At w' (w.heap.size + 1) Z u
theorem TwE.start (w : World) (T : Array Value) (t u : TypeId) {Z : Array Value} (hZ : Z.size = 55) : TwE w T t u ((w.alloc (.cells T t)).alloc (.cells Z u)) := by
  have a1 := At.new (w.alloc (.cells T t)) Z u
  simp only [World.size_alloc] at a1
  exact ⟨Z, hZ, ((Below.refl _ _).alloc (Nat.le_refl _) _).alloc (by simp) _, (At.new _ _ _).alloc _, a1⟩
theorem TwE.atT {w w' : World} {T : Array Value} {t u : TypeId} (h : TwE w T t u w') : At w' w.heap.size T t := by
  obtain ⟨_, _, _, h, _⟩ := h; exact h
theorem TwE.next {w w1 w2 : World} {T : Array Value} {t u : TypeId} (h : TwE w T t u w1) (hb : Below w1.heap.size w1 w2) : TwE w T t u w2 := by
  obtain ⟨Z, hZ, h1, h2, h3⟩ := h
  exact ⟨Z, hZ, below_trans h1 hb h1.size, h2.below hb h2.lt, h3.below hb h3.lt⟩
theorem TwE.set {w w1 : World} {T R : Array Value} {t u : TypeId} (h : TwE w T t u w1) (hR : R.size = 55) : TwE w T t u (w1.setRow (w.heap.size + 1) R) := by
  obtain ⟨Z, hZ, h1, h2, h3⟩ := h
  exact ⟨R, hR, below_setRow' h1 (by omega) _, h2.setRow_other (by omega), h3.setRow⟩

set_option maxHeartbeats 1000000 in
theorem of_en (T : Array Value) (f : Nat → Int) (hT : IsRow 55 f T) (w : World) :
    Calls Tryz.prog 13 #[.agg T] w fun e w' => e = .returned (.agg T) ∧ Below w.heap.size w w' := by
  obtain ⟨Z, hZ, _, hz, hi⟩ := zero_ep
  obtain ⟨_, _, _, _, hib⟩ := zero_a
  obtain ⟨_, _, _, _, his⟩ := zero_r
  obtain ⟨z, hz16⟩ : ∃ z, f 16 = z := ⟨_, rfl⟩
  obtain ⟨M, hM⟩ : ∃ M, T.extract 0 (0 + 16) = M := ⟨_, rfl⟩
  obtain ⟨Q, hQ⟩ : ∃ M, T.extract 17 (17 + 38) = M := ⟨_, rfl⟩
  have hM' := hT.sub (show 0 + 16 ≤ 55 by omega)
  have hQ' := hT.sub (show 17 + 38 ≤ 55 by omega)
  rw [hM] at hM'
  rw [hQ] at hQ'
  obtain ⟨C, hC, hE⟩ := ebuilt_3 isEn_p hM' z hQ'
  obtain rfl : C = T := hC.eq hT fun k hk => by
    have h : enF (fun i => f (0 + i)) z (fun i => f (17 + i)) k = enF f (f 16) (fun i => f (17 + i)) k := by
      unfold enF
      rw [hz16]
      dsimp only
      rw [Nat.zero_add]
    rw [h, enF_self f hk]
  have HE := Lib.hid hE
  have HI := Lib.hid hi
  have HIB := Lib.hid hib
  have HIS := Lib.hid his
  have HT := Lib.hid hT
  have HM := Lib.hid hM'
  have HQ := Lib.hid hQ'
  have HZ16 := Lib.hid hz16
  have HW := Lib.hid (TwE.start w C 27 36 hZ.1)
  clear hT hZ hi hib his hz16 hM hQ hM' hQ' hC hE
  go_enter Tryz.func13, Tryz.ntmps13
  go_wp2_with fail
  revert HW
  generalize World.alloc _ _ = W
  intro HW
  refine mv_startS (TwE w C 27 36) (HW.out.next ((Below.refl _ _).drew)) fun hS => ?_
  refine mv_yield (i := 0) (d := 3) (.pointer (some ⟨w.heap.size, 0, none⟩)) rfl rfl (by kernel_rfl) (by kernel_rfl) (by kernel_rfl) hS (y_field (by rfl) rfl rfl fld_er0) ?_
  simp only [Act.put, List.setIfInBounds_toArray, List.set_cons_zero, List.set_cons_succ]
  refine mv_yield (i := 1) (d := 4) (.agg M) rfl rfl (by kernel_rfl) (by kernel_rfl) (by kernel_rfl) hS (y_load_part (l := 0) (by rfl) rfl rfl HT.out (fun w' h => h.atT) HM.out (by omega) (fun i _ => by first | rw [Nat.zero_add] | rfl) Tryz.underlying22 rfl (HIB.out _ HM.out.1)) ?_
  simp only [Act.put, List.setIfInBounds_toArray, List.set_cons_zero, List.set_cons_succ]
  refine mv_yield (i := 2) (d := 5) (.pointer (some ⟨w.heap.size, 16, none⟩)) rfl rfl (by kernel_rfl) (by kernel_rfl) (by kernel_rfl) hS (y_field (by rfl) rfl rfl fld_er1) ?_
  simp only [Act.put, List.setIfInBounds_toArray, List.set_cons_zero, List.set_cons_succ]
  refine mv_yield (i := 3) (d := 6) (.int .i64 z) rfl rfl (by kernel_rfl) (by kernel_rfl) (by kernel_rfl) hS (y_cellS (by rfl) rfl rfl (fun w' h => by have := HT.out.cell h.atT 16 (by omega); rw [HZ16.out] at this; exact this)) ?_
  simp only [Act.put, List.setIfInBounds_toArray, List.set_cons_zero, List.set_cons_succ]
  refine mv_yield (i := 4) (d := 7) (.pointer (some ⟨w.heap.size, 17, none⟩)) rfl rfl (by kernel_rfl) (by kernel_rfl) (by kernel_rfl) hS (y_field (by rfl) rfl rfl fld_er2) ?_
  simp only [Act.put, List.setIfInBounds_toArray, List.set_cons_zero, List.set_cons_succ]
  refine mv_yield (i := 5) (d := 8) (.agg Q) rfl rfl (by kernel_rfl) (by kernel_rfl) (by kernel_rfl) hS (y_load_part (l := 17) (by rfl) rfl rfl HT.out (fun w' h => h.atT) HQ.out (by omega) (fun i _ => by first | rw [Nat.zero_add] | rfl) Tryz.underlying25 rfl (HIS.out _ HQ.out.1)) ?_
  simp only [Act.put, List.setIfInBounds_toArray, List.set_cons_zero, List.set_cons_succ]
  refine mv_ready [6] (by kernel_rfl) (by simp) (ar_callP (i := 6) (d := 9) (v := .agg Q) #[.agg Q] rfl rfl (by rfl) rfl enter_of (by kernel_rfl) (of_as Q _ _ HQ.out) (fun w' h => hS.next h) ?_ AllReadyH.nil)
  clear hS
  rintro w' hb hS
  clear hb
  simp only [Act.put, List.setIfInBounds_toArray, List.set_cons_zero, List.set_cons_succ]
  refine mv_yield (i := 7) (d := 10) (.agg C) rfl rfl (by kernel_rfl) (by kernel_rfl) (by kernel_rfl) hS (y_build_parts (L := [(0, _), (1, _), (2, _)]) (by rfl) rfl _ rfl HE.out) ?_
  simp only [Act.put, List.setIfInBounds_toArray, List.set_cons_zero, List.set_cons_succ]
  obtain ⟨Y, hY, h0, h1, h2⟩ := id hS
  refine mv_ready [8] (by kernel_rfl) (by simp) (ar_store (i := 8) (w.heap.size + 1) C Y rfl rfl (by rfl) rfl rfl rfl h2 (by rw [hY, HT.out.1]) HT.out.2.1 (HI.out _ HT.out.1) (hS.set HT.out.1) (fun hS' => ?_) AllReadyH.nil)
  have PX := Lib.hid (h2.setRow (C := C))
  obtain ⟨_, _, hb, _⟩ := hS'
  refine mv_done (by kernel_rfl) ?_
  have HB := Lib.hid hb
  clear hb hS h0 h1 h2
  go_wp2_with fail
  exact bodyPost_ret (v := .agg C) (results_cell_row rfl _ _ (w.heap.size + 1) 36 C (0, 0) _ rfl PX.out Tryz.underlying36 rfl (HI.out _ HT.out.1)) rfl ⟨rfl, HB.out⟩

set_option maxHeartbeats 1000000 in
theorem plain_en (T : Array Value) (f : Nat → Int) (hT : IsRow 55 f T) (w : World) :
    Calls Tryz.prog 20 #[.agg T] w fun e w' => e = .returned (.agg T) ∧ Below w.heap.size w w' := by
  obtain ⟨Z, hZ, _, hz, hi⟩ := zero_er
  obtain ⟨_, _, _, _, hib⟩ := zero_b
  obtain ⟨_, _, _, _, his⟩ := zero_p
  obtain ⟨z, hz16⟩ : ∃ z, f 16 = z := ⟨_, rfl⟩
  obtain ⟨M, hM⟩ : ∃ M, T.extract 0 (0 + 16) = M := ⟨_, rfl⟩
  obtain ⟨Q, hQ⟩ : ∃ M, T.extract 17 (17 + 38) = M := ⟨_, rfl⟩
  have hM' := hT.sub (show 0 + 16 ≤ 55 by omega)
  have hQ' := hT.sub (show 17 + 38 ≤ 55 by omega)
  rw [hM] at hM'
  rw [hQ] at hQ'
  obtain ⟨C, hC, hE⟩ := ebuilt_3 isEn_r hM' z hQ'
  obtain rfl : C = T := hC.eq hT fun k hk => by
    have h : enF (fun i => f (0 + i)) z (fun i => f (17 + i)) k = enF f (f 16) (fun i => f (17 + i)) k := by
      unfold enF
      rw [hz16]
      dsimp only
      rw [Nat.zero_add]
    rw [h, enF_self f hk]
  have HE := Lib.hid hE
  have HI := Lib.hid hi
  have HIB := Lib.hid hib
  have HIS := Lib.hid his
  have HT := Lib.hid hT
  have HM := Lib.hid hM'
  have HQ := Lib.hid hQ'
  have HZ16 := Lib.hid hz16
  have HW := Lib.hid (TwE.start w C 36 27 hZ.1)
  clear hT hZ hi hib his hz16 hM hQ hM' hQ' hC hE
  go_enter Tryz.func20, Tryz.ntmps20
  go_wp2_with fail
  revert HW
  generalize World.alloc _ _ = W
  intro HW
  refine mv_startS (TwE w C 36 27) (HW.out.next ((Below.refl _ _).drew)) fun hS => ?_
  refine mv_yield (i := 0) (d := 3) (.pointer (some ⟨w.heap.size, 0, none⟩)) rfl rfl (by kernel_rfl) (by kernel_rfl) (by kernel_rfl) hS (y_field (by rfl) rfl rfl fld_ep0) ?_
  simp only [Act.put, List.setIfInBounds_toArray, List.set_cons_zero, List.set_cons_succ]
  refine mv_yield (i := 1) (d := 4) (.agg M) rfl rfl (by kernel_rfl) (by kernel_rfl) (by kernel_rfl) hS (y_load_part (l := 0) (by rfl) rfl rfl HT.out (fun w' h => h.atT) HM.out (by omega) (fun i _ => by first | rw [Nat.zero_add] | rfl) Tryz.underlying32 rfl (HIB.out _ HM.out.1)) ?_
  simp only [Act.put, List.setIfInBounds_toArray, List.set_cons_zero, List.set_cons_succ]
  refine mv_yield (i := 2) (d := 5) (.pointer (some ⟨w.heap.size, 16, none⟩)) rfl rfl (by kernel_rfl) (by kernel_rfl) (by kernel_rfl) hS (y_field (by rfl) rfl rfl fld_ep1) ?_
  simp only [Act.put, List.setIfInBounds_toArray, List.set_cons_zero, List.set_cons_succ]
  refine mv_yield (i := 3) (d := 6) (.int .i64 z) rfl rfl (by kernel_rfl) (by kernel_rfl) (by kernel_rfl) hS (y_cellS (by rfl) rfl rfl (fun w' h => by have := HT.out.cell h.atT 16 (by omega); rw [HZ16.out] at this; exact this)) ?_
  simp only [Act.put, List.setIfInBounds_toArray, List.set_cons_zero, List.set_cons_succ]
  refine mv_yield (i := 4) (d := 7) (.pointer (some ⟨w.heap.size, 17, none⟩)) rfl rfl (by kernel_rfl) (by kernel_rfl) (by kernel_rfl) hS (y_field (by rfl) rfl rfl fld_ep2) ?_
  simp only [Act.put, List.setIfInBounds_toArray, List.set_cons_zero, List.set_cons_succ]
  refine mv_yield (i := 5) (d := 8) (.agg Q) rfl rfl (by kernel_rfl) (by kernel_rfl) (by kernel_rfl) hS (y_load_part (l := 17) (by rfl) rfl rfl HT.out (fun w' h => h.atT) HQ.out (by omega) (fun i _ => by first | rw [Nat.zero_add] | rfl) Tryz.underlying34 rfl (HIS.out _ HQ.out.1)) ?_
  simp only [Act.put, List.setIfInBounds_toArray, List.set_cons_zero, List.set_cons_succ]
  refine mv_ready [6] (by kernel_rfl) (by simp) (ar_callP (i := 6) (d := 9) (v := .agg Q) #[.agg Q] rfl rfl (by rfl) rfl enter_plain (by kernel_rfl) (plain_as Q _ _ HQ.out) (fun w' h => hS.next h) ?_ AllReadyH.nil)
  clear hS
  rintro w' hb hS
  clear hb
  simp only [Act.put, List.setIfInBounds_toArray, List.set_cons_zero, List.set_cons_succ]
  refine mv_yield (i := 7) (d := 10) (.agg C) rfl rfl (by kernel_rfl) (by kernel_rfl) (by kernel_rfl) hS (y_build_parts (L := [(0, _), (1, _), (2, _)]) (by rfl) rfl _ rfl HE.out) ?_
  simp only [Act.put, List.setIfInBounds_toArray, List.set_cons_zero, List.set_cons_succ]
  obtain ⟨Y, hY, h0, h1, h2⟩ := id hS
  refine mv_ready [8] (by kernel_rfl) (by simp) (ar_store (i := 8) (w.heap.size + 1) C Y rfl rfl (by rfl) rfl rfl rfl h2 (by rw [hY, HT.out.1]) HT.out.2.1 (HI.out _ HT.out.1) (hS.set HT.out.1) (fun hS' => ?_) AllReadyH.nil)
  have PX := Lib.hid (h2.setRow (C := C))
  obtain ⟨_, _, hb, _⟩ := hS'
  refine mv_done (by kernel_rfl) ?_
  have HB := Lib.hid hb
  clear hb hS h0 h1 h2
  go_wp2_with fail
  exact bodyPost_ret (v := .agg C) (results_cell_row rfl _ _ (w.heap.size + 1) 27 C (0, 0) _ rfl PX.out Tryz.underlying27 rfl (HI.out _ HT.out.1)) rfl ⟨rfl, HB.out⟩

theorem enter_of_en (args : Array Value) (w : World) : (callFunc 13 args).run Tryz.prog w = .ok (.enter 13 args) w := run_enter Tryz.func13 (by kernel_rfl) rfl args w
theorem enter_plain_en (args : Array Value) (w : World) : (callFunc 20 args).run Tryz.prog w = .ok (.enter 20 args) w := run_enter Tryz.func20 (by kernel_rfl) rfl args w
end Go.Proofs.YtfohinlldchdpaaGreatDoor.En
end
