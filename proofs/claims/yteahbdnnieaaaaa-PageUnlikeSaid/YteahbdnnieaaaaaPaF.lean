/- The document's Lay. -/
import Derived.Test.YteahbdnnieaaaaaPaE
import Derived.Test.YteahbdnnieaaaaaPaT
import Derived.Test.YteahbdnnieaaaaaRowMvW
import Derived.Deep.DeepCutAuto
set_option maxRecDepth 100000
set_option linter.unusedVariables false
set_option linter.unusedSimpArgs false
namespace Go.Proofs.Yteahbdnnieaaaaa.Pa
open Go.RowKit Go.Proofs.Yteahbdnnieaaaaa.Row Go.Proofs.Yteahbdnnieaaaaa.Crc

def strLen : Value → Nat
  | .string s => s.size
  | _ => 0
theorem size_add (x y : ByteArray) : (x ++ y).size = x.size + y.size := ByteArray.size_append
theorem size_list (x : ByteArray) : x.size = x.data.toList.length := by rw [Array.length_toList]; rfl
theorem data_add (x y : ByteArray) : (x ++ y).data.toList = x.data.toList ++ y.data.toList := by rw [ByteArray.data_append, Array.toList_append]
theorem zero_64 (w : World) : (zeroValue 26).run Try.prog w = .ok (.agg (bl z64)) w := by kernel_rfl
theorem info_64 {A : Array Value} (h : A.size = 64) : (Try.prog.info? 26).map (·.size) = some A.size := by rw [h]; kernel_rfl
theorem info_rp {A : Array Value} (h : A.size = 6) : (Try.prog.info? 24).map (·.size) = some A.size := by rw [h]; kernel_rfl
theorem enter_rfour (args : Array Value) (w : World) : (callFunc 14 args).run Try.prog w = .ok (.enter 14 args) w := run_enter Try.func14 (by kernel_rfl) rfl args w
theorem fldr (i : Nat) (hi : i < 6) : FldO 24 i i := by
  obtain rfl | rfl | rfl | rfl | rfl | rfl : i = 0 ∨ i = 1 ∨ i = 2 ∨ i = 3 ∨ i = 4 ∨ i = 5 := by omega
  all_goals exact fldO Try.underlying24 rfl rfl (s := 1) (by kernel_rfl) (by omega)
theorem rfour_as (x : Nat) (w : World) (hx : x < 4294967296) : Calls Try.prog 14 #[.int .u32 x] w fun e w' => ∃ v, e = .returned v ∧ v = .string ⟨(fourL x).toArray⟩ ∧ Below w.heap.size w w' :=
  (refFour_any x w hx).mono fun e w' h => ⟨_, h.1, rfl, h.2⟩
/-- While the document lays a page. -/
def ReI (w : World) (p : Pv) (w' : World) : Prop := Below w.heap.size w w' ∧ At w' w.heap.size (pgV p) 24 ∧ At w' (w.heap.size + 1) (bl z64) 26
theorem ReI.next {w w1 w2 : World} {p : Pv} (h : ReI w p w1) (hb : Below w1.heap.size w1 w2) : ReI w p w2 := ⟨below_trans h.1 hb h.1.size, h.2.1.below hb h.2.1.lt, h.2.2.below hb h.2.2.lt⟩
theorem ReI.drew {w w1 : World} {p : Pv} (h : ReI w p w1) : ReI w p w1.drew := h.next (Below.refl _ _).drew
theorem ReI.fld {w w1 : World} {p : Pv} (h : ReI w p w1) {k : Nat} {v : Value} (hk : (pgV p)[k]? = some v) : w1.cell? ⟨w.heap.size, k, none⟩ = some v := by rw [cell_of_row _ _ _ _ _ _ h.2.1, hk]
theorem ReI.start (w : World) (p : Pv) : ReI w p ((w.alloc (.cells (pgV p) 24)).alloc (.cells (bl z64) 26)) := ⟨below_second _ _ _, (At.new w (pgV p) _).alloc _, at_second w _ _ _⟩
/-- While its bytes are laid one by one. -/
def RlI (w : World) (g k : Nat) (L : List UInt8) (w' : World) : Prop :=
  Below w.heap.size w w' ∧ w.heap.size + 1 < g ∧ At w' (w.heap.size + 1) (bl z64) 26 ∧ At w' g (bl (L.take k ++ List.replicate (64 - k) 0)) 26
theorem RlI.start {w w2 : World} {L : List UInt8} (p : Pv) (h : ReI w p w2) : RlI w w2.heap.size 0 L (w2.alloc (.cells (bl z64) 26)) :=
  ⟨h.1.alloc h.1.size _, h.2.2.lt, h.2.2.alloc _, At.new _ _ _⟩
section
variable {w w1 : World} {g k : Nat} {L : List UInt8}
theorem RlI.byte (h : RlI w g k L w1) (hk : k < L.length) (hk64 : k < 64 := by omega) : w1.cell? ⟨g, k, none⟩ = some (.int .u8 (B (L.take k ++ List.replicate (64 - k) 0) k)) ∧ w1.frozen? ⟨g, k, none⟩ = false :=
  ⟨by rw [cell_of_row _ _ _ _ _ _ h.2.2.2, bl_at _ k (by simp; omega)], h.2.2.2.frozen k⟩
theorem RlI.put (h : RlI w g k L w1) (hL : L.length = 64) (hk : k < 64) : RlI w g (k + 1) L (w1.setCell ⟨g, k, none⟩ (.int .u8 ((L.getD k 0).toNat : Int))) := by
  have hg := h.2.1
  refine ⟨h.1.setCell (by dsimp only; omega) _, h.2.1, h.2.2.1.setCell_other (by dsimp only; omega), ?_⟩
  have e : (L.take k ++ List.replicate (64 - k) 0).set k (L.getD k 0) = L.take (k + 1) ++ List.replicate (64 - (k + 1)) 0 := by
    rw [List.set_append_right _ _ (by rw [List.length_take]; omega), List.length_take, show k - min k L.length = 0 from by omega, show 64 - k = (64 - (k + 1)) + 1 from by omega, List.replicate_succ, List.set_cons_zero, gd_get L k (by omega), List.take_succ_eq_append_getElem (by omega), List.append_assoc]
    rfl
  rw [← e, ← bl_set]
  exact h.2.2.2.setCell
theorem RlI.all (h : RlI w g 64 L w1) (hL : L.length = 64) : At w1 g (bl L) 26 := by
  have := h.2.2.2
  rwa [List.take_of_length_le (by omega), Nat.sub_self, List.replicate_zero, List.append_nil] at this
end

set_option maxHeartbeats 4000000 in
theorem refLay_0 (p : Pv) (w : World) (ho : p.Ok) (hr : p.right) (hf : p.f = false) (hl : p.l = false) :
    Calls Try.prog 17 #[.agg (pgV p)] w fun e w' => e = .returned (.agg (bl p.lay)) ∧ Below w.heap.size w w' := by
  have HO := Lib.hid ho
  have HR := Lib.hid hr
  have HM := Lib.hid (show p.m = 0 by unfold Pv.m; rw [hf, hl]; rfl)
  have HI := Lib.hid (ReI.start w p)
  have c3 : ((w.alloc (.cells (pgV p) 24)).alloc (.cells (bl z64) 26)).cell? ⟨w.heap.size, 3, none⟩ = some (.bool false) := by rw [← hf]; exact HI.out.fld (k := 3) rfl
  have c4 : ((w.alloc (.cells (pgV p) 24)).alloc (.cells (bl z64) 26)).cell? ⟨w.heap.size, 4, none⟩ = some (.bool false) := by rw [← hl]; exact HI.out.fld (k := 4) rfl
  clear ho hr hf hl
  obtain ⟨Z, hZ⟩ : ∃ Z, bl z64 = Z := ⟨_, rfl⟩
  obtain ⟨P, hP⟩ : ∃ P, pgV p = P := ⟨_, rfl⟩
  have hz := zero_64
  rw [hZ] at hz c3 c4
  rw [hP] at c3 c4 ⊢
  simp only [hZ, hP] at HI
  have HZ := Lib.hid hZ
  have HP := Lib.hid hP
  have HZL := Lib.hid z64_len
  clear hZ hP
  obtain ⟨kb, hkb⟩ : ∃ kb : UInt8, UInt8.ofNat p.k.toNat = kb := ⟨_, rfl⟩
  obtain ⟨nb, hnb⟩ : ∃ nb : UInt8, UInt8.ofNat p.d.length = nb := ⟨_, rfl⟩
  have hk : (kb.toNat : Int) = p.k := by
    have := HR.out.2.2.imp id fun h => h.1
    rw [← hkb, ofNat_toNat _ (by omega)]
    omega
  have hn : nb.toNat = p.d.length := by
    have := HR.out.2.1
    rw [← hnb, ofNat_toNat _ (by omega)]
  have kl := kb.toNat_lt
  have nl := nb.toNat_lt
  have HKB := Lib.hid hkb
  have HNB := Lib.hid hnb
  have HS := Lib.hid (show (⟨p.d.toArray⟩ : ByteArray).size = nb.toNat by rw [hn]; simp [ByteArray.size])
  have HK := Lib.hid (show some (Value.int .i64 p.k) = some (Value.int .i64 (kb.toNat : Int)) by rw [hk])
  obtain ⟨SL, hSL⟩ : ∃ SL, ((fourL p.e ++ fourL p.n) ++ (([kb, UInt8.ofNat 0, nb].drop 0).take 3)) ++ p.d = SL := ⟨_, rfl⟩
  have HSL := Lib.hid hSL
  clear hkb hnb hk hn hSL
  go_enter Try.func17, Try.ntmps17
  go_upto_region 6 with fail
  clear c3 c4
  revert HI
  generalize World.alloc _ _ = W0
  intro HI
  go_cut [4] (fun s wx => s = .string ⟨SL.toArray⟩ ∧ Hid (ReI w p wx))
  case first =>
    refine mf_start (fun w' => ReI w p w') (fun _ => false) HI.out.drew fun hS => ?_
    refine mf_yield (i := 0) (d := 15) (.pointer (some ⟨w.heap.size, 0, none⟩)) rfl rfl (by kernel_rfl) (by kernel_rfl) (by kernel_rfl) (by kernel_rfl) hS (y_fieldO (by rfl) rfl rfl (fldr 0 (by omega)) (Nat.zero_add _)) ?_
    simp only [Act.put, List.setIfInBounds_toArray, List.set_cons_zero, List.set_cons_succ]
    refine mf_yield (i := 1) (d := 16) (.int .u32 p.e) rfl rfl (by kernel_rfl) (by kernel_rfl) (by kernel_rfl) (by kernel_rfl) hS (y_cell1 (by rfl) rfl rfl Try.underlying22 rfl (fun w h => h.fld (k := 0) rfl)) ?_
    simp only [Act.put, List.setIfInBounds_toArray, List.set_cons_zero, List.set_cons_succ]
    refine mf_yield (i := 3) (d := 18) (.pointer (some ⟨w.heap.size, 1, none⟩)) rfl rfl (by kernel_rfl) (by kernel_rfl) (by kernel_rfl) (by kernel_rfl) hS (y_fieldO (by rfl) rfl rfl (fldr 1 (by omega)) (Nat.zero_add _)) ?_
    simp only [Act.put, List.setIfInBounds_toArray, List.set_cons_zero, List.set_cons_succ]
    refine mf_yield (i := 4) (d := 19) (.int .u32 p.n) rfl rfl (by kernel_rfl) (by kernel_rfl) (by kernel_rfl) (by kernel_rfl) hS (y_cell1 (by rfl) rfl rfl Try.underlying22 rfl (fun w h => h.fld (k := 1) rfl)) ?_
    simp only [Act.put, List.setIfInBounds_toArray, List.set_cons_zero, List.set_cons_succ]
    refine mf_yield (i := 7) (d := 22) (.pointer (some ⟨w.heap.size, 2, none⟩)) rfl rfl (by kernel_rfl) (by kernel_rfl) (by kernel_rfl) (by kernel_rfl) hS (y_fieldO (by rfl) rfl rfl (fldr 2 (by omega)) (Nat.zero_add _)) ?_
    simp only [Act.put, List.setIfInBounds_toArray, List.set_cons_zero, List.set_cons_succ]
    refine mf_yield (i := 8) (d := 23) (.int .i64 ((kb.toNat : Nat))) rfl rfl (by kernel_rfl) (by kernel_rfl) (by kernel_rfl) (by kernel_rfl) hS (y_cell1 (by rfl) rfl rfl Try.underlying3 rfl (fun w h => (h.fld (k := 2) rfl).trans HK.out)) ?_
    simp only [Act.put, List.setIfInBounds_toArray, List.set_cons_zero, List.set_cons_succ]
    refine mf_yield (i := 9) (d := 24) (.int .u8 ((kb.toNat : Nat))) rfl rfl (by kernel_rfl) (by kernel_rfl) (by kernel_rfl) (by kernel_rfl) hS (y_u8 (by rfl) rfl rfl kl) ?_
    simp only [Act.put, List.setIfInBounds_toArray, List.set_cons_zero, List.set_cons_succ]
    refine mf_yield (i := 10) (d := 25) (.int .i64 0) rfl rfl (by kernel_rfl) (by kernel_rfl) (by kernel_rfl) (by kernel_rfl) hS (y_run (by rfl) fun _ => by rfl) ?_
    simp only [Act.put, List.setIfInBounds_toArray, List.set_cons_zero, List.set_cons_succ]
    refine mf_yield (i := 11) (d := 26) (.int .u8 ((0 : Nat))) rfl rfl (by kernel_rfl) (by kernel_rfl) (by kernel_rfl) (by kernel_rfl) hS (y_u8 (x := 0) (by rfl) rfl rfl (by omega)) ?_
    simp only [Act.put, List.setIfInBounds_toArray, List.set_cons_zero, List.set_cons_succ]
    refine mf_yield (i := 12) (d := 27) (.pointer (some ⟨w.heap.size, 5, none⟩)) rfl rfl (by kernel_rfl) (by kernel_rfl) (by kernel_rfl) (by kernel_rfl) hS (y_fieldO (by rfl) rfl rfl (fldr 5 (by omega)) (Nat.zero_add _)) ?_
    simp only [Act.put, List.setIfInBounds_toArray, List.set_cons_zero, List.set_cons_succ]
    refine mf_yield (i := 13) (d := 28) (.string ⟨p.d.toArray⟩) rfl rfl (by kernel_rfl) (by kernel_rfl) (by kernel_rfl) (by kernel_rfl) hS (y_cell1 (by rfl) rfl rfl Try.underlying9 rfl (fun w h => h.fld (k := 5) rfl)) ?_
    simp only [Act.put, List.setIfInBounds_toArray, List.set_cons_zero, List.set_cons_succ]
    refine mf_yield (i := 14) (d := 29) (.int .i64 ((nb.toNat : Nat))) rfl rfl (by kernel_rfl) (by kernel_rfl) (by kernel_rfl) (by kernel_rfl) hS (y_lenS (by rfl) rfl rfl HS.out) ?_
    simp only [Act.put, List.setIfInBounds_toArray, List.set_cons_zero, List.set_cons_succ]
    refine mf_yield (i := 15) (d := 30) (.int .u8 ((nb.toNat : Nat))) rfl rfl (by kernel_rfl) (by kernel_rfl) (by kernel_rfl) (by kernel_rfl) hS (y_u8 (by rfl) rfl rfl nl) ?_
    simp only [Act.put, List.setIfInBounds_toArray, List.set_cons_zero, List.set_cons_succ]
    refine mf_yield (i := 19) (d := 34) (.pointer (some ⟨w.heap.size, 5, none⟩)) rfl rfl (by kernel_rfl) (by kernel_rfl) (by kernel_rfl) (by kernel_rfl) hS (y_fieldO (by rfl) rfl rfl (fldr 5 (by omega)) (Nat.zero_add _)) ?_
    simp only [Act.put, List.setIfInBounds_toArray, List.set_cons_zero, List.set_cons_succ]
    refine mf_yield (i := 20) (d := 35) (.string ⟨p.d.toArray⟩) rfl rfl (by kernel_rfl) (by kernel_rfl) (by kernel_rfl) (by kernel_rfl) hS (y_cell1 (by rfl) rfl rfl Try.underlying9 rfl (fun w h => h.fld (k := 5) rfl)) ?_
    simp only [Act.put, List.setIfInBounds_toArray, List.set_cons_zero, List.set_cons_succ]
    refine mf_ready [2, 16] (by kernel_rfl) (by simp) ?_
    refine af_call (i := 2) (d := 17) (R := fun v w' => v = .string ⟨(fourL p.e).toArray⟩ ∧ Below (W0.drew).heap.size (W0.drew) w') #[.int .u32 p.e] rfl rfl (by rfl) rfl enter_rfour (by kernel_rfl) ((rfour_as p.e _ HO.out.1).mono fun e w' h => h) (fun v w' h => hS.next h.2) ?_ ?_
    · rintro v V1 ⟨rfl, hV1⟩ hSV1
      simp only [Act.put, List.setIfInBounds_toArray, List.set_cons_zero, List.set_cons_succ]
      clear hS hV1
      have hS := hSV1
      clear hSV1
      refine mf_ready [5, 16] (by kernel_rfl) (by simp) ?_
      refine af_call (i := 5) (d := 20) (R := fun v w' => v = .string ⟨(fourL p.n).toArray⟩ ∧ Below (V1).heap.size (V1) w') #[.int .u32 p.n] rfl rfl (by rfl) rfl enter_rfour (by kernel_rfl) ((rfour_as p.n _ HO.out.2).mono fun e w' h => h) (fun v w' h => hS.next h.2) ?_ ?_
      · rintro v V2 ⟨rfl, hV2⟩ hSV2
        simp only [Act.put, List.setIfInBounds_toArray, List.set_cons_zero, List.set_cons_succ]
        clear hS hV2
        have hS := hSV2
        clear hSV2
        refine mf_yield (i := 6) (d := 21) (.string ⟨(fourL p.e ++ fourL p.n).toArray⟩) rfl rfl (by kernel_rfl) (by kernel_rfl) (by kernel_rfl) (by kernel_rfl) hS (y_addS (by rfl) rfl rfl rfl (by rw [fourL_length, fourL_length]; decide)) ?_
        simp only [Act.put, List.setIfInBounds_toArray, List.set_cons_zero, List.set_cons_succ]
        refine mf_ready [16] (by kernel_rfl) (by simp) ?_
        refine af_of (i := 16) rfl (by rfl) (fun Q' hQ => ?_) AllReadyF.nil
        · refine wpList_slice3 (xb := kb) (yb := UInt8.ofNat 0) (zb := nb) rfl _ _ _ rfl rfl rfl rfl ?_
          have hBV3 : Below (V2).heap.size (V2) ((V2).alloc (.cells (bl [kb, UInt8.ofNat 0, nb]) 5)) := (Below.refl _ _).alloc (Nat.le_refl _) _
          have hSV3 := hS.next hBV3
          have hA := At.new (V2) (bl [kb, UInt8.ofNat 0, nb]) 5
          refine hQ _ _ (fun _ => hSV3) ?_
          show wpAnyF _ _ _ _ _ _ _ _ (Act.put _ (some 31) _) _
          simp only [Act.put, List.setIfInBounds_toArray, List.set_cons_zero, List.set_cons_succ]
          clear hS hQ hBV3
          clear Q'
          revert hSV3 hA
          generalize World.alloc _ _ = V3
          generalize Array.size (World.heap (V2)) = g3
          intro hS0 hA0
          refine mf_more (fun w' => ReI w p w' ∧ At w' g3 (bl [kb, UInt8.ofNat 0, nb]) 5) (fun _ h => h.1) ?_
          have hS := And.intro hS0 hA0
          clear hS0 hA0
          refine mf_yield (i := 17) (d := 32) (.string ⟨(([kb, UInt8.ofNat 0, nb].drop 0).take 3).toArray⟩) rfl rfl (by kernel_rfl) (by kernel_rfl) (by kernel_rfl) (by kernel_rfl) hS (y_text (p := 0) (n := 3) (l := [kb, UInt8.ofNat 0, nb]) (by rfl) rfl rfl (fun w' h => h.2) (by simp)) ?_
          simp only [Act.put, List.setIfInBounds_toArray, List.set_cons_zero, List.set_cons_succ]
          refine mf_yield (i := 18) (d := 33) (.string ⟨((fourL p.e ++ fourL p.n) ++ (([kb, UInt8.ofNat 0, nb].drop 0).take 3)).toArray⟩) rfl rfl (by kernel_rfl) (by kernel_rfl) (by kernel_rfl) (by kernel_rfl) hS (y_addS (by rfl) rfl rfl rfl (by rw [List.length_append, fourL_length, fourL_length]; unfold maxLen; simp)) ?_
          simp only [Act.put, List.setIfInBounds_toArray, List.set_cons_zero, List.set_cons_succ]
          refine mf_yield (i := 21) (d := 36) (.string ⟨SL.toArray⟩) rfl rfl (by kernel_rfl) (by kernel_rfl) (by kernel_rfl) (by kernel_rfl) hS (by rw [← HSL.out]; exact y_addS (by rfl) rfl rfl rfl (by have := HR.out.2.1; rw [List.length_append, List.length_append, fourL_length, fourL_length]; unfold maxLen; simp; omega)) ?_
          simp only [Act.put, List.setIfInBounds_toArray, List.set_cons_zero, List.set_cons_succ]
          refine mf_one (i := 22) (d := 4) (.string ⟨SL.toArray⟩) rfl rfl (by kernel_rfl) hS (y_run (by rfl) fun _ => by rfl) ?_
          simp only [Act.put, List.setIfInBounds_toArray, List.set_cons_zero, List.set_cons_succ]
          refine mf_done (by kernel_rfl) ?_
          go_wp2_with fail
          go_meet
          exact ⟨rfl, Lib.hid hS.1⟩
      refine af_of (i := 16) rfl (by rfl) (fun Q' hQ => ?_) AllReadyF.nil
      · refine wpList_slice3 (xb := kb) (yb := UInt8.ofNat 0) (zb := nb) rfl _ _ _ rfl rfl rfl rfl ?_
        have hBV4 : Below (V1).heap.size (V1) ((V1).alloc (.cells (bl [kb, UInt8.ofNat 0, nb]) 5)) := (Below.refl _ _).alloc (Nat.le_refl _) _
        have hSV4 := hS.next hBV4
        have hA := At.new (V1) (bl [kb, UInt8.ofNat 0, nb]) 5
        refine hQ _ _ (fun _ => hSV4) ?_
        show wpAnyF _ _ _ _ _ _ _ _ (Act.put _ (some 31) _) _
        simp only [Act.put, List.setIfInBounds_toArray, List.set_cons_zero, List.set_cons_succ]
        clear hS hQ hBV4
        clear Q'
        revert hSV4 hA
        generalize World.alloc _ _ = V4
        generalize Array.size (World.heap (V1)) = g4
        intro hS0 hA0
        refine mf_more (fun w' => ReI w p w' ∧ At w' g4 (bl [kb, UInt8.ofNat 0, nb]) 5) (fun _ h => h.1) ?_
        have hS := And.intro hS0 hA0
        clear hS0 hA0
        refine mf_yield (i := 17) (d := 32) (.string ⟨(([kb, UInt8.ofNat 0, nb].drop 0).take 3).toArray⟩) rfl rfl (by kernel_rfl) (by kernel_rfl) (by kernel_rfl) (by kernel_rfl) hS (y_text (p := 0) (n := 3) (l := [kb, UInt8.ofNat 0, nb]) (by rfl) rfl rfl (fun w' h => h.2) (by simp)) ?_
        simp only [Act.put, List.setIfInBounds_toArray, List.set_cons_zero, List.set_cons_succ]
        refine mf_ready [5] (by kernel_rfl) (by simp) ?_
        refine af_call (i := 5) (d := 20) (R := fun v w' => v = .string ⟨(fourL p.n).toArray⟩ ∧ Below (V4).heap.size (V4) w') #[.int .u32 p.n] rfl rfl (by rfl) rfl enter_rfour (by kernel_rfl) ((rfour_as p.n _ HO.out.2).mono fun e w' h => h) (fun v w' h => ⟨hS.1.next h.2, hS.2.below h.2 hS.2.lt⟩) ?_ AllReadyF.nil
        · rintro v V5 ⟨rfl, hV5⟩ hSV5
          simp only [Act.put, List.setIfInBounds_toArray, List.set_cons_zero, List.set_cons_succ]
          clear hS hV5
          have hS := hSV5
          clear hSV5
          refine mf_yield (i := 6) (d := 21) (.string ⟨(fourL p.e ++ fourL p.n).toArray⟩) rfl rfl (by kernel_rfl) (by kernel_rfl) (by kernel_rfl) (by kernel_rfl) hS (y_addS (by rfl) rfl rfl rfl (by rw [fourL_length, fourL_length]; decide)) ?_
          simp only [Act.put, List.setIfInBounds_toArray, List.set_cons_zero, List.set_cons_succ]
          refine mf_yield (i := 18) (d := 33) (.string ⟨((fourL p.e ++ fourL p.n) ++ (([kb, UInt8.ofNat 0, nb].drop 0).take 3)).toArray⟩) rfl rfl (by kernel_rfl) (by kernel_rfl) (by kernel_rfl) (by kernel_rfl) hS (y_addS (by rfl) rfl rfl rfl (by rw [List.length_append, fourL_length, fourL_length]; unfold maxLen; simp)) ?_
          simp only [Act.put, List.setIfInBounds_toArray, List.set_cons_zero, List.set_cons_succ]
          refine mf_yield (i := 21) (d := 36) (.string ⟨SL.toArray⟩) rfl rfl (by kernel_rfl) (by kernel_rfl) (by kernel_rfl) (by kernel_rfl) hS (by rw [← HSL.out]; exact y_addS (by rfl) rfl rfl rfl (by have := HR.out.2.1; rw [List.length_append, List.length_append, fourL_length, fourL_length]; unfold maxLen; simp; omega)) ?_
          simp only [Act.put, List.setIfInBounds_toArray, List.set_cons_zero, List.set_cons_succ]
          refine mf_one (i := 22) (d := 4) (.string ⟨SL.toArray⟩) rfl rfl (by kernel_rfl) hS (y_run (by rfl) fun _ => by rfl) ?_
          simp only [Act.put, List.setIfInBounds_toArray, List.set_cons_zero, List.set_cons_succ]
          refine mf_done (by kernel_rfl) ?_
          go_wp2_with fail
          go_meet
          exact ⟨rfl, Lib.hid hS.1⟩
    refine af_of (i := 16) rfl (by rfl) (fun Q' hQ => ?_) AllReadyF.nil
    · refine wpList_slice3 (xb := kb) (yb := UInt8.ofNat 0) (zb := nb) rfl _ _ _ rfl rfl rfl rfl ?_
      have hBV6 : Below (W0.drew).heap.size (W0.drew) ((W0.drew).alloc (.cells (bl [kb, UInt8.ofNat 0, nb]) 5)) := (Below.refl _ _).alloc (Nat.le_refl _) _
      have hSV6 := hS.next hBV6
      have hA := At.new (W0.drew) (bl [kb, UInt8.ofNat 0, nb]) 5
      refine hQ _ _ (fun _ => hSV6) ?_
      show wpAnyF _ _ _ _ _ _ _ _ (Act.put _ (some 31) _) _
      simp only [Act.put, List.setIfInBounds_toArray, List.set_cons_zero, List.set_cons_succ]
      clear hS hQ hBV6
      clear Q'
      revert hSV6 hA
      generalize World.alloc _ _ = V6
      generalize Array.size (World.heap (W0.drew)) = g6
      intro hS0 hA0
      refine mf_more (fun w' => ReI w p w' ∧ At w' g6 (bl [kb, UInt8.ofNat 0, nb]) 5) (fun _ h => h.1) ?_
      have hS := And.intro hS0 hA0
      clear hS0 hA0
      refine mf_yield (i := 17) (d := 32) (.string ⟨(([kb, UInt8.ofNat 0, nb].drop 0).take 3).toArray⟩) rfl rfl (by kernel_rfl) (by kernel_rfl) (by kernel_rfl) (by kernel_rfl) hS (y_text (p := 0) (n := 3) (l := [kb, UInt8.ofNat 0, nb]) (by rfl) rfl rfl (fun w' h => h.2) (by simp)) ?_
      simp only [Act.put, List.setIfInBounds_toArray, List.set_cons_zero, List.set_cons_succ]
      refine mf_ready [2] (by kernel_rfl) (by simp) ?_
      refine af_call (i := 2) (d := 17) (R := fun v w' => v = .string ⟨(fourL p.e).toArray⟩ ∧ Below (V6).heap.size (V6) w') #[.int .u32 p.e] rfl rfl (by rfl) rfl enter_rfour (by kernel_rfl) ((rfour_as p.e _ HO.out.1).mono fun e w' h => h) (fun v w' h => ⟨hS.1.next h.2, hS.2.below h.2 hS.2.lt⟩) ?_ AllReadyF.nil
      · rintro v V7 ⟨rfl, hV7⟩ hSV7
        simp only [Act.put, List.setIfInBounds_toArray, List.set_cons_zero, List.set_cons_succ]
        clear hS hV7
        have hS := hSV7
        clear hSV7
        refine mf_ready [5] (by kernel_rfl) (by simp) ?_
        refine af_call (i := 5) (d := 20) (R := fun v w' => v = .string ⟨(fourL p.n).toArray⟩ ∧ Below (V7).heap.size (V7) w') #[.int .u32 p.n] rfl rfl (by rfl) rfl enter_rfour (by kernel_rfl) ((rfour_as p.n _ HO.out.2).mono fun e w' h => h) (fun v w' h => ⟨hS.1.next h.2, hS.2.below h.2 hS.2.lt⟩) ?_ AllReadyF.nil
        · rintro v V8 ⟨rfl, hV8⟩ hSV8
          simp only [Act.put, List.setIfInBounds_toArray, List.set_cons_zero, List.set_cons_succ]
          clear hS hV8
          have hS := hSV8
          clear hSV8
          refine mf_yield (i := 6) (d := 21) (.string ⟨(fourL p.e ++ fourL p.n).toArray⟩) rfl rfl (by kernel_rfl) (by kernel_rfl) (by kernel_rfl) (by kernel_rfl) hS (y_addS (by rfl) rfl rfl rfl (by rw [fourL_length, fourL_length]; decide)) ?_
          simp only [Act.put, List.setIfInBounds_toArray, List.set_cons_zero, List.set_cons_succ]
          refine mf_yield (i := 18) (d := 33) (.string ⟨((fourL p.e ++ fourL p.n) ++ (([kb, UInt8.ofNat 0, nb].drop 0).take 3)).toArray⟩) rfl rfl (by kernel_rfl) (by kernel_rfl) (by kernel_rfl) (by kernel_rfl) hS (y_addS (by rfl) rfl rfl rfl (by rw [List.length_append, fourL_length, fourL_length]; unfold maxLen; simp)) ?_
          simp only [Act.put, List.setIfInBounds_toArray, List.set_cons_zero, List.set_cons_succ]
          refine mf_yield (i := 21) (d := 36) (.string ⟨SL.toArray⟩) rfl rfl (by kernel_rfl) (by kernel_rfl) (by kernel_rfl) (by kernel_rfl) hS (by rw [← HSL.out]; exact y_addS (by rfl) rfl rfl rfl (by have := HR.out.2.1; rw [List.length_append, List.length_append, fourL_length, fourL_length]; unfold maxLen; simp; omega)) ?_
          simp only [Act.put, List.setIfInBounds_toArray, List.set_cons_zero, List.set_cons_succ]
          refine mf_one (i := 22) (d := 4) (.string ⟨SL.toArray⟩) rfl rfl (by kernel_rfl) hS (y_run (by rfl) fun _ => by rfl) ?_
          simp only [Act.put, List.setIfInBounds_toArray, List.set_cons_zero, List.set_cons_succ]
          refine mf_done (by kernel_rfl) ?_
          go_wp2_with fail
          go_meet
          exact ⟨rfl, Lib.hid hS.1⟩
  case rest =>
    obtain ⟨rfl, HJ⟩ := hcut
    have HSN := Lib.hid (show SL.length = 11 + p.d.length by rw [← HSL.out]; simp [fourL_length]; omega)
    have HD := Lib.hid HR.out.2.1
    have HZC := Lib.hid (show (ByteArray.mk #[0]).size = 1 from rfl)
    have HBODY := Lib.hid (show SL ++ List.replicate (49 - p.d.length) 0 = p.body by
      rw [← HSL.out]
      unfold Pv.body
      rw [HKB.out, HNB.out, HM.out]
      simp only [List.append_assoc]
      rfl)
    have hS0 : (⟨SL.toArray⟩ : ByteArray).data.toList = SL := rfl
    revert hS0
    generalize (⟨SL.toArray⟩ : ByteArray) = X0
    intro hS0
    clear HSL HKB HNB HK HS kl nl
    go_wp2_with fail
    go_loop [4] (fun s => ∃ (k : Nat) (X : ByteArray), s = .string X ∧ SL.length + k ≤ 60 ∧ X.data.toList = SL ++ List.replicate k 0) (fun s => 60 - strLen s)
    case atStart => exact ⟨0, X0, rfl, by rw [HSN.out]; have := HD.out; omega, by rw [hS0]; simp⟩
    case round =>
      obtain ⟨k, X, rfl, hk, hX⟩ := hrel
      have hsz : X.size = SL.length + k := by
        rw [size_list, hX]; simp
      have HX := Lib.hid hX
      clear hX hS0
      by_cases hlt : SL.length + k < 60
      · have HSZ := Lib.hid hsz
        obtain ⟨N, hN⟩ : ∃ N, SL.length + k = N := ⟨_, rfl⟩
        rw [hN] at hsz hlt hk
        have hone : (ByteArray.mk #[0]).size = 1 := rfl
        have HN := Lib.hid hN
        clear hN
        go_wp2
        go_round
        case rel => exact ⟨k + 1, _, rfl, by rw [← Nat.add_assoc, HN.out]; omega, by rw [data_add, HX.out, List.append_assoc, ← List.replicate_succ']⟩
        case measure => simp only [strLen]; rw [size_add]; omega
      · have hk60 : SL.length + k = 60 := by omega
        have hkd : k = 49 - p.d.length := by have := HSN.out; have := HD.out; omega
        rw [hk60] at hsz
        have HXB := Lib.hid (show X.data.toList = p.body by rw [HX.out, hkd, HBODY.out])
        clear hlt hk hk60 hkd HX HBODY HSN
        have hsm : X.size ≤ maxLen := by rw [hsz]; decide
        go_wp2_with fail
        refine (refSum_any X wc hsm).mono ?_
        rintro e w1 ⟨rfl, h1⟩
        subst h1
        rw [HXB.out]
        have HSM := Lib.hid (moreS_lt 0 p.body)
        obtain ⟨SU, hSU⟩ : ∃ SU, moreS 0 p.body = SU := ⟨_, rfl⟩
        rw [hSU] at HSM ⊢
        have HSU := Lib.hid hSU
        clear hSU
        go_wp2_with fail
        refine (refFour_any SU wc HSM.out).mono ?_
        rintro e w2 ⟨rfl, hb2⟩
        have HJ2 := Lib.hid (HJ.out.next hb2)
        clear hb2 HJ hsm
        have hY : ((⟨(fourL SU).toArray⟩ : ByteArray) ++ X).data.toList = p.lay := by
          rw [ByteArray.data_append, Array.toList_append, HXB.out, ← HSU.out]; rfl
        have hYs : ((⟨(fourL SU).toArray⟩ : ByteArray) ++ X).size = 64 := by
          rw [size_list, hY, Pv.lay_length HR.out]
        have hF4 : (⟨(fourL SU).toArray⟩ : ByteArray).size = 4 := rfl
        revert hY hYs hF4
        generalize (⟨(fourL SU).toArray⟩ : ByteArray) = F
        intro hY hYs hF4
        have HY := Lib.hid hY
        clear hY
        go_wp2_with fail
        have hI0 := Lib.hid (RlI.start p (L := p.lay) HJ2.out)
        revert hYs HY hI0
        rw [← HZ.out]
        generalize F ++ X = Y
        generalize World.alloc _ _ = W2
        generalize w2.heap.size = g
        intro hYs HY hI0
        have HLL := Lib.hid (Pv.lay_length HR.out)
        obtain ⟨L, hL⟩ : ∃ L, p.lay = L := ⟨_, rfl⟩
        rw [hL] at HY hI0 HLL
        have HL := Lib.hid hL
        clear hL
        go_loopw [6] (fun i w' => ∃ k : Nat, k ≤ 64 ∧ i = .int .i64 k ∧ Hid (RlI w g k L w')) (fun i _ => 64 - (intOf i).toNat)
        case atStart => exact ⟨0, by omega, rfl, hI0⟩
        case round =>
          obtain ⟨k, hk, rfl, HK⟩ := hrel
          clear hI0
          by_cases hlt : k < 64
          · have hc := HK.out.byte (by rw [HLL.out]; exact hlt)
            have c1 := hc.1
            have c2 := hc.2
            have hkY : k < Y.size := by omega
            have HNX := Lib.hid (HK.out.put HLL.out hlt)
            have HYL := Lib.hid (show (L.getD k 0) = Y[k] by rw [← HY.out, gd_get _ _ (by rw [← size_list]; exact hkY)]; rfl)
            rw [HYL.out] at HNX
            clear hc HYL HK
            go_wp2
            go_roundw
            case rel => exact ⟨k + 1, by omega, by go_num, HNX⟩
            case measure => simp [intOf]; omega
          · obtain rfl : k = 64 := by omega
            have hB := Lib.hid HK.out.1
            have hA2 := Lib.hid HK.out.2.2.1
            have hG := Lib.hid HK.out.2.1
            have hA3 := Lib.hid (HK.out.all HLL.out)
            have hLs := Lib.hid (show (bl L).size = 64 by rw [bl_size, HLL.out])
            have hzs := Lib.hid (show (bl z64).size = 64 by rw [bl_size, z64_len])
            have hL1 := Lib.hid (bl_one L)
            clear HK
            obtain ⟨T, hT⟩ : ∃ T, bl L = T := ⟨_, rfl⟩
            rw [hT] at hA3 hLs hL1
            have HTL := Lib.hid hT
            clear hT
            go_wp2_with (first
              | (refine wpList_load_w rfl 26 _ rfl _ rfl hA3.out Try.underlying26 rfl (info_64 hLs.out) ?_)
              | (refine wpList_store_row rfl 26 _ _ rfl (w.heap.size + 1) T rfl rfl _ _ hA2.out (info_64 hLs.out) (by rw [hLs.out, hzs.out]) hL1.out ?_)
              | fail)
            rw [HL.out, HTL.out]
            exact bodyPost_ret (v := .agg T) (results_any_one rfl _ _ (w.heap.size + 1) T _ rfl (At.setRow hA2.out) Try.underlying26 rfl (info_64 hLs.out)) rfl ⟨rfl, below_setRow' hB.out (by omega) _⟩

set_option maxHeartbeats 4000000 in
theorem refLay_1 (p : Pv) (w : World) (ho : p.Ok) (hr : p.right) (hf : p.f = true) (hl : p.l = false) :
    Calls Try.prog 17 #[.agg (pgV p)] w fun e w' => e = .returned (.agg (bl p.lay)) ∧ Below w.heap.size w w' := by
  have HO := Lib.hid ho
  have HR := Lib.hid hr
  have HM := Lib.hid (show p.m = 1 by unfold Pv.m; rw [hf, hl]; rfl)
  have HI := Lib.hid (ReI.start w p)
  have c3 : ((w.alloc (.cells (pgV p) 24)).alloc (.cells (bl z64) 26)).cell? ⟨w.heap.size, 3, none⟩ = some (.bool true) := by rw [← hf]; exact HI.out.fld (k := 3) rfl
  have c4 : ((w.alloc (.cells (pgV p) 24)).alloc (.cells (bl z64) 26)).cell? ⟨w.heap.size, 4, none⟩ = some (.bool false) := by rw [← hl]; exact HI.out.fld (k := 4) rfl
  clear ho hr hf hl
  obtain ⟨Z, hZ⟩ : ∃ Z, bl z64 = Z := ⟨_, rfl⟩
  obtain ⟨P, hP⟩ : ∃ P, pgV p = P := ⟨_, rfl⟩
  have hz := zero_64
  rw [hZ] at hz c3 c4
  rw [hP] at c3 c4 ⊢
  simp only [hZ, hP] at HI
  have HZ := Lib.hid hZ
  have HP := Lib.hid hP
  have HZL := Lib.hid z64_len
  clear hZ hP
  obtain ⟨kb, hkb⟩ : ∃ kb : UInt8, UInt8.ofNat p.k.toNat = kb := ⟨_, rfl⟩
  obtain ⟨nb, hnb⟩ : ∃ nb : UInt8, UInt8.ofNat p.d.length = nb := ⟨_, rfl⟩
  have hk : (kb.toNat : Int) = p.k := by
    have := HR.out.2.2.imp id fun h => h.1
    rw [← hkb, ofNat_toNat _ (by omega)]
    omega
  have hn : nb.toNat = p.d.length := by
    have := HR.out.2.1
    rw [← hnb, ofNat_toNat _ (by omega)]
  have kl := kb.toNat_lt
  have nl := nb.toNat_lt
  have HKB := Lib.hid hkb
  have HNB := Lib.hid hnb
  have HS := Lib.hid (show (⟨p.d.toArray⟩ : ByteArray).size = nb.toNat by rw [hn]; simp [ByteArray.size])
  have HK := Lib.hid (show some (Value.int .i64 p.k) = some (Value.int .i64 (kb.toNat : Int)) by rw [hk])
  obtain ⟨SL, hSL⟩ : ∃ SL, ((fourL p.e ++ fourL p.n) ++ (([kb, UInt8.ofNat 1, nb].drop 0).take 3)) ++ p.d = SL := ⟨_, rfl⟩
  have HSL := Lib.hid hSL
  clear hkb hnb hk hn hSL
  go_enter Try.func17, Try.ntmps17
  go_upto_region 6 with fail
  clear c3 c4
  revert HI
  generalize World.alloc _ _ = W0
  intro HI
  go_cut [4] (fun s wx => s = .string ⟨SL.toArray⟩ ∧ Hid (ReI w p wx))
  case first =>
    refine mf_start (fun w' => ReI w p w') (fun _ => false) HI.out.drew fun hS => ?_
    refine mf_yield (i := 0) (d := 15) (.pointer (some ⟨w.heap.size, 0, none⟩)) rfl rfl (by kernel_rfl) (by kernel_rfl) (by kernel_rfl) (by kernel_rfl) hS (y_fieldO (by rfl) rfl rfl (fldr 0 (by omega)) (Nat.zero_add _)) ?_
    simp only [Act.put, List.setIfInBounds_toArray, List.set_cons_zero, List.set_cons_succ]
    refine mf_yield (i := 1) (d := 16) (.int .u32 p.e) rfl rfl (by kernel_rfl) (by kernel_rfl) (by kernel_rfl) (by kernel_rfl) hS (y_cell1 (by rfl) rfl rfl Try.underlying22 rfl (fun w h => h.fld (k := 0) rfl)) ?_
    simp only [Act.put, List.setIfInBounds_toArray, List.set_cons_zero, List.set_cons_succ]
    refine mf_yield (i := 3) (d := 18) (.pointer (some ⟨w.heap.size, 1, none⟩)) rfl rfl (by kernel_rfl) (by kernel_rfl) (by kernel_rfl) (by kernel_rfl) hS (y_fieldO (by rfl) rfl rfl (fldr 1 (by omega)) (Nat.zero_add _)) ?_
    simp only [Act.put, List.setIfInBounds_toArray, List.set_cons_zero, List.set_cons_succ]
    refine mf_yield (i := 4) (d := 19) (.int .u32 p.n) rfl rfl (by kernel_rfl) (by kernel_rfl) (by kernel_rfl) (by kernel_rfl) hS (y_cell1 (by rfl) rfl rfl Try.underlying22 rfl (fun w h => h.fld (k := 1) rfl)) ?_
    simp only [Act.put, List.setIfInBounds_toArray, List.set_cons_zero, List.set_cons_succ]
    refine mf_yield (i := 7) (d := 22) (.pointer (some ⟨w.heap.size, 2, none⟩)) rfl rfl (by kernel_rfl) (by kernel_rfl) (by kernel_rfl) (by kernel_rfl) hS (y_fieldO (by rfl) rfl rfl (fldr 2 (by omega)) (Nat.zero_add _)) ?_
    simp only [Act.put, List.setIfInBounds_toArray, List.set_cons_zero, List.set_cons_succ]
    refine mf_yield (i := 8) (d := 23) (.int .i64 ((kb.toNat : Nat))) rfl rfl (by kernel_rfl) (by kernel_rfl) (by kernel_rfl) (by kernel_rfl) hS (y_cell1 (by rfl) rfl rfl Try.underlying3 rfl (fun w h => (h.fld (k := 2) rfl).trans HK.out)) ?_
    simp only [Act.put, List.setIfInBounds_toArray, List.set_cons_zero, List.set_cons_succ]
    refine mf_yield (i := 9) (d := 24) (.int .u8 ((kb.toNat : Nat))) rfl rfl (by kernel_rfl) (by kernel_rfl) (by kernel_rfl) (by kernel_rfl) hS (y_u8 (by rfl) rfl rfl kl) ?_
    simp only [Act.put, List.setIfInBounds_toArray, List.set_cons_zero, List.set_cons_succ]
    refine mf_yield (i := 10) (d := 25) (.int .i64 1) rfl rfl (by kernel_rfl) (by kernel_rfl) (by kernel_rfl) (by kernel_rfl) hS (y_run (by rfl) fun _ => by rfl) ?_
    simp only [Act.put, List.setIfInBounds_toArray, List.set_cons_zero, List.set_cons_succ]
    refine mf_yield (i := 11) (d := 26) (.int .u8 ((1 : Nat))) rfl rfl (by kernel_rfl) (by kernel_rfl) (by kernel_rfl) (by kernel_rfl) hS (y_u8 (x := 1) (by rfl) rfl rfl (by omega)) ?_
    simp only [Act.put, List.setIfInBounds_toArray, List.set_cons_zero, List.set_cons_succ]
    refine mf_yield (i := 12) (d := 27) (.pointer (some ⟨w.heap.size, 5, none⟩)) rfl rfl (by kernel_rfl) (by kernel_rfl) (by kernel_rfl) (by kernel_rfl) hS (y_fieldO (by rfl) rfl rfl (fldr 5 (by omega)) (Nat.zero_add _)) ?_
    simp only [Act.put, List.setIfInBounds_toArray, List.set_cons_zero, List.set_cons_succ]
    refine mf_yield (i := 13) (d := 28) (.string ⟨p.d.toArray⟩) rfl rfl (by kernel_rfl) (by kernel_rfl) (by kernel_rfl) (by kernel_rfl) hS (y_cell1 (by rfl) rfl rfl Try.underlying9 rfl (fun w h => h.fld (k := 5) rfl)) ?_
    simp only [Act.put, List.setIfInBounds_toArray, List.set_cons_zero, List.set_cons_succ]
    refine mf_yield (i := 14) (d := 29) (.int .i64 ((nb.toNat : Nat))) rfl rfl (by kernel_rfl) (by kernel_rfl) (by kernel_rfl) (by kernel_rfl) hS (y_lenS (by rfl) rfl rfl HS.out) ?_
    simp only [Act.put, List.setIfInBounds_toArray, List.set_cons_zero, List.set_cons_succ]
    refine mf_yield (i := 15) (d := 30) (.int .u8 ((nb.toNat : Nat))) rfl rfl (by kernel_rfl) (by kernel_rfl) (by kernel_rfl) (by kernel_rfl) hS (y_u8 (by rfl) rfl rfl nl) ?_
    simp only [Act.put, List.setIfInBounds_toArray, List.set_cons_zero, List.set_cons_succ]
    refine mf_yield (i := 19) (d := 34) (.pointer (some ⟨w.heap.size, 5, none⟩)) rfl rfl (by kernel_rfl) (by kernel_rfl) (by kernel_rfl) (by kernel_rfl) hS (y_fieldO (by rfl) rfl rfl (fldr 5 (by omega)) (Nat.zero_add _)) ?_
    simp only [Act.put, List.setIfInBounds_toArray, List.set_cons_zero, List.set_cons_succ]
    refine mf_yield (i := 20) (d := 35) (.string ⟨p.d.toArray⟩) rfl rfl (by kernel_rfl) (by kernel_rfl) (by kernel_rfl) (by kernel_rfl) hS (y_cell1 (by rfl) rfl rfl Try.underlying9 rfl (fun w h => h.fld (k := 5) rfl)) ?_
    simp only [Act.put, List.setIfInBounds_toArray, List.set_cons_zero, List.set_cons_succ]
    refine mf_ready [2, 16] (by kernel_rfl) (by simp) ?_
    refine af_call (i := 2) (d := 17) (R := fun v w' => v = .string ⟨(fourL p.e).toArray⟩ ∧ Below (W0.drew).heap.size (W0.drew) w') #[.int .u32 p.e] rfl rfl (by rfl) rfl enter_rfour (by kernel_rfl) ((rfour_as p.e _ HO.out.1).mono fun e w' h => h) (fun v w' h => hS.next h.2) ?_ ?_
    · rintro v V1 ⟨rfl, hV1⟩ hSV1
      simp only [Act.put, List.setIfInBounds_toArray, List.set_cons_zero, List.set_cons_succ]
      clear hS hV1
      have hS := hSV1
      clear hSV1
      refine mf_ready [5, 16] (by kernel_rfl) (by simp) ?_
      refine af_call (i := 5) (d := 20) (R := fun v w' => v = .string ⟨(fourL p.n).toArray⟩ ∧ Below (V1).heap.size (V1) w') #[.int .u32 p.n] rfl rfl (by rfl) rfl enter_rfour (by kernel_rfl) ((rfour_as p.n _ HO.out.2).mono fun e w' h => h) (fun v w' h => hS.next h.2) ?_ ?_
      · rintro v V2 ⟨rfl, hV2⟩ hSV2
        simp only [Act.put, List.setIfInBounds_toArray, List.set_cons_zero, List.set_cons_succ]
        clear hS hV2
        have hS := hSV2
        clear hSV2
        refine mf_yield (i := 6) (d := 21) (.string ⟨(fourL p.e ++ fourL p.n).toArray⟩) rfl rfl (by kernel_rfl) (by kernel_rfl) (by kernel_rfl) (by kernel_rfl) hS (y_addS (by rfl) rfl rfl rfl (by rw [fourL_length, fourL_length]; decide)) ?_
        simp only [Act.put, List.setIfInBounds_toArray, List.set_cons_zero, List.set_cons_succ]
        refine mf_ready [16] (by kernel_rfl) (by simp) ?_
        refine af_of (i := 16) rfl (by rfl) (fun Q' hQ => ?_) AllReadyF.nil
        · refine wpList_slice3 (xb := kb) (yb := UInt8.ofNat 1) (zb := nb) rfl _ _ _ rfl rfl rfl rfl ?_
          have hBV3 : Below (V2).heap.size (V2) ((V2).alloc (.cells (bl [kb, UInt8.ofNat 1, nb]) 5)) := (Below.refl _ _).alloc (Nat.le_refl _) _
          have hSV3 := hS.next hBV3
          have hA := At.new (V2) (bl [kb, UInt8.ofNat 1, nb]) 5
          refine hQ _ _ (fun _ => hSV3) ?_
          show wpAnyF _ _ _ _ _ _ _ _ (Act.put _ (some 31) _) _
          simp only [Act.put, List.setIfInBounds_toArray, List.set_cons_zero, List.set_cons_succ]
          clear hS hQ hBV3
          clear Q'
          revert hSV3 hA
          generalize World.alloc _ _ = V3
          generalize Array.size (World.heap (V2)) = g3
          intro hS0 hA0
          refine mf_more (fun w' => ReI w p w' ∧ At w' g3 (bl [kb, UInt8.ofNat 1, nb]) 5) (fun _ h => h.1) ?_
          have hS := And.intro hS0 hA0
          clear hS0 hA0
          refine mf_yield (i := 17) (d := 32) (.string ⟨(([kb, UInt8.ofNat 1, nb].drop 0).take 3).toArray⟩) rfl rfl (by kernel_rfl) (by kernel_rfl) (by kernel_rfl) (by kernel_rfl) hS (y_text (p := 0) (n := 3) (l := [kb, UInt8.ofNat 1, nb]) (by rfl) rfl rfl (fun w' h => h.2) (by simp)) ?_
          simp only [Act.put, List.setIfInBounds_toArray, List.set_cons_zero, List.set_cons_succ]
          refine mf_yield (i := 18) (d := 33) (.string ⟨((fourL p.e ++ fourL p.n) ++ (([kb, UInt8.ofNat 1, nb].drop 0).take 3)).toArray⟩) rfl rfl (by kernel_rfl) (by kernel_rfl) (by kernel_rfl) (by kernel_rfl) hS (y_addS (by rfl) rfl rfl rfl (by rw [List.length_append, fourL_length, fourL_length]; unfold maxLen; simp)) ?_
          simp only [Act.put, List.setIfInBounds_toArray, List.set_cons_zero, List.set_cons_succ]
          refine mf_yield (i := 21) (d := 36) (.string ⟨SL.toArray⟩) rfl rfl (by kernel_rfl) (by kernel_rfl) (by kernel_rfl) (by kernel_rfl) hS (by rw [← HSL.out]; exact y_addS (by rfl) rfl rfl rfl (by have := HR.out.2.1; rw [List.length_append, List.length_append, fourL_length, fourL_length]; unfold maxLen; simp; omega)) ?_
          simp only [Act.put, List.setIfInBounds_toArray, List.set_cons_zero, List.set_cons_succ]
          refine mf_one (i := 22) (d := 4) (.string ⟨SL.toArray⟩) rfl rfl (by kernel_rfl) hS (y_run (by rfl) fun _ => by rfl) ?_
          simp only [Act.put, List.setIfInBounds_toArray, List.set_cons_zero, List.set_cons_succ]
          refine mf_done (by kernel_rfl) ?_
          go_wp2_with fail
          go_meet
          exact ⟨rfl, Lib.hid hS.1⟩
      refine af_of (i := 16) rfl (by rfl) (fun Q' hQ => ?_) AllReadyF.nil
      · refine wpList_slice3 (xb := kb) (yb := UInt8.ofNat 1) (zb := nb) rfl _ _ _ rfl rfl rfl rfl ?_
        have hBV4 : Below (V1).heap.size (V1) ((V1).alloc (.cells (bl [kb, UInt8.ofNat 1, nb]) 5)) := (Below.refl _ _).alloc (Nat.le_refl _) _
        have hSV4 := hS.next hBV4
        have hA := At.new (V1) (bl [kb, UInt8.ofNat 1, nb]) 5
        refine hQ _ _ (fun _ => hSV4) ?_
        show wpAnyF _ _ _ _ _ _ _ _ (Act.put _ (some 31) _) _
        simp only [Act.put, List.setIfInBounds_toArray, List.set_cons_zero, List.set_cons_succ]
        clear hS hQ hBV4
        clear Q'
        revert hSV4 hA
        generalize World.alloc _ _ = V4
        generalize Array.size (World.heap (V1)) = g4
        intro hS0 hA0
        refine mf_more (fun w' => ReI w p w' ∧ At w' g4 (bl [kb, UInt8.ofNat 1, nb]) 5) (fun _ h => h.1) ?_
        have hS := And.intro hS0 hA0
        clear hS0 hA0
        refine mf_yield (i := 17) (d := 32) (.string ⟨(([kb, UInt8.ofNat 1, nb].drop 0).take 3).toArray⟩) rfl rfl (by kernel_rfl) (by kernel_rfl) (by kernel_rfl) (by kernel_rfl) hS (y_text (p := 0) (n := 3) (l := [kb, UInt8.ofNat 1, nb]) (by rfl) rfl rfl (fun w' h => h.2) (by simp)) ?_
        simp only [Act.put, List.setIfInBounds_toArray, List.set_cons_zero, List.set_cons_succ]
        refine mf_ready [5] (by kernel_rfl) (by simp) ?_
        refine af_call (i := 5) (d := 20) (R := fun v w' => v = .string ⟨(fourL p.n).toArray⟩ ∧ Below (V4).heap.size (V4) w') #[.int .u32 p.n] rfl rfl (by rfl) rfl enter_rfour (by kernel_rfl) ((rfour_as p.n _ HO.out.2).mono fun e w' h => h) (fun v w' h => ⟨hS.1.next h.2, hS.2.below h.2 hS.2.lt⟩) ?_ AllReadyF.nil
        · rintro v V5 ⟨rfl, hV5⟩ hSV5
          simp only [Act.put, List.setIfInBounds_toArray, List.set_cons_zero, List.set_cons_succ]
          clear hS hV5
          have hS := hSV5
          clear hSV5
          refine mf_yield (i := 6) (d := 21) (.string ⟨(fourL p.e ++ fourL p.n).toArray⟩) rfl rfl (by kernel_rfl) (by kernel_rfl) (by kernel_rfl) (by kernel_rfl) hS (y_addS (by rfl) rfl rfl rfl (by rw [fourL_length, fourL_length]; decide)) ?_
          simp only [Act.put, List.setIfInBounds_toArray, List.set_cons_zero, List.set_cons_succ]
          refine mf_yield (i := 18) (d := 33) (.string ⟨((fourL p.e ++ fourL p.n) ++ (([kb, UInt8.ofNat 1, nb].drop 0).take 3)).toArray⟩) rfl rfl (by kernel_rfl) (by kernel_rfl) (by kernel_rfl) (by kernel_rfl) hS (y_addS (by rfl) rfl rfl rfl (by rw [List.length_append, fourL_length, fourL_length]; unfold maxLen; simp)) ?_
          simp only [Act.put, List.setIfInBounds_toArray, List.set_cons_zero, List.set_cons_succ]
          refine mf_yield (i := 21) (d := 36) (.string ⟨SL.toArray⟩) rfl rfl (by kernel_rfl) (by kernel_rfl) (by kernel_rfl) (by kernel_rfl) hS (by rw [← HSL.out]; exact y_addS (by rfl) rfl rfl rfl (by have := HR.out.2.1; rw [List.length_append, List.length_append, fourL_length, fourL_length]; unfold maxLen; simp; omega)) ?_
          simp only [Act.put, List.setIfInBounds_toArray, List.set_cons_zero, List.set_cons_succ]
          refine mf_one (i := 22) (d := 4) (.string ⟨SL.toArray⟩) rfl rfl (by kernel_rfl) hS (y_run (by rfl) fun _ => by rfl) ?_
          simp only [Act.put, List.setIfInBounds_toArray, List.set_cons_zero, List.set_cons_succ]
          refine mf_done (by kernel_rfl) ?_
          go_wp2_with fail
          go_meet
          exact ⟨rfl, Lib.hid hS.1⟩
    refine af_of (i := 16) rfl (by rfl) (fun Q' hQ => ?_) AllReadyF.nil
    · refine wpList_slice3 (xb := kb) (yb := UInt8.ofNat 1) (zb := nb) rfl _ _ _ rfl rfl rfl rfl ?_
      have hBV6 : Below (W0.drew).heap.size (W0.drew) ((W0.drew).alloc (.cells (bl [kb, UInt8.ofNat 1, nb]) 5)) := (Below.refl _ _).alloc (Nat.le_refl _) _
      have hSV6 := hS.next hBV6
      have hA := At.new (W0.drew) (bl [kb, UInt8.ofNat 1, nb]) 5
      refine hQ _ _ (fun _ => hSV6) ?_
      show wpAnyF _ _ _ _ _ _ _ _ (Act.put _ (some 31) _) _
      simp only [Act.put, List.setIfInBounds_toArray, List.set_cons_zero, List.set_cons_succ]
      clear hS hQ hBV6
      clear Q'
      revert hSV6 hA
      generalize World.alloc _ _ = V6
      generalize Array.size (World.heap (W0.drew)) = g6
      intro hS0 hA0
      refine mf_more (fun w' => ReI w p w' ∧ At w' g6 (bl [kb, UInt8.ofNat 1, nb]) 5) (fun _ h => h.1) ?_
      have hS := And.intro hS0 hA0
      clear hS0 hA0
      refine mf_yield (i := 17) (d := 32) (.string ⟨(([kb, UInt8.ofNat 1, nb].drop 0).take 3).toArray⟩) rfl rfl (by kernel_rfl) (by kernel_rfl) (by kernel_rfl) (by kernel_rfl) hS (y_text (p := 0) (n := 3) (l := [kb, UInt8.ofNat 1, nb]) (by rfl) rfl rfl (fun w' h => h.2) (by simp)) ?_
      simp only [Act.put, List.setIfInBounds_toArray, List.set_cons_zero, List.set_cons_succ]
      refine mf_ready [2] (by kernel_rfl) (by simp) ?_
      refine af_call (i := 2) (d := 17) (R := fun v w' => v = .string ⟨(fourL p.e).toArray⟩ ∧ Below (V6).heap.size (V6) w') #[.int .u32 p.e] rfl rfl (by rfl) rfl enter_rfour (by kernel_rfl) ((rfour_as p.e _ HO.out.1).mono fun e w' h => h) (fun v w' h => ⟨hS.1.next h.2, hS.2.below h.2 hS.2.lt⟩) ?_ AllReadyF.nil
      · rintro v V7 ⟨rfl, hV7⟩ hSV7
        simp only [Act.put, List.setIfInBounds_toArray, List.set_cons_zero, List.set_cons_succ]
        clear hS hV7
        have hS := hSV7
        clear hSV7
        refine mf_ready [5] (by kernel_rfl) (by simp) ?_
        refine af_call (i := 5) (d := 20) (R := fun v w' => v = .string ⟨(fourL p.n).toArray⟩ ∧ Below (V7).heap.size (V7) w') #[.int .u32 p.n] rfl rfl (by rfl) rfl enter_rfour (by kernel_rfl) ((rfour_as p.n _ HO.out.2).mono fun e w' h => h) (fun v w' h => ⟨hS.1.next h.2, hS.2.below h.2 hS.2.lt⟩) ?_ AllReadyF.nil
        · rintro v V8 ⟨rfl, hV8⟩ hSV8
          simp only [Act.put, List.setIfInBounds_toArray, List.set_cons_zero, List.set_cons_succ]
          clear hS hV8
          have hS := hSV8
          clear hSV8
          refine mf_yield (i := 6) (d := 21) (.string ⟨(fourL p.e ++ fourL p.n).toArray⟩) rfl rfl (by kernel_rfl) (by kernel_rfl) (by kernel_rfl) (by kernel_rfl) hS (y_addS (by rfl) rfl rfl rfl (by rw [fourL_length, fourL_length]; decide)) ?_
          simp only [Act.put, List.setIfInBounds_toArray, List.set_cons_zero, List.set_cons_succ]
          refine mf_yield (i := 18) (d := 33) (.string ⟨((fourL p.e ++ fourL p.n) ++ (([kb, UInt8.ofNat 1, nb].drop 0).take 3)).toArray⟩) rfl rfl (by kernel_rfl) (by kernel_rfl) (by kernel_rfl) (by kernel_rfl) hS (y_addS (by rfl) rfl rfl rfl (by rw [List.length_append, fourL_length, fourL_length]; unfold maxLen; simp)) ?_
          simp only [Act.put, List.setIfInBounds_toArray, List.set_cons_zero, List.set_cons_succ]
          refine mf_yield (i := 21) (d := 36) (.string ⟨SL.toArray⟩) rfl rfl (by kernel_rfl) (by kernel_rfl) (by kernel_rfl) (by kernel_rfl) hS (by rw [← HSL.out]; exact y_addS (by rfl) rfl rfl rfl (by have := HR.out.2.1; rw [List.length_append, List.length_append, fourL_length, fourL_length]; unfold maxLen; simp; omega)) ?_
          simp only [Act.put, List.setIfInBounds_toArray, List.set_cons_zero, List.set_cons_succ]
          refine mf_one (i := 22) (d := 4) (.string ⟨SL.toArray⟩) rfl rfl (by kernel_rfl) hS (y_run (by rfl) fun _ => by rfl) ?_
          simp only [Act.put, List.setIfInBounds_toArray, List.set_cons_zero, List.set_cons_succ]
          refine mf_done (by kernel_rfl) ?_
          go_wp2_with fail
          go_meet
          exact ⟨rfl, Lib.hid hS.1⟩
  case rest =>
    obtain ⟨rfl, HJ⟩ := hcut
    have HSN := Lib.hid (show SL.length = 11 + p.d.length by rw [← HSL.out]; simp [fourL_length]; omega)
    have HD := Lib.hid HR.out.2.1
    have HZC := Lib.hid (show (ByteArray.mk #[0]).size = 1 from rfl)
    have HBODY := Lib.hid (show SL ++ List.replicate (49 - p.d.length) 0 = p.body by
      rw [← HSL.out]
      unfold Pv.body
      rw [HKB.out, HNB.out, HM.out]
      simp only [List.append_assoc]
      rfl)
    have hS0 : (⟨SL.toArray⟩ : ByteArray).data.toList = SL := rfl
    revert hS0
    generalize (⟨SL.toArray⟩ : ByteArray) = X0
    intro hS0
    clear HSL HKB HNB HK HS kl nl
    go_wp2_with fail
    go_loop [4] (fun s => ∃ (k : Nat) (X : ByteArray), s = .string X ∧ SL.length + k ≤ 60 ∧ X.data.toList = SL ++ List.replicate k 0) (fun s => 60 - strLen s)
    case atStart => exact ⟨0, X0, rfl, by rw [HSN.out]; have := HD.out; omega, by rw [hS0]; simp⟩
    case round =>
      obtain ⟨k, X, rfl, hk, hX⟩ := hrel
      have hsz : X.size = SL.length + k := by
        rw [size_list, hX]; simp
      have HX := Lib.hid hX
      clear hX hS0
      by_cases hlt : SL.length + k < 60
      · have HSZ := Lib.hid hsz
        obtain ⟨N, hN⟩ : ∃ N, SL.length + k = N := ⟨_, rfl⟩
        rw [hN] at hsz hlt hk
        have hone : (ByteArray.mk #[0]).size = 1 := rfl
        have HN := Lib.hid hN
        clear hN
        go_wp2
        go_round
        case rel => exact ⟨k + 1, _, rfl, by rw [← Nat.add_assoc, HN.out]; omega, by rw [data_add, HX.out, List.append_assoc, ← List.replicate_succ']⟩
        case measure => simp only [strLen]; rw [size_add]; omega
      · have hk60 : SL.length + k = 60 := by omega
        have hkd : k = 49 - p.d.length := by have := HSN.out; have := HD.out; omega
        rw [hk60] at hsz
        have HXB := Lib.hid (show X.data.toList = p.body by rw [HX.out, hkd, HBODY.out])
        clear hlt hk hk60 hkd HX HBODY HSN
        have hsm : X.size ≤ maxLen := by rw [hsz]; decide
        go_wp2_with fail
        refine (refSum_any X wc hsm).mono ?_
        rintro e w1 ⟨rfl, h1⟩
        subst h1
        rw [HXB.out]
        have HSM := Lib.hid (moreS_lt 0 p.body)
        obtain ⟨SU, hSU⟩ : ∃ SU, moreS 0 p.body = SU := ⟨_, rfl⟩
        rw [hSU] at HSM ⊢
        have HSU := Lib.hid hSU
        clear hSU
        go_wp2_with fail
        refine (refFour_any SU wc HSM.out).mono ?_
        rintro e w2 ⟨rfl, hb2⟩
        have HJ2 := Lib.hid (HJ.out.next hb2)
        clear hb2 HJ hsm
        have hY : ((⟨(fourL SU).toArray⟩ : ByteArray) ++ X).data.toList = p.lay := by
          rw [ByteArray.data_append, Array.toList_append, HXB.out, ← HSU.out]; rfl
        have hYs : ((⟨(fourL SU).toArray⟩ : ByteArray) ++ X).size = 64 := by
          rw [size_list, hY, Pv.lay_length HR.out]
        have hF4 : (⟨(fourL SU).toArray⟩ : ByteArray).size = 4 := rfl
        revert hY hYs hF4
        generalize (⟨(fourL SU).toArray⟩ : ByteArray) = F
        intro hY hYs hF4
        have HY := Lib.hid hY
        clear hY
        go_wp2_with fail
        have hI0 := Lib.hid (RlI.start p (L := p.lay) HJ2.out)
        revert hYs HY hI0
        rw [← HZ.out]
        generalize F ++ X = Y
        generalize World.alloc _ _ = W2
        generalize w2.heap.size = g
        intro hYs HY hI0
        have HLL := Lib.hid (Pv.lay_length HR.out)
        obtain ⟨L, hL⟩ : ∃ L, p.lay = L := ⟨_, rfl⟩
        rw [hL] at HY hI0 HLL
        have HL := Lib.hid hL
        clear hL
        go_loopw [6] (fun i w' => ∃ k : Nat, k ≤ 64 ∧ i = .int .i64 k ∧ Hid (RlI w g k L w')) (fun i _ => 64 - (intOf i).toNat)
        case atStart => exact ⟨0, by omega, rfl, hI0⟩
        case round =>
          obtain ⟨k, hk, rfl, HK⟩ := hrel
          clear hI0
          by_cases hlt : k < 64
          · have hc := HK.out.byte (by rw [HLL.out]; exact hlt)
            have c1 := hc.1
            have c2 := hc.2
            have hkY : k < Y.size := by omega
            have HNX := Lib.hid (HK.out.put HLL.out hlt)
            have HYL := Lib.hid (show (L.getD k 0) = Y[k] by rw [← HY.out, gd_get _ _ (by rw [← size_list]; exact hkY)]; rfl)
            rw [HYL.out] at HNX
            clear hc HYL HK
            go_wp2
            go_roundw
            case rel => exact ⟨k + 1, by omega, by go_num, HNX⟩
            case measure => simp [intOf]; omega
          · obtain rfl : k = 64 := by omega
            have hB := Lib.hid HK.out.1
            have hA2 := Lib.hid HK.out.2.2.1
            have hG := Lib.hid HK.out.2.1
            have hA3 := Lib.hid (HK.out.all HLL.out)
            have hLs := Lib.hid (show (bl L).size = 64 by rw [bl_size, HLL.out])
            have hzs := Lib.hid (show (bl z64).size = 64 by rw [bl_size, z64_len])
            have hL1 := Lib.hid (bl_one L)
            clear HK
            obtain ⟨T, hT⟩ : ∃ T, bl L = T := ⟨_, rfl⟩
            rw [hT] at hA3 hLs hL1
            have HTL := Lib.hid hT
            clear hT
            go_wp2_with (first
              | (refine wpList_load_w rfl 26 _ rfl _ rfl hA3.out Try.underlying26 rfl (info_64 hLs.out) ?_)
              | (refine wpList_store_row rfl 26 _ _ rfl (w.heap.size + 1) T rfl rfl _ _ hA2.out (info_64 hLs.out) (by rw [hLs.out, hzs.out]) hL1.out ?_)
              | fail)
            rw [HL.out, HTL.out]
            exact bodyPost_ret (v := .agg T) (results_any_one rfl _ _ (w.heap.size + 1) T _ rfl (At.setRow hA2.out) Try.underlying26 rfl (info_64 hLs.out)) rfl ⟨rfl, below_setRow' hB.out (by omega) _⟩

set_option maxHeartbeats 4000000 in
theorem refLay_2 (p : Pv) (w : World) (ho : p.Ok) (hr : p.right) (hf : p.f = false) (hl : p.l = true) :
    Calls Try.prog 17 #[.agg (pgV p)] w fun e w' => e = .returned (.agg (bl p.lay)) ∧ Below w.heap.size w w' := by
  have HO := Lib.hid ho
  have HR := Lib.hid hr
  have HM := Lib.hid (show p.m = 2 by unfold Pv.m; rw [hf, hl]; rfl)
  have HI := Lib.hid (ReI.start w p)
  have c3 : ((w.alloc (.cells (pgV p) 24)).alloc (.cells (bl z64) 26)).cell? ⟨w.heap.size, 3, none⟩ = some (.bool false) := by rw [← hf]; exact HI.out.fld (k := 3) rfl
  have c4 : ((w.alloc (.cells (pgV p) 24)).alloc (.cells (bl z64) 26)).cell? ⟨w.heap.size, 4, none⟩ = some (.bool true) := by rw [← hl]; exact HI.out.fld (k := 4) rfl
  clear ho hr hf hl
  obtain ⟨Z, hZ⟩ : ∃ Z, bl z64 = Z := ⟨_, rfl⟩
  obtain ⟨P, hP⟩ : ∃ P, pgV p = P := ⟨_, rfl⟩
  have hz := zero_64
  rw [hZ] at hz c3 c4
  rw [hP] at c3 c4 ⊢
  simp only [hZ, hP] at HI
  have HZ := Lib.hid hZ
  have HP := Lib.hid hP
  have HZL := Lib.hid z64_len
  clear hZ hP
  obtain ⟨kb, hkb⟩ : ∃ kb : UInt8, UInt8.ofNat p.k.toNat = kb := ⟨_, rfl⟩
  obtain ⟨nb, hnb⟩ : ∃ nb : UInt8, UInt8.ofNat p.d.length = nb := ⟨_, rfl⟩
  have hk : (kb.toNat : Int) = p.k := by
    have := HR.out.2.2.imp id fun h => h.1
    rw [← hkb, ofNat_toNat _ (by omega)]
    omega
  have hn : nb.toNat = p.d.length := by
    have := HR.out.2.1
    rw [← hnb, ofNat_toNat _ (by omega)]
  have kl := kb.toNat_lt
  have nl := nb.toNat_lt
  have HKB := Lib.hid hkb
  have HNB := Lib.hid hnb
  have HS := Lib.hid (show (⟨p.d.toArray⟩ : ByteArray).size = nb.toNat by rw [hn]; simp [ByteArray.size])
  have HK := Lib.hid (show some (Value.int .i64 p.k) = some (Value.int .i64 (kb.toNat : Int)) by rw [hk])
  obtain ⟨SL, hSL⟩ : ∃ SL, ((fourL p.e ++ fourL p.n) ++ (([kb, UInt8.ofNat 2, nb].drop 0).take 3)) ++ p.d = SL := ⟨_, rfl⟩
  have HSL := Lib.hid hSL
  clear hkb hnb hk hn hSL
  go_enter Try.func17, Try.ntmps17
  go_upto_region 6 with fail
  clear c3 c4
  revert HI
  generalize World.alloc _ _ = W0
  intro HI
  go_cut [4] (fun s wx => s = .string ⟨SL.toArray⟩ ∧ Hid (ReI w p wx))
  case first =>
    refine mf_start (fun w' => ReI w p w') (fun _ => false) HI.out.drew fun hS => ?_
    refine mf_yield (i := 0) (d := 15) (.pointer (some ⟨w.heap.size, 0, none⟩)) rfl rfl (by kernel_rfl) (by kernel_rfl) (by kernel_rfl) (by kernel_rfl) hS (y_fieldO (by rfl) rfl rfl (fldr 0 (by omega)) (Nat.zero_add _)) ?_
    simp only [Act.put, List.setIfInBounds_toArray, List.set_cons_zero, List.set_cons_succ]
    refine mf_yield (i := 1) (d := 16) (.int .u32 p.e) rfl rfl (by kernel_rfl) (by kernel_rfl) (by kernel_rfl) (by kernel_rfl) hS (y_cell1 (by rfl) rfl rfl Try.underlying22 rfl (fun w h => h.fld (k := 0) rfl)) ?_
    simp only [Act.put, List.setIfInBounds_toArray, List.set_cons_zero, List.set_cons_succ]
    refine mf_yield (i := 3) (d := 18) (.pointer (some ⟨w.heap.size, 1, none⟩)) rfl rfl (by kernel_rfl) (by kernel_rfl) (by kernel_rfl) (by kernel_rfl) hS (y_fieldO (by rfl) rfl rfl (fldr 1 (by omega)) (Nat.zero_add _)) ?_
    simp only [Act.put, List.setIfInBounds_toArray, List.set_cons_zero, List.set_cons_succ]
    refine mf_yield (i := 4) (d := 19) (.int .u32 p.n) rfl rfl (by kernel_rfl) (by kernel_rfl) (by kernel_rfl) (by kernel_rfl) hS (y_cell1 (by rfl) rfl rfl Try.underlying22 rfl (fun w h => h.fld (k := 1) rfl)) ?_
    simp only [Act.put, List.setIfInBounds_toArray, List.set_cons_zero, List.set_cons_succ]
    refine mf_yield (i := 7) (d := 22) (.pointer (some ⟨w.heap.size, 2, none⟩)) rfl rfl (by kernel_rfl) (by kernel_rfl) (by kernel_rfl) (by kernel_rfl) hS (y_fieldO (by rfl) rfl rfl (fldr 2 (by omega)) (Nat.zero_add _)) ?_
    simp only [Act.put, List.setIfInBounds_toArray, List.set_cons_zero, List.set_cons_succ]
    refine mf_yield (i := 8) (d := 23) (.int .i64 ((kb.toNat : Nat))) rfl rfl (by kernel_rfl) (by kernel_rfl) (by kernel_rfl) (by kernel_rfl) hS (y_cell1 (by rfl) rfl rfl Try.underlying3 rfl (fun w h => (h.fld (k := 2) rfl).trans HK.out)) ?_
    simp only [Act.put, List.setIfInBounds_toArray, List.set_cons_zero, List.set_cons_succ]
    refine mf_yield (i := 9) (d := 24) (.int .u8 ((kb.toNat : Nat))) rfl rfl (by kernel_rfl) (by kernel_rfl) (by kernel_rfl) (by kernel_rfl) hS (y_u8 (by rfl) rfl rfl kl) ?_
    simp only [Act.put, List.setIfInBounds_toArray, List.set_cons_zero, List.set_cons_succ]
    refine mf_yield (i := 10) (d := 25) (.int .i64 2) rfl rfl (by kernel_rfl) (by kernel_rfl) (by kernel_rfl) (by kernel_rfl) hS (y_run (by rfl) fun _ => by rfl) ?_
    simp only [Act.put, List.setIfInBounds_toArray, List.set_cons_zero, List.set_cons_succ]
    refine mf_yield (i := 11) (d := 26) (.int .u8 ((2 : Nat))) rfl rfl (by kernel_rfl) (by kernel_rfl) (by kernel_rfl) (by kernel_rfl) hS (y_u8 (x := 2) (by rfl) rfl rfl (by omega)) ?_
    simp only [Act.put, List.setIfInBounds_toArray, List.set_cons_zero, List.set_cons_succ]
    refine mf_yield (i := 12) (d := 27) (.pointer (some ⟨w.heap.size, 5, none⟩)) rfl rfl (by kernel_rfl) (by kernel_rfl) (by kernel_rfl) (by kernel_rfl) hS (y_fieldO (by rfl) rfl rfl (fldr 5 (by omega)) (Nat.zero_add _)) ?_
    simp only [Act.put, List.setIfInBounds_toArray, List.set_cons_zero, List.set_cons_succ]
    refine mf_yield (i := 13) (d := 28) (.string ⟨p.d.toArray⟩) rfl rfl (by kernel_rfl) (by kernel_rfl) (by kernel_rfl) (by kernel_rfl) hS (y_cell1 (by rfl) rfl rfl Try.underlying9 rfl (fun w h => h.fld (k := 5) rfl)) ?_
    simp only [Act.put, List.setIfInBounds_toArray, List.set_cons_zero, List.set_cons_succ]
    refine mf_yield (i := 14) (d := 29) (.int .i64 ((nb.toNat : Nat))) rfl rfl (by kernel_rfl) (by kernel_rfl) (by kernel_rfl) (by kernel_rfl) hS (y_lenS (by rfl) rfl rfl HS.out) ?_
    simp only [Act.put, List.setIfInBounds_toArray, List.set_cons_zero, List.set_cons_succ]
    refine mf_yield (i := 15) (d := 30) (.int .u8 ((nb.toNat : Nat))) rfl rfl (by kernel_rfl) (by kernel_rfl) (by kernel_rfl) (by kernel_rfl) hS (y_u8 (by rfl) rfl rfl nl) ?_
    simp only [Act.put, List.setIfInBounds_toArray, List.set_cons_zero, List.set_cons_succ]
    refine mf_yield (i := 19) (d := 34) (.pointer (some ⟨w.heap.size, 5, none⟩)) rfl rfl (by kernel_rfl) (by kernel_rfl) (by kernel_rfl) (by kernel_rfl) hS (y_fieldO (by rfl) rfl rfl (fldr 5 (by omega)) (Nat.zero_add _)) ?_
    simp only [Act.put, List.setIfInBounds_toArray, List.set_cons_zero, List.set_cons_succ]
    refine mf_yield (i := 20) (d := 35) (.string ⟨p.d.toArray⟩) rfl rfl (by kernel_rfl) (by kernel_rfl) (by kernel_rfl) (by kernel_rfl) hS (y_cell1 (by rfl) rfl rfl Try.underlying9 rfl (fun w h => h.fld (k := 5) rfl)) ?_
    simp only [Act.put, List.setIfInBounds_toArray, List.set_cons_zero, List.set_cons_succ]
    refine mf_ready [2, 16] (by kernel_rfl) (by simp) ?_
    refine af_call (i := 2) (d := 17) (R := fun v w' => v = .string ⟨(fourL p.e).toArray⟩ ∧ Below (W0.drew).heap.size (W0.drew) w') #[.int .u32 p.e] rfl rfl (by rfl) rfl enter_rfour (by kernel_rfl) ((rfour_as p.e _ HO.out.1).mono fun e w' h => h) (fun v w' h => hS.next h.2) ?_ ?_
    · rintro v V1 ⟨rfl, hV1⟩ hSV1
      simp only [Act.put, List.setIfInBounds_toArray, List.set_cons_zero, List.set_cons_succ]
      clear hS hV1
      have hS := hSV1
      clear hSV1
      refine mf_ready [5, 16] (by kernel_rfl) (by simp) ?_
      refine af_call (i := 5) (d := 20) (R := fun v w' => v = .string ⟨(fourL p.n).toArray⟩ ∧ Below (V1).heap.size (V1) w') #[.int .u32 p.n] rfl rfl (by rfl) rfl enter_rfour (by kernel_rfl) ((rfour_as p.n _ HO.out.2).mono fun e w' h => h) (fun v w' h => hS.next h.2) ?_ ?_
      · rintro v V2 ⟨rfl, hV2⟩ hSV2
        simp only [Act.put, List.setIfInBounds_toArray, List.set_cons_zero, List.set_cons_succ]
        clear hS hV2
        have hS := hSV2
        clear hSV2
        refine mf_yield (i := 6) (d := 21) (.string ⟨(fourL p.e ++ fourL p.n).toArray⟩) rfl rfl (by kernel_rfl) (by kernel_rfl) (by kernel_rfl) (by kernel_rfl) hS (y_addS (by rfl) rfl rfl rfl (by rw [fourL_length, fourL_length]; decide)) ?_
        simp only [Act.put, List.setIfInBounds_toArray, List.set_cons_zero, List.set_cons_succ]
        refine mf_ready [16] (by kernel_rfl) (by simp) ?_
        refine af_of (i := 16) rfl (by rfl) (fun Q' hQ => ?_) AllReadyF.nil
        · refine wpList_slice3 (xb := kb) (yb := UInt8.ofNat 2) (zb := nb) rfl _ _ _ rfl rfl rfl rfl ?_
          have hBV3 : Below (V2).heap.size (V2) ((V2).alloc (.cells (bl [kb, UInt8.ofNat 2, nb]) 5)) := (Below.refl _ _).alloc (Nat.le_refl _) _
          have hSV3 := hS.next hBV3
          have hA := At.new (V2) (bl [kb, UInt8.ofNat 2, nb]) 5
          refine hQ _ _ (fun _ => hSV3) ?_
          show wpAnyF _ _ _ _ _ _ _ _ (Act.put _ (some 31) _) _
          simp only [Act.put, List.setIfInBounds_toArray, List.set_cons_zero, List.set_cons_succ]
          clear hS hQ hBV3
          clear Q'
          revert hSV3 hA
          generalize World.alloc _ _ = V3
          generalize Array.size (World.heap (V2)) = g3
          intro hS0 hA0
          refine mf_more (fun w' => ReI w p w' ∧ At w' g3 (bl [kb, UInt8.ofNat 2, nb]) 5) (fun _ h => h.1) ?_
          have hS := And.intro hS0 hA0
          clear hS0 hA0
          refine mf_yield (i := 17) (d := 32) (.string ⟨(([kb, UInt8.ofNat 2, nb].drop 0).take 3).toArray⟩) rfl rfl (by kernel_rfl) (by kernel_rfl) (by kernel_rfl) (by kernel_rfl) hS (y_text (p := 0) (n := 3) (l := [kb, UInt8.ofNat 2, nb]) (by rfl) rfl rfl (fun w' h => h.2) (by simp)) ?_
          simp only [Act.put, List.setIfInBounds_toArray, List.set_cons_zero, List.set_cons_succ]
          refine mf_yield (i := 18) (d := 33) (.string ⟨((fourL p.e ++ fourL p.n) ++ (([kb, UInt8.ofNat 2, nb].drop 0).take 3)).toArray⟩) rfl rfl (by kernel_rfl) (by kernel_rfl) (by kernel_rfl) (by kernel_rfl) hS (y_addS (by rfl) rfl rfl rfl (by rw [List.length_append, fourL_length, fourL_length]; unfold maxLen; simp)) ?_
          simp only [Act.put, List.setIfInBounds_toArray, List.set_cons_zero, List.set_cons_succ]
          refine mf_yield (i := 21) (d := 36) (.string ⟨SL.toArray⟩) rfl rfl (by kernel_rfl) (by kernel_rfl) (by kernel_rfl) (by kernel_rfl) hS (by rw [← HSL.out]; exact y_addS (by rfl) rfl rfl rfl (by have := HR.out.2.1; rw [List.length_append, List.length_append, fourL_length, fourL_length]; unfold maxLen; simp; omega)) ?_
          simp only [Act.put, List.setIfInBounds_toArray, List.set_cons_zero, List.set_cons_succ]
          refine mf_one (i := 22) (d := 4) (.string ⟨SL.toArray⟩) rfl rfl (by kernel_rfl) hS (y_run (by rfl) fun _ => by rfl) ?_
          simp only [Act.put, List.setIfInBounds_toArray, List.set_cons_zero, List.set_cons_succ]
          refine mf_done (by kernel_rfl) ?_
          go_wp2_with fail
          go_meet
          exact ⟨rfl, Lib.hid hS.1⟩
      refine af_of (i := 16) rfl (by rfl) (fun Q' hQ => ?_) AllReadyF.nil
      · refine wpList_slice3 (xb := kb) (yb := UInt8.ofNat 2) (zb := nb) rfl _ _ _ rfl rfl rfl rfl ?_
        have hBV4 : Below (V1).heap.size (V1) ((V1).alloc (.cells (bl [kb, UInt8.ofNat 2, nb]) 5)) := (Below.refl _ _).alloc (Nat.le_refl _) _
        have hSV4 := hS.next hBV4
        have hA := At.new (V1) (bl [kb, UInt8.ofNat 2, nb]) 5
        refine hQ _ _ (fun _ => hSV4) ?_
        show wpAnyF _ _ _ _ _ _ _ _ (Act.put _ (some 31) _) _
        simp only [Act.put, List.setIfInBounds_toArray, List.set_cons_zero, List.set_cons_succ]
        clear hS hQ hBV4
        clear Q'
        revert hSV4 hA
        generalize World.alloc _ _ = V4
        generalize Array.size (World.heap (V1)) = g4
        intro hS0 hA0
        refine mf_more (fun w' => ReI w p w' ∧ At w' g4 (bl [kb, UInt8.ofNat 2, nb]) 5) (fun _ h => h.1) ?_
        have hS := And.intro hS0 hA0
        clear hS0 hA0
        refine mf_yield (i := 17) (d := 32) (.string ⟨(([kb, UInt8.ofNat 2, nb].drop 0).take 3).toArray⟩) rfl rfl (by kernel_rfl) (by kernel_rfl) (by kernel_rfl) (by kernel_rfl) hS (y_text (p := 0) (n := 3) (l := [kb, UInt8.ofNat 2, nb]) (by rfl) rfl rfl (fun w' h => h.2) (by simp)) ?_
        simp only [Act.put, List.setIfInBounds_toArray, List.set_cons_zero, List.set_cons_succ]
        refine mf_ready [5] (by kernel_rfl) (by simp) ?_
        refine af_call (i := 5) (d := 20) (R := fun v w' => v = .string ⟨(fourL p.n).toArray⟩ ∧ Below (V4).heap.size (V4) w') #[.int .u32 p.n] rfl rfl (by rfl) rfl enter_rfour (by kernel_rfl) ((rfour_as p.n _ HO.out.2).mono fun e w' h => h) (fun v w' h => ⟨hS.1.next h.2, hS.2.below h.2 hS.2.lt⟩) ?_ AllReadyF.nil
        · rintro v V5 ⟨rfl, hV5⟩ hSV5
          simp only [Act.put, List.setIfInBounds_toArray, List.set_cons_zero, List.set_cons_succ]
          clear hS hV5
          have hS := hSV5
          clear hSV5
          refine mf_yield (i := 6) (d := 21) (.string ⟨(fourL p.e ++ fourL p.n).toArray⟩) rfl rfl (by kernel_rfl) (by kernel_rfl) (by kernel_rfl) (by kernel_rfl) hS (y_addS (by rfl) rfl rfl rfl (by rw [fourL_length, fourL_length]; decide)) ?_
          simp only [Act.put, List.setIfInBounds_toArray, List.set_cons_zero, List.set_cons_succ]
          refine mf_yield (i := 18) (d := 33) (.string ⟨((fourL p.e ++ fourL p.n) ++ (([kb, UInt8.ofNat 2, nb].drop 0).take 3)).toArray⟩) rfl rfl (by kernel_rfl) (by kernel_rfl) (by kernel_rfl) (by kernel_rfl) hS (y_addS (by rfl) rfl rfl rfl (by rw [List.length_append, fourL_length, fourL_length]; unfold maxLen; simp)) ?_
          simp only [Act.put, List.setIfInBounds_toArray, List.set_cons_zero, List.set_cons_succ]
          refine mf_yield (i := 21) (d := 36) (.string ⟨SL.toArray⟩) rfl rfl (by kernel_rfl) (by kernel_rfl) (by kernel_rfl) (by kernel_rfl) hS (by rw [← HSL.out]; exact y_addS (by rfl) rfl rfl rfl (by have := HR.out.2.1; rw [List.length_append, List.length_append, fourL_length, fourL_length]; unfold maxLen; simp; omega)) ?_
          simp only [Act.put, List.setIfInBounds_toArray, List.set_cons_zero, List.set_cons_succ]
          refine mf_one (i := 22) (d := 4) (.string ⟨SL.toArray⟩) rfl rfl (by kernel_rfl) hS (y_run (by rfl) fun _ => by rfl) ?_
          simp only [Act.put, List.setIfInBounds_toArray, List.set_cons_zero, List.set_cons_succ]
          refine mf_done (by kernel_rfl) ?_
          go_wp2_with fail
          go_meet
          exact ⟨rfl, Lib.hid hS.1⟩
    refine af_of (i := 16) rfl (by rfl) (fun Q' hQ => ?_) AllReadyF.nil
    · refine wpList_slice3 (xb := kb) (yb := UInt8.ofNat 2) (zb := nb) rfl _ _ _ rfl rfl rfl rfl ?_
      have hBV6 : Below (W0.drew).heap.size (W0.drew) ((W0.drew).alloc (.cells (bl [kb, UInt8.ofNat 2, nb]) 5)) := (Below.refl _ _).alloc (Nat.le_refl _) _
      have hSV6 := hS.next hBV6
      have hA := At.new (W0.drew) (bl [kb, UInt8.ofNat 2, nb]) 5
      refine hQ _ _ (fun _ => hSV6) ?_
      show wpAnyF _ _ _ _ _ _ _ _ (Act.put _ (some 31) _) _
      simp only [Act.put, List.setIfInBounds_toArray, List.set_cons_zero, List.set_cons_succ]
      clear hS hQ hBV6
      clear Q'
      revert hSV6 hA
      generalize World.alloc _ _ = V6
      generalize Array.size (World.heap (W0.drew)) = g6
      intro hS0 hA0
      refine mf_more (fun w' => ReI w p w' ∧ At w' g6 (bl [kb, UInt8.ofNat 2, nb]) 5) (fun _ h => h.1) ?_
      have hS := And.intro hS0 hA0
      clear hS0 hA0
      refine mf_yield (i := 17) (d := 32) (.string ⟨(([kb, UInt8.ofNat 2, nb].drop 0).take 3).toArray⟩) rfl rfl (by kernel_rfl) (by kernel_rfl) (by kernel_rfl) (by kernel_rfl) hS (y_text (p := 0) (n := 3) (l := [kb, UInt8.ofNat 2, nb]) (by rfl) rfl rfl (fun w' h => h.2) (by simp)) ?_
      simp only [Act.put, List.setIfInBounds_toArray, List.set_cons_zero, List.set_cons_succ]
      refine mf_ready [2] (by kernel_rfl) (by simp) ?_
      refine af_call (i := 2) (d := 17) (R := fun v w' => v = .string ⟨(fourL p.e).toArray⟩ ∧ Below (V6).heap.size (V6) w') #[.int .u32 p.e] rfl rfl (by rfl) rfl enter_rfour (by kernel_rfl) ((rfour_as p.e _ HO.out.1).mono fun e w' h => h) (fun v w' h => ⟨hS.1.next h.2, hS.2.below h.2 hS.2.lt⟩) ?_ AllReadyF.nil
      · rintro v V7 ⟨rfl, hV7⟩ hSV7
        simp only [Act.put, List.setIfInBounds_toArray, List.set_cons_zero, List.set_cons_succ]
        clear hS hV7
        have hS := hSV7
        clear hSV7
        refine mf_ready [5] (by kernel_rfl) (by simp) ?_
        refine af_call (i := 5) (d := 20) (R := fun v w' => v = .string ⟨(fourL p.n).toArray⟩ ∧ Below (V7).heap.size (V7) w') #[.int .u32 p.n] rfl rfl (by rfl) rfl enter_rfour (by kernel_rfl) ((rfour_as p.n _ HO.out.2).mono fun e w' h => h) (fun v w' h => ⟨hS.1.next h.2, hS.2.below h.2 hS.2.lt⟩) ?_ AllReadyF.nil
        · rintro v V8 ⟨rfl, hV8⟩ hSV8
          simp only [Act.put, List.setIfInBounds_toArray, List.set_cons_zero, List.set_cons_succ]
          clear hS hV8
          have hS := hSV8
          clear hSV8
          refine mf_yield (i := 6) (d := 21) (.string ⟨(fourL p.e ++ fourL p.n).toArray⟩) rfl rfl (by kernel_rfl) (by kernel_rfl) (by kernel_rfl) (by kernel_rfl) hS (y_addS (by rfl) rfl rfl rfl (by rw [fourL_length, fourL_length]; decide)) ?_
          simp only [Act.put, List.setIfInBounds_toArray, List.set_cons_zero, List.set_cons_succ]
          refine mf_yield (i := 18) (d := 33) (.string ⟨((fourL p.e ++ fourL p.n) ++ (([kb, UInt8.ofNat 2, nb].drop 0).take 3)).toArray⟩) rfl rfl (by kernel_rfl) (by kernel_rfl) (by kernel_rfl) (by kernel_rfl) hS (y_addS (by rfl) rfl rfl rfl (by rw [List.length_append, fourL_length, fourL_length]; unfold maxLen; simp)) ?_
          simp only [Act.put, List.setIfInBounds_toArray, List.set_cons_zero, List.set_cons_succ]
          refine mf_yield (i := 21) (d := 36) (.string ⟨SL.toArray⟩) rfl rfl (by kernel_rfl) (by kernel_rfl) (by kernel_rfl) (by kernel_rfl) hS (by rw [← HSL.out]; exact y_addS (by rfl) rfl rfl rfl (by have := HR.out.2.1; rw [List.length_append, List.length_append, fourL_length, fourL_length]; unfold maxLen; simp; omega)) ?_
          simp only [Act.put, List.setIfInBounds_toArray, List.set_cons_zero, List.set_cons_succ]
          refine mf_one (i := 22) (d := 4) (.string ⟨SL.toArray⟩) rfl rfl (by kernel_rfl) hS (y_run (by rfl) fun _ => by rfl) ?_
          simp only [Act.put, List.setIfInBounds_toArray, List.set_cons_zero, List.set_cons_succ]
          refine mf_done (by kernel_rfl) ?_
          go_wp2_with fail
          go_meet
          exact ⟨rfl, Lib.hid hS.1⟩
  case rest =>
    obtain ⟨rfl, HJ⟩ := hcut
    have HSN := Lib.hid (show SL.length = 11 + p.d.length by rw [← HSL.out]; simp [fourL_length]; omega)
    have HD := Lib.hid HR.out.2.1
    have HZC := Lib.hid (show (ByteArray.mk #[0]).size = 1 from rfl)
    have HBODY := Lib.hid (show SL ++ List.replicate (49 - p.d.length) 0 = p.body by
      rw [← HSL.out]
      unfold Pv.body
      rw [HKB.out, HNB.out, HM.out]
      simp only [List.append_assoc]
      rfl)
    have hS0 : (⟨SL.toArray⟩ : ByteArray).data.toList = SL := rfl
    revert hS0
    generalize (⟨SL.toArray⟩ : ByteArray) = X0
    intro hS0
    clear HSL HKB HNB HK HS kl nl
    go_wp2_with fail
    go_loop [4] (fun s => ∃ (k : Nat) (X : ByteArray), s = .string X ∧ SL.length + k ≤ 60 ∧ X.data.toList = SL ++ List.replicate k 0) (fun s => 60 - strLen s)
    case atStart => exact ⟨0, X0, rfl, by rw [HSN.out]; have := HD.out; omega, by rw [hS0]; simp⟩
    case round =>
      obtain ⟨k, X, rfl, hk, hX⟩ := hrel
      have hsz : X.size = SL.length + k := by
        rw [size_list, hX]; simp
      have HX := Lib.hid hX
      clear hX hS0
      by_cases hlt : SL.length + k < 60
      · have HSZ := Lib.hid hsz
        obtain ⟨N, hN⟩ : ∃ N, SL.length + k = N := ⟨_, rfl⟩
        rw [hN] at hsz hlt hk
        have hone : (ByteArray.mk #[0]).size = 1 := rfl
        have HN := Lib.hid hN
        clear hN
        go_wp2
        go_round
        case rel => exact ⟨k + 1, _, rfl, by rw [← Nat.add_assoc, HN.out]; omega, by rw [data_add, HX.out, List.append_assoc, ← List.replicate_succ']⟩
        case measure => simp only [strLen]; rw [size_add]; omega
      · have hk60 : SL.length + k = 60 := by omega
        have hkd : k = 49 - p.d.length := by have := HSN.out; have := HD.out; omega
        rw [hk60] at hsz
        have HXB := Lib.hid (show X.data.toList = p.body by rw [HX.out, hkd, HBODY.out])
        clear hlt hk hk60 hkd HX HBODY HSN
        have hsm : X.size ≤ maxLen := by rw [hsz]; decide
        go_wp2_with fail
        refine (refSum_any X wc hsm).mono ?_
        rintro e w1 ⟨rfl, h1⟩
        subst h1
        rw [HXB.out]
        have HSM := Lib.hid (moreS_lt 0 p.body)
        obtain ⟨SU, hSU⟩ : ∃ SU, moreS 0 p.body = SU := ⟨_, rfl⟩
        rw [hSU] at HSM ⊢
        have HSU := Lib.hid hSU
        clear hSU
        go_wp2_with fail
        refine (refFour_any SU wc HSM.out).mono ?_
        rintro e w2 ⟨rfl, hb2⟩
        have HJ2 := Lib.hid (HJ.out.next hb2)
        clear hb2 HJ hsm
        have hY : ((⟨(fourL SU).toArray⟩ : ByteArray) ++ X).data.toList = p.lay := by
          rw [ByteArray.data_append, Array.toList_append, HXB.out, ← HSU.out]; rfl
        have hYs : ((⟨(fourL SU).toArray⟩ : ByteArray) ++ X).size = 64 := by
          rw [size_list, hY, Pv.lay_length HR.out]
        have hF4 : (⟨(fourL SU).toArray⟩ : ByteArray).size = 4 := rfl
        revert hY hYs hF4
        generalize (⟨(fourL SU).toArray⟩ : ByteArray) = F
        intro hY hYs hF4
        have HY := Lib.hid hY
        clear hY
        go_wp2_with fail
        have hI0 := Lib.hid (RlI.start p (L := p.lay) HJ2.out)
        revert hYs HY hI0
        rw [← HZ.out]
        generalize F ++ X = Y
        generalize World.alloc _ _ = W2
        generalize w2.heap.size = g
        intro hYs HY hI0
        have HLL := Lib.hid (Pv.lay_length HR.out)
        obtain ⟨L, hL⟩ : ∃ L, p.lay = L := ⟨_, rfl⟩
        rw [hL] at HY hI0 HLL
        have HL := Lib.hid hL
        clear hL
        go_loopw [6] (fun i w' => ∃ k : Nat, k ≤ 64 ∧ i = .int .i64 k ∧ Hid (RlI w g k L w')) (fun i _ => 64 - (intOf i).toNat)
        case atStart => exact ⟨0, by omega, rfl, hI0⟩
        case round =>
          obtain ⟨k, hk, rfl, HK⟩ := hrel
          clear hI0
          by_cases hlt : k < 64
          · have hc := HK.out.byte (by rw [HLL.out]; exact hlt)
            have c1 := hc.1
            have c2 := hc.2
            have hkY : k < Y.size := by omega
            have HNX := Lib.hid (HK.out.put HLL.out hlt)
            have HYL := Lib.hid (show (L.getD k 0) = Y[k] by rw [← HY.out, gd_get _ _ (by rw [← size_list]; exact hkY)]; rfl)
            rw [HYL.out] at HNX
            clear hc HYL HK
            go_wp2
            go_roundw
            case rel => exact ⟨k + 1, by omega, by go_num, HNX⟩
            case measure => simp [intOf]; omega
          · obtain rfl : k = 64 := by omega
            have hB := Lib.hid HK.out.1
            have hA2 := Lib.hid HK.out.2.2.1
            have hG := Lib.hid HK.out.2.1
            have hA3 := Lib.hid (HK.out.all HLL.out)
            have hLs := Lib.hid (show (bl L).size = 64 by rw [bl_size, HLL.out])
            have hzs := Lib.hid (show (bl z64).size = 64 by rw [bl_size, z64_len])
            have hL1 := Lib.hid (bl_one L)
            clear HK
            obtain ⟨T, hT⟩ : ∃ T, bl L = T := ⟨_, rfl⟩
            rw [hT] at hA3 hLs hL1
            have HTL := Lib.hid hT
            clear hT
            go_wp2_with (first
              | (refine wpList_load_w rfl 26 _ rfl _ rfl hA3.out Try.underlying26 rfl (info_64 hLs.out) ?_)
              | (refine wpList_store_row rfl 26 _ _ rfl (w.heap.size + 1) T rfl rfl _ _ hA2.out (info_64 hLs.out) (by rw [hLs.out, hzs.out]) hL1.out ?_)
              | fail)
            rw [HL.out, HTL.out]
            exact bodyPost_ret (v := .agg T) (results_any_one rfl _ _ (w.heap.size + 1) T _ rfl (At.setRow hA2.out) Try.underlying26 rfl (info_64 hLs.out)) rfl ⟨rfl, below_setRow' hB.out (by omega) _⟩

set_option maxHeartbeats 4000000 in
theorem refLay_3 (p : Pv) (w : World) (ho : p.Ok) (hr : p.right) (hf : p.f = true) (hl : p.l = true) :
    Calls Try.prog 17 #[.agg (pgV p)] w fun e w' => e = .returned (.agg (bl p.lay)) ∧ Below w.heap.size w w' := by
  have HO := Lib.hid ho
  have HR := Lib.hid hr
  have HM := Lib.hid (show p.m = 3 by unfold Pv.m; rw [hf, hl]; rfl)
  have HI := Lib.hid (ReI.start w p)
  have c3 : ((w.alloc (.cells (pgV p) 24)).alloc (.cells (bl z64) 26)).cell? ⟨w.heap.size, 3, none⟩ = some (.bool true) := by rw [← hf]; exact HI.out.fld (k := 3) rfl
  have c4 : ((w.alloc (.cells (pgV p) 24)).alloc (.cells (bl z64) 26)).cell? ⟨w.heap.size, 4, none⟩ = some (.bool true) := by rw [← hl]; exact HI.out.fld (k := 4) rfl
  clear ho hr hf hl
  obtain ⟨Z, hZ⟩ : ∃ Z, bl z64 = Z := ⟨_, rfl⟩
  obtain ⟨P, hP⟩ : ∃ P, pgV p = P := ⟨_, rfl⟩
  have hz := zero_64
  rw [hZ] at hz c3 c4
  rw [hP] at c3 c4 ⊢
  simp only [hZ, hP] at HI
  have HZ := Lib.hid hZ
  have HP := Lib.hid hP
  have HZL := Lib.hid z64_len
  clear hZ hP
  obtain ⟨kb, hkb⟩ : ∃ kb : UInt8, UInt8.ofNat p.k.toNat = kb := ⟨_, rfl⟩
  obtain ⟨nb, hnb⟩ : ∃ nb : UInt8, UInt8.ofNat p.d.length = nb := ⟨_, rfl⟩
  have hk : (kb.toNat : Int) = p.k := by
    have := HR.out.2.2.imp id fun h => h.1
    rw [← hkb, ofNat_toNat _ (by omega)]
    omega
  have hn : nb.toNat = p.d.length := by
    have := HR.out.2.1
    rw [← hnb, ofNat_toNat _ (by omega)]
  have kl := kb.toNat_lt
  have nl := nb.toNat_lt
  have HKB := Lib.hid hkb
  have HNB := Lib.hid hnb
  have HS := Lib.hid (show (⟨p.d.toArray⟩ : ByteArray).size = nb.toNat by rw [hn]; simp [ByteArray.size])
  have HK := Lib.hid (show some (Value.int .i64 p.k) = some (Value.int .i64 (kb.toNat : Int)) by rw [hk])
  obtain ⟨SL, hSL⟩ : ∃ SL, ((fourL p.e ++ fourL p.n) ++ (([kb, UInt8.ofNat 3, nb].drop 0).take 3)) ++ p.d = SL := ⟨_, rfl⟩
  have HSL := Lib.hid hSL
  clear hkb hnb hk hn hSL
  go_enter Try.func17, Try.ntmps17
  go_upto_region 6 with fail
  clear c3 c4
  revert HI
  generalize World.alloc _ _ = W0
  intro HI
  go_cut [4] (fun s wx => s = .string ⟨SL.toArray⟩ ∧ Hid (ReI w p wx))
  case first =>
    refine mf_start (fun w' => ReI w p w') (fun _ => false) HI.out.drew fun hS => ?_
    refine mf_yield (i := 0) (d := 15) (.pointer (some ⟨w.heap.size, 0, none⟩)) rfl rfl (by kernel_rfl) (by kernel_rfl) (by kernel_rfl) (by kernel_rfl) hS (y_fieldO (by rfl) rfl rfl (fldr 0 (by omega)) (Nat.zero_add _)) ?_
    simp only [Act.put, List.setIfInBounds_toArray, List.set_cons_zero, List.set_cons_succ]
    refine mf_yield (i := 1) (d := 16) (.int .u32 p.e) rfl rfl (by kernel_rfl) (by kernel_rfl) (by kernel_rfl) (by kernel_rfl) hS (y_cell1 (by rfl) rfl rfl Try.underlying22 rfl (fun w h => h.fld (k := 0) rfl)) ?_
    simp only [Act.put, List.setIfInBounds_toArray, List.set_cons_zero, List.set_cons_succ]
    refine mf_yield (i := 3) (d := 18) (.pointer (some ⟨w.heap.size, 1, none⟩)) rfl rfl (by kernel_rfl) (by kernel_rfl) (by kernel_rfl) (by kernel_rfl) hS (y_fieldO (by rfl) rfl rfl (fldr 1 (by omega)) (Nat.zero_add _)) ?_
    simp only [Act.put, List.setIfInBounds_toArray, List.set_cons_zero, List.set_cons_succ]
    refine mf_yield (i := 4) (d := 19) (.int .u32 p.n) rfl rfl (by kernel_rfl) (by kernel_rfl) (by kernel_rfl) (by kernel_rfl) hS (y_cell1 (by rfl) rfl rfl Try.underlying22 rfl (fun w h => h.fld (k := 1) rfl)) ?_
    simp only [Act.put, List.setIfInBounds_toArray, List.set_cons_zero, List.set_cons_succ]
    refine mf_yield (i := 7) (d := 22) (.pointer (some ⟨w.heap.size, 2, none⟩)) rfl rfl (by kernel_rfl) (by kernel_rfl) (by kernel_rfl) (by kernel_rfl) hS (y_fieldO (by rfl) rfl rfl (fldr 2 (by omega)) (Nat.zero_add _)) ?_
    simp only [Act.put, List.setIfInBounds_toArray, List.set_cons_zero, List.set_cons_succ]
    refine mf_yield (i := 8) (d := 23) (.int .i64 ((kb.toNat : Nat))) rfl rfl (by kernel_rfl) (by kernel_rfl) (by kernel_rfl) (by kernel_rfl) hS (y_cell1 (by rfl) rfl rfl Try.underlying3 rfl (fun w h => (h.fld (k := 2) rfl).trans HK.out)) ?_
    simp only [Act.put, List.setIfInBounds_toArray, List.set_cons_zero, List.set_cons_succ]
    refine mf_yield (i := 9) (d := 24) (.int .u8 ((kb.toNat : Nat))) rfl rfl (by kernel_rfl) (by kernel_rfl) (by kernel_rfl) (by kernel_rfl) hS (y_u8 (by rfl) rfl rfl kl) ?_
    simp only [Act.put, List.setIfInBounds_toArray, List.set_cons_zero, List.set_cons_succ]
    refine mf_yield (i := 10) (d := 25) (.int .i64 3) rfl rfl (by kernel_rfl) (by kernel_rfl) (by kernel_rfl) (by kernel_rfl) hS (y_run (by rfl) fun _ => by rfl) ?_
    simp only [Act.put, List.setIfInBounds_toArray, List.set_cons_zero, List.set_cons_succ]
    refine mf_yield (i := 11) (d := 26) (.int .u8 ((3 : Nat))) rfl rfl (by kernel_rfl) (by kernel_rfl) (by kernel_rfl) (by kernel_rfl) hS (y_u8 (x := 3) (by rfl) rfl rfl (by omega)) ?_
    simp only [Act.put, List.setIfInBounds_toArray, List.set_cons_zero, List.set_cons_succ]
    refine mf_yield (i := 12) (d := 27) (.pointer (some ⟨w.heap.size, 5, none⟩)) rfl rfl (by kernel_rfl) (by kernel_rfl) (by kernel_rfl) (by kernel_rfl) hS (y_fieldO (by rfl) rfl rfl (fldr 5 (by omega)) (Nat.zero_add _)) ?_
    simp only [Act.put, List.setIfInBounds_toArray, List.set_cons_zero, List.set_cons_succ]
    refine mf_yield (i := 13) (d := 28) (.string ⟨p.d.toArray⟩) rfl rfl (by kernel_rfl) (by kernel_rfl) (by kernel_rfl) (by kernel_rfl) hS (y_cell1 (by rfl) rfl rfl Try.underlying9 rfl (fun w h => h.fld (k := 5) rfl)) ?_
    simp only [Act.put, List.setIfInBounds_toArray, List.set_cons_zero, List.set_cons_succ]
    refine mf_yield (i := 14) (d := 29) (.int .i64 ((nb.toNat : Nat))) rfl rfl (by kernel_rfl) (by kernel_rfl) (by kernel_rfl) (by kernel_rfl) hS (y_lenS (by rfl) rfl rfl HS.out) ?_
    simp only [Act.put, List.setIfInBounds_toArray, List.set_cons_zero, List.set_cons_succ]
    refine mf_yield (i := 15) (d := 30) (.int .u8 ((nb.toNat : Nat))) rfl rfl (by kernel_rfl) (by kernel_rfl) (by kernel_rfl) (by kernel_rfl) hS (y_u8 (by rfl) rfl rfl nl) ?_
    simp only [Act.put, List.setIfInBounds_toArray, List.set_cons_zero, List.set_cons_succ]
    refine mf_yield (i := 19) (d := 34) (.pointer (some ⟨w.heap.size, 5, none⟩)) rfl rfl (by kernel_rfl) (by kernel_rfl) (by kernel_rfl) (by kernel_rfl) hS (y_fieldO (by rfl) rfl rfl (fldr 5 (by omega)) (Nat.zero_add _)) ?_
    simp only [Act.put, List.setIfInBounds_toArray, List.set_cons_zero, List.set_cons_succ]
    refine mf_yield (i := 20) (d := 35) (.string ⟨p.d.toArray⟩) rfl rfl (by kernel_rfl) (by kernel_rfl) (by kernel_rfl) (by kernel_rfl) hS (y_cell1 (by rfl) rfl rfl Try.underlying9 rfl (fun w h => h.fld (k := 5) rfl)) ?_
    simp only [Act.put, List.setIfInBounds_toArray, List.set_cons_zero, List.set_cons_succ]
    refine mf_ready [2, 16] (by kernel_rfl) (by simp) ?_
    refine af_call (i := 2) (d := 17) (R := fun v w' => v = .string ⟨(fourL p.e).toArray⟩ ∧ Below (W0.drew).heap.size (W0.drew) w') #[.int .u32 p.e] rfl rfl (by rfl) rfl enter_rfour (by kernel_rfl) ((rfour_as p.e _ HO.out.1).mono fun e w' h => h) (fun v w' h => hS.next h.2) ?_ ?_
    · rintro v V1 ⟨rfl, hV1⟩ hSV1
      simp only [Act.put, List.setIfInBounds_toArray, List.set_cons_zero, List.set_cons_succ]
      clear hS hV1
      have hS := hSV1
      clear hSV1
      refine mf_ready [5, 16] (by kernel_rfl) (by simp) ?_
      refine af_call (i := 5) (d := 20) (R := fun v w' => v = .string ⟨(fourL p.n).toArray⟩ ∧ Below (V1).heap.size (V1) w') #[.int .u32 p.n] rfl rfl (by rfl) rfl enter_rfour (by kernel_rfl) ((rfour_as p.n _ HO.out.2).mono fun e w' h => h) (fun v w' h => hS.next h.2) ?_ ?_
      · rintro v V2 ⟨rfl, hV2⟩ hSV2
        simp only [Act.put, List.setIfInBounds_toArray, List.set_cons_zero, List.set_cons_succ]
        clear hS hV2
        have hS := hSV2
        clear hSV2
        refine mf_yield (i := 6) (d := 21) (.string ⟨(fourL p.e ++ fourL p.n).toArray⟩) rfl rfl (by kernel_rfl) (by kernel_rfl) (by kernel_rfl) (by kernel_rfl) hS (y_addS (by rfl) rfl rfl rfl (by rw [fourL_length, fourL_length]; decide)) ?_
        simp only [Act.put, List.setIfInBounds_toArray, List.set_cons_zero, List.set_cons_succ]
        refine mf_ready [16] (by kernel_rfl) (by simp) ?_
        refine af_of (i := 16) rfl (by rfl) (fun Q' hQ => ?_) AllReadyF.nil
        · refine wpList_slice3 (xb := kb) (yb := UInt8.ofNat 3) (zb := nb) rfl _ _ _ rfl rfl rfl rfl ?_
          have hBV3 : Below (V2).heap.size (V2) ((V2).alloc (.cells (bl [kb, UInt8.ofNat 3, nb]) 5)) := (Below.refl _ _).alloc (Nat.le_refl _) _
          have hSV3 := hS.next hBV3
          have hA := At.new (V2) (bl [kb, UInt8.ofNat 3, nb]) 5
          refine hQ _ _ (fun _ => hSV3) ?_
          show wpAnyF _ _ _ _ _ _ _ _ (Act.put _ (some 31) _) _
          simp only [Act.put, List.setIfInBounds_toArray, List.set_cons_zero, List.set_cons_succ]
          clear hS hQ hBV3
          clear Q'
          revert hSV3 hA
          generalize World.alloc _ _ = V3
          generalize Array.size (World.heap (V2)) = g3
          intro hS0 hA0
          refine mf_more (fun w' => ReI w p w' ∧ At w' g3 (bl [kb, UInt8.ofNat 3, nb]) 5) (fun _ h => h.1) ?_
          have hS := And.intro hS0 hA0
          clear hS0 hA0
          refine mf_yield (i := 17) (d := 32) (.string ⟨(([kb, UInt8.ofNat 3, nb].drop 0).take 3).toArray⟩) rfl rfl (by kernel_rfl) (by kernel_rfl) (by kernel_rfl) (by kernel_rfl) hS (y_text (p := 0) (n := 3) (l := [kb, UInt8.ofNat 3, nb]) (by rfl) rfl rfl (fun w' h => h.2) (by simp)) ?_
          simp only [Act.put, List.setIfInBounds_toArray, List.set_cons_zero, List.set_cons_succ]
          refine mf_yield (i := 18) (d := 33) (.string ⟨((fourL p.e ++ fourL p.n) ++ (([kb, UInt8.ofNat 3, nb].drop 0).take 3)).toArray⟩) rfl rfl (by kernel_rfl) (by kernel_rfl) (by kernel_rfl) (by kernel_rfl) hS (y_addS (by rfl) rfl rfl rfl (by rw [List.length_append, fourL_length, fourL_length]; unfold maxLen; simp)) ?_
          simp only [Act.put, List.setIfInBounds_toArray, List.set_cons_zero, List.set_cons_succ]
          refine mf_yield (i := 21) (d := 36) (.string ⟨SL.toArray⟩) rfl rfl (by kernel_rfl) (by kernel_rfl) (by kernel_rfl) (by kernel_rfl) hS (by rw [← HSL.out]; exact y_addS (by rfl) rfl rfl rfl (by have := HR.out.2.1; rw [List.length_append, List.length_append, fourL_length, fourL_length]; unfold maxLen; simp; omega)) ?_
          simp only [Act.put, List.setIfInBounds_toArray, List.set_cons_zero, List.set_cons_succ]
          refine mf_one (i := 22) (d := 4) (.string ⟨SL.toArray⟩) rfl rfl (by kernel_rfl) hS (y_run (by rfl) fun _ => by rfl) ?_
          simp only [Act.put, List.setIfInBounds_toArray, List.set_cons_zero, List.set_cons_succ]
          refine mf_done (by kernel_rfl) ?_
          go_wp2_with fail
          go_meet
          exact ⟨rfl, Lib.hid hS.1⟩
      refine af_of (i := 16) rfl (by rfl) (fun Q' hQ => ?_) AllReadyF.nil
      · refine wpList_slice3 (xb := kb) (yb := UInt8.ofNat 3) (zb := nb) rfl _ _ _ rfl rfl rfl rfl ?_
        have hBV4 : Below (V1).heap.size (V1) ((V1).alloc (.cells (bl [kb, UInt8.ofNat 3, nb]) 5)) := (Below.refl _ _).alloc (Nat.le_refl _) _
        have hSV4 := hS.next hBV4
        have hA := At.new (V1) (bl [kb, UInt8.ofNat 3, nb]) 5
        refine hQ _ _ (fun _ => hSV4) ?_
        show wpAnyF _ _ _ _ _ _ _ _ (Act.put _ (some 31) _) _
        simp only [Act.put, List.setIfInBounds_toArray, List.set_cons_zero, List.set_cons_succ]
        clear hS hQ hBV4
        clear Q'
        revert hSV4 hA
        generalize World.alloc _ _ = V4
        generalize Array.size (World.heap (V1)) = g4
        intro hS0 hA0
        refine mf_more (fun w' => ReI w p w' ∧ At w' g4 (bl [kb, UInt8.ofNat 3, nb]) 5) (fun _ h => h.1) ?_
        have hS := And.intro hS0 hA0
        clear hS0 hA0
        refine mf_yield (i := 17) (d := 32) (.string ⟨(([kb, UInt8.ofNat 3, nb].drop 0).take 3).toArray⟩) rfl rfl (by kernel_rfl) (by kernel_rfl) (by kernel_rfl) (by kernel_rfl) hS (y_text (p := 0) (n := 3) (l := [kb, UInt8.ofNat 3, nb]) (by rfl) rfl rfl (fun w' h => h.2) (by simp)) ?_
        simp only [Act.put, List.setIfInBounds_toArray, List.set_cons_zero, List.set_cons_succ]
        refine mf_ready [5] (by kernel_rfl) (by simp) ?_
        refine af_call (i := 5) (d := 20) (R := fun v w' => v = .string ⟨(fourL p.n).toArray⟩ ∧ Below (V4).heap.size (V4) w') #[.int .u32 p.n] rfl rfl (by rfl) rfl enter_rfour (by kernel_rfl) ((rfour_as p.n _ HO.out.2).mono fun e w' h => h) (fun v w' h => ⟨hS.1.next h.2, hS.2.below h.2 hS.2.lt⟩) ?_ AllReadyF.nil
        · rintro v V5 ⟨rfl, hV5⟩ hSV5
          simp only [Act.put, List.setIfInBounds_toArray, List.set_cons_zero, List.set_cons_succ]
          clear hS hV5
          have hS := hSV5
          clear hSV5
          refine mf_yield (i := 6) (d := 21) (.string ⟨(fourL p.e ++ fourL p.n).toArray⟩) rfl rfl (by kernel_rfl) (by kernel_rfl) (by kernel_rfl) (by kernel_rfl) hS (y_addS (by rfl) rfl rfl rfl (by rw [fourL_length, fourL_length]; decide)) ?_
          simp only [Act.put, List.setIfInBounds_toArray, List.set_cons_zero, List.set_cons_succ]
          refine mf_yield (i := 18) (d := 33) (.string ⟨((fourL p.e ++ fourL p.n) ++ (([kb, UInt8.ofNat 3, nb].drop 0).take 3)).toArray⟩) rfl rfl (by kernel_rfl) (by kernel_rfl) (by kernel_rfl) (by kernel_rfl) hS (y_addS (by rfl) rfl rfl rfl (by rw [List.length_append, fourL_length, fourL_length]; unfold maxLen; simp)) ?_
          simp only [Act.put, List.setIfInBounds_toArray, List.set_cons_zero, List.set_cons_succ]
          refine mf_yield (i := 21) (d := 36) (.string ⟨SL.toArray⟩) rfl rfl (by kernel_rfl) (by kernel_rfl) (by kernel_rfl) (by kernel_rfl) hS (by rw [← HSL.out]; exact y_addS (by rfl) rfl rfl rfl (by have := HR.out.2.1; rw [List.length_append, List.length_append, fourL_length, fourL_length]; unfold maxLen; simp; omega)) ?_
          simp only [Act.put, List.setIfInBounds_toArray, List.set_cons_zero, List.set_cons_succ]
          refine mf_one (i := 22) (d := 4) (.string ⟨SL.toArray⟩) rfl rfl (by kernel_rfl) hS (y_run (by rfl) fun _ => by rfl) ?_
          simp only [Act.put, List.setIfInBounds_toArray, List.set_cons_zero, List.set_cons_succ]
          refine mf_done (by kernel_rfl) ?_
          go_wp2_with fail
          go_meet
          exact ⟨rfl, Lib.hid hS.1⟩
    refine af_of (i := 16) rfl (by rfl) (fun Q' hQ => ?_) AllReadyF.nil
    · refine wpList_slice3 (xb := kb) (yb := UInt8.ofNat 3) (zb := nb) rfl _ _ _ rfl rfl rfl rfl ?_
      have hBV6 : Below (W0.drew).heap.size (W0.drew) ((W0.drew).alloc (.cells (bl [kb, UInt8.ofNat 3, nb]) 5)) := (Below.refl _ _).alloc (Nat.le_refl _) _
      have hSV6 := hS.next hBV6
      have hA := At.new (W0.drew) (bl [kb, UInt8.ofNat 3, nb]) 5
      refine hQ _ _ (fun _ => hSV6) ?_
      show wpAnyF _ _ _ _ _ _ _ _ (Act.put _ (some 31) _) _
      simp only [Act.put, List.setIfInBounds_toArray, List.set_cons_zero, List.set_cons_succ]
      clear hS hQ hBV6
      clear Q'
      revert hSV6 hA
      generalize World.alloc _ _ = V6
      generalize Array.size (World.heap (W0.drew)) = g6
      intro hS0 hA0
      refine mf_more (fun w' => ReI w p w' ∧ At w' g6 (bl [kb, UInt8.ofNat 3, nb]) 5) (fun _ h => h.1) ?_
      have hS := And.intro hS0 hA0
      clear hS0 hA0
      refine mf_yield (i := 17) (d := 32) (.string ⟨(([kb, UInt8.ofNat 3, nb].drop 0).take 3).toArray⟩) rfl rfl (by kernel_rfl) (by kernel_rfl) (by kernel_rfl) (by kernel_rfl) hS (y_text (p := 0) (n := 3) (l := [kb, UInt8.ofNat 3, nb]) (by rfl) rfl rfl (fun w' h => h.2) (by simp)) ?_
      simp only [Act.put, List.setIfInBounds_toArray, List.set_cons_zero, List.set_cons_succ]
      refine mf_ready [2] (by kernel_rfl) (by simp) ?_
      refine af_call (i := 2) (d := 17) (R := fun v w' => v = .string ⟨(fourL p.e).toArray⟩ ∧ Below (V6).heap.size (V6) w') #[.int .u32 p.e] rfl rfl (by rfl) rfl enter_rfour (by kernel_rfl) ((rfour_as p.e _ HO.out.1).mono fun e w' h => h) (fun v w' h => ⟨hS.1.next h.2, hS.2.below h.2 hS.2.lt⟩) ?_ AllReadyF.nil
      · rintro v V7 ⟨rfl, hV7⟩ hSV7
        simp only [Act.put, List.setIfInBounds_toArray, List.set_cons_zero, List.set_cons_succ]
        clear hS hV7
        have hS := hSV7
        clear hSV7
        refine mf_ready [5] (by kernel_rfl) (by simp) ?_
        refine af_call (i := 5) (d := 20) (R := fun v w' => v = .string ⟨(fourL p.n).toArray⟩ ∧ Below (V7).heap.size (V7) w') #[.int .u32 p.n] rfl rfl (by rfl) rfl enter_rfour (by kernel_rfl) ((rfour_as p.n _ HO.out.2).mono fun e w' h => h) (fun v w' h => ⟨hS.1.next h.2, hS.2.below h.2 hS.2.lt⟩) ?_ AllReadyF.nil
        · rintro v V8 ⟨rfl, hV8⟩ hSV8
          simp only [Act.put, List.setIfInBounds_toArray, List.set_cons_zero, List.set_cons_succ]
          clear hS hV8
          have hS := hSV8
          clear hSV8
          refine mf_yield (i := 6) (d := 21) (.string ⟨(fourL p.e ++ fourL p.n).toArray⟩) rfl rfl (by kernel_rfl) (by kernel_rfl) (by kernel_rfl) (by kernel_rfl) hS (y_addS (by rfl) rfl rfl rfl (by rw [fourL_length, fourL_length]; decide)) ?_
          simp only [Act.put, List.setIfInBounds_toArray, List.set_cons_zero, List.set_cons_succ]
          refine mf_yield (i := 18) (d := 33) (.string ⟨((fourL p.e ++ fourL p.n) ++ (([kb, UInt8.ofNat 3, nb].drop 0).take 3)).toArray⟩) rfl rfl (by kernel_rfl) (by kernel_rfl) (by kernel_rfl) (by kernel_rfl) hS (y_addS (by rfl) rfl rfl rfl (by rw [List.length_append, fourL_length, fourL_length]; unfold maxLen; simp)) ?_
          simp only [Act.put, List.setIfInBounds_toArray, List.set_cons_zero, List.set_cons_succ]
          refine mf_yield (i := 21) (d := 36) (.string ⟨SL.toArray⟩) rfl rfl (by kernel_rfl) (by kernel_rfl) (by kernel_rfl) (by kernel_rfl) hS (by rw [← HSL.out]; exact y_addS (by rfl) rfl rfl rfl (by have := HR.out.2.1; rw [List.length_append, List.length_append, fourL_length, fourL_length]; unfold maxLen; simp; omega)) ?_
          simp only [Act.put, List.setIfInBounds_toArray, List.set_cons_zero, List.set_cons_succ]
          refine mf_one (i := 22) (d := 4) (.string ⟨SL.toArray⟩) rfl rfl (by kernel_rfl) hS (y_run (by rfl) fun _ => by rfl) ?_
          simp only [Act.put, List.setIfInBounds_toArray, List.set_cons_zero, List.set_cons_succ]
          refine mf_done (by kernel_rfl) ?_
          go_wp2_with fail
          go_meet
          exact ⟨rfl, Lib.hid hS.1⟩
  case rest =>
    obtain ⟨rfl, HJ⟩ := hcut
    have HSN := Lib.hid (show SL.length = 11 + p.d.length by rw [← HSL.out]; simp [fourL_length]; omega)
    have HD := Lib.hid HR.out.2.1
    have HZC := Lib.hid (show (ByteArray.mk #[0]).size = 1 from rfl)
    have HBODY := Lib.hid (show SL ++ List.replicate (49 - p.d.length) 0 = p.body by
      rw [← HSL.out]
      unfold Pv.body
      rw [HKB.out, HNB.out, HM.out]
      simp only [List.append_assoc]
      rfl)
    have hS0 : (⟨SL.toArray⟩ : ByteArray).data.toList = SL := rfl
    revert hS0
    generalize (⟨SL.toArray⟩ : ByteArray) = X0
    intro hS0
    clear HSL HKB HNB HK HS kl nl
    go_wp2_with fail
    go_loop [4] (fun s => ∃ (k : Nat) (X : ByteArray), s = .string X ∧ SL.length + k ≤ 60 ∧ X.data.toList = SL ++ List.replicate k 0) (fun s => 60 - strLen s)
    case atStart => exact ⟨0, X0, rfl, by rw [HSN.out]; have := HD.out; omega, by rw [hS0]; simp⟩
    case round =>
      obtain ⟨k, X, rfl, hk, hX⟩ := hrel
      have hsz : X.size = SL.length + k := by
        rw [size_list, hX]; simp
      have HX := Lib.hid hX
      clear hX hS0
      by_cases hlt : SL.length + k < 60
      · have HSZ := Lib.hid hsz
        obtain ⟨N, hN⟩ : ∃ N, SL.length + k = N := ⟨_, rfl⟩
        rw [hN] at hsz hlt hk
        have hone : (ByteArray.mk #[0]).size = 1 := rfl
        have HN := Lib.hid hN
        clear hN
        go_wp2
        go_round
        case rel => exact ⟨k + 1, _, rfl, by rw [← Nat.add_assoc, HN.out]; omega, by rw [data_add, HX.out, List.append_assoc, ← List.replicate_succ']⟩
        case measure => simp only [strLen]; rw [size_add]; omega
      · have hk60 : SL.length + k = 60 := by omega
        have hkd : k = 49 - p.d.length := by have := HSN.out; have := HD.out; omega
        rw [hk60] at hsz
        have HXB := Lib.hid (show X.data.toList = p.body by rw [HX.out, hkd, HBODY.out])
        clear hlt hk hk60 hkd HX HBODY HSN
        have hsm : X.size ≤ maxLen := by rw [hsz]; decide
        go_wp2_with fail
        refine (refSum_any X wc hsm).mono ?_
        rintro e w1 ⟨rfl, h1⟩
        subst h1
        rw [HXB.out]
        have HSM := Lib.hid (moreS_lt 0 p.body)
        obtain ⟨SU, hSU⟩ : ∃ SU, moreS 0 p.body = SU := ⟨_, rfl⟩
        rw [hSU] at HSM ⊢
        have HSU := Lib.hid hSU
        clear hSU
        go_wp2_with fail
        refine (refFour_any SU wc HSM.out).mono ?_
        rintro e w2 ⟨rfl, hb2⟩
        have HJ2 := Lib.hid (HJ.out.next hb2)
        clear hb2 HJ hsm
        have hY : ((⟨(fourL SU).toArray⟩ : ByteArray) ++ X).data.toList = p.lay := by
          rw [ByteArray.data_append, Array.toList_append, HXB.out, ← HSU.out]; rfl
        have hYs : ((⟨(fourL SU).toArray⟩ : ByteArray) ++ X).size = 64 := by
          rw [size_list, hY, Pv.lay_length HR.out]
        have hF4 : (⟨(fourL SU).toArray⟩ : ByteArray).size = 4 := rfl
        revert hY hYs hF4
        generalize (⟨(fourL SU).toArray⟩ : ByteArray) = F
        intro hY hYs hF4
        have HY := Lib.hid hY
        clear hY
        go_wp2_with fail
        have hI0 := Lib.hid (RlI.start p (L := p.lay) HJ2.out)
        revert hYs HY hI0
        rw [← HZ.out]
        generalize F ++ X = Y
        generalize World.alloc _ _ = W2
        generalize w2.heap.size = g
        intro hYs HY hI0
        have HLL := Lib.hid (Pv.lay_length HR.out)
        obtain ⟨L, hL⟩ : ∃ L, p.lay = L := ⟨_, rfl⟩
        rw [hL] at HY hI0 HLL
        have HL := Lib.hid hL
        clear hL
        go_loopw [6] (fun i w' => ∃ k : Nat, k ≤ 64 ∧ i = .int .i64 k ∧ Hid (RlI w g k L w')) (fun i _ => 64 - (intOf i).toNat)
        case atStart => exact ⟨0, by omega, rfl, hI0⟩
        case round =>
          obtain ⟨k, hk, rfl, HK⟩ := hrel
          clear hI0
          by_cases hlt : k < 64
          · have hc := HK.out.byte (by rw [HLL.out]; exact hlt)
            have c1 := hc.1
            have c2 := hc.2
            have hkY : k < Y.size := by omega
            have HNX := Lib.hid (HK.out.put HLL.out hlt)
            have HYL := Lib.hid (show (L.getD k 0) = Y[k] by rw [← HY.out, gd_get _ _ (by rw [← size_list]; exact hkY)]; rfl)
            rw [HYL.out] at HNX
            clear hc HYL HK
            go_wp2
            go_roundw
            case rel => exact ⟨k + 1, by omega, by go_num, HNX⟩
            case measure => simp [intOf]; omega
          · obtain rfl : k = 64 := by omega
            have hB := Lib.hid HK.out.1
            have hA2 := Lib.hid HK.out.2.2.1
            have hG := Lib.hid HK.out.2.1
            have hA3 := Lib.hid (HK.out.all HLL.out)
            have hLs := Lib.hid (show (bl L).size = 64 by rw [bl_size, HLL.out])
            have hzs := Lib.hid (show (bl z64).size = 64 by rw [bl_size, z64_len])
            have hL1 := Lib.hid (bl_one L)
            clear HK
            obtain ⟨T, hT⟩ : ∃ T, bl L = T := ⟨_, rfl⟩
            rw [hT] at hA3 hLs hL1
            have HTL := Lib.hid hT
            clear hT
            go_wp2_with (first
              | (refine wpList_load_w rfl 26 _ rfl _ rfl hA3.out Try.underlying26 rfl (info_64 hLs.out) ?_)
              | (refine wpList_store_row rfl 26 _ _ rfl (w.heap.size + 1) T rfl rfl _ _ hA2.out (info_64 hLs.out) (by rw [hLs.out, hzs.out]) hL1.out ?_)
              | fail)
            rw [HL.out, HTL.out]
            exact bodyPost_ret (v := .agg T) (results_any_one rfl _ _ (w.heap.size + 1) T _ rfl (At.setRow hA2.out) Try.underlying26 rfl (info_64 hLs.out)) rfl ⟨rfl, below_setRow' hB.out (by omega) _⟩

theorem refLay_yes (p : Pv) (w : World) (ho : p.Ok) (hr : p.right) :
    Calls Try.prog 17 #[.agg (pgV p)] w fun e w' => e = .returned (.agg (bl p.lay)) ∧ Below w.heap.size w w' := by
  cases hf : p.f <;> cases hl : p.l
  · exact refLay_0 p w ho hr hf hl
  · exact refLay_2 p w ho hr hf hl
  · exact refLay_1 p w ho hr hf hl
  · exact refLay_3 p w ho hr hf hl
end Go.Proofs.Yteahbdnnieaaaaa.Pa
