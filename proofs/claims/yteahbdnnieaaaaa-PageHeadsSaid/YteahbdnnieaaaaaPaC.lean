/- The program's Lay. -/
import Derived.Test.YteahbdnnieaaaaaPaY
set_option maxRecDepth 100000
set_option linter.unusedVariables false
namespace Go.Proofs.Yteahbdnnieaaaaa.Pa
open Go.RowKit Go.Proofs.Yteahbdnnieaaaaa.Row Go.Proofs.Yteahbdnnieaaaaa.Crc

def z64 : List UInt8 := List.replicate 64 0
theorem z64_len : z64.length = 64 := by unfold z64; simp
theorem byts_z : Byts z64 (bl z64) := byts_bl z64_len
theorem zero_api (w : World) : (zeroValue 27).run Try.prog w = .ok (.agg (bl z64)) w := by kernel_rfl
theorem info_api {A : Array Value} (h : A.size = 64) : (Try.prog.info? 27).map (·.size) = some A.size := by rw [h]; kernel_rfl
theorem info_pg {A : Array Value} (h : A.size = 6) : (Try.prog.info? 31).map (·.size) = some A.size := by rw [h]; kernel_rfl
theorem enter_four (args : Array Value) (w : World) : (callFunc 19 args).run Try.prog w = .ok (.enter 19 args) w := run_enter Try.func19 (by kernel_rfl) rfl args w
theorem enter_sum (args : Array Value) (w : World) : (callFunc 21 args).run Try.prog w = .ok (.enter 21 args) w := run_enter Try.func21 (by kernel_rfl) rfl args w

theorem fldp (i : Nat) (hi : i < 6) : FldO 31 i i := by
  obtain rfl | rfl | rfl | rfl | rfl | rfl : i = 0 ∨ i = 1 ∨ i = 2 ∨ i = 3 ∨ i = 4 ∨ i = 5 := by omega
  all_goals exact fldO Try.underlying31 rfl rfl (s := 1) (by kernel_rfl) (by omega)

theorem pgV_one (p : Pv) : (pgV p).all (·.oneCell') = true := by
  unfold pgV
  rw [Array.all_eq_true]
  intro i hi
  have : i < 6 := hi
  obtain rfl | rfl | rfl | rfl | rfl | rfl : i = 0 ∨ i = 1 ∨ i = 2 ∨ i = 3 ∨ i = 4 ∨ i = 5 := by omega
  all_goals rfl

theorem ov_len (l : List UInt8) (o : Nat) (s : List UInt8) (h : o + s.length ≤ l.length) : (ov l o s).length = l.length := by
  unfold ov
  simp only [List.length_append, List.length_take, List.length_drop]
  omega
/-- While a page is laid. -/
def LyI (w : World) (p : Pv) (g : Nat) (l : List UInt8) (w' : World) : Prop :=
  Below w.heap.size w w' ∧ w.heap.size + 1 < g ∧ At w' w.heap.size (pgV p) 31 ∧ At w' (w.heap.size + 1) (bl z64) 27 ∧ At w' g (bl l) 27
section
variable {w w1 w2 : World} {p : Pv} {g : Nat} {l : List UInt8}
theorem LyI.next (h : LyI w p g l w1) (hb : Below w1.heap.size w1 w2) : LyI w p g l w2 :=
  ⟨below_trans h.1 hb h.1.size, h.2.1, h.2.2.1.below hb h.2.2.1.lt, h.2.2.2.1.below hb h.2.2.2.1.lt, h.2.2.2.2.below hb h.2.2.2.2.lt⟩
theorem LyI.drew (h : LyI w p g l w1) : LyI w p g l w1.drew := h.next (Below.refl _ _).drew
theorem LyI.row (h : LyI w p g l w1) (m : List UInt8) : LyI w p g m (w1.setRow g (bl m)) :=
  have hg := h.2.1
  ⟨below_setRow' h.1 (by omega) _, h.2.1, h.2.2.1.setRow_other (by omega), h.2.2.2.1.setRow_other (by omega), h.2.2.2.2.setRow⟩
theorem LyI.set (h : LyI w p g l w1) (k : Nat) (c : UInt8) : LyI w p g (l.set k c) (w1.setCell ⟨g, k, none⟩ (.int .u8 (c.toNat : Int))) :=
  have hg := h.2.1
  ⟨h.1.setCell (by dsimp only; omega) _, h.2.1, h.2.2.1.setCell_other (by dsimp only; omega), h.2.2.2.1.setCell_other (by dsimp only; omega), by rw [← bl_set]; exact h.2.2.2.2.setCell⟩
theorem LyI.byte (h : LyI w p g l w1) (k : Nat) (hk : k < l.length) : w1.cell? ⟨g, k, none⟩ = some (.int .u8 (B l k)) ∧ w1.frozen? ⟨g, k, none⟩ = false :=
  ⟨by rw [cell_of_row _ _ _ _ _ _ h.2.2.2.2, bl_at l k hk], h.2.2.2.2.frozen k⟩
theorem LyI.fld (h : LyI w p g l w1) {k : Nat} {v : Value} (hk : (pgV p)[k]? = some v) : w1.cell? ⟨w.heap.size, k, none⟩ = some v := by rw [cell_of_row _ _ _ _ _ _ h.2.2.1, hk]
theorem LyI.start (w : World) (p : Pv) {w1 : World} (hb : Below ((w.alloc (.cells (pgV p) 31)).alloc (.cells (bl z64) 27)).heap.size ((w.alloc (.cells (pgV p) 31)).alloc (.cells (bl z64) 27)) w1) :
    LyI w p w1.heap.size z64 (w1.alloc (.cells (bl z64) 27)) := by
  have hs : w.heap.size + 1 < w1.heap.size := by have := hb.size; simp at this; omega
  have h0 : Below w.heap.size w ((w.alloc (.cells (pgV p) 31)).alloc (.cells (bl z64) 27)) := ((Below.refl _ _).alloc (Nat.le_refl _) _).alloc (by simp) _
  have h1 : Below w.heap.size w w1 := below_trans h0 hb h0.size
  refine ⟨h1.alloc h1.size _, hs, ?_, ?_, At.new _ _ _⟩
  · exact (((At.new w (pgV p) 31).alloc _).below hb (by simp; omega)).alloc _
  · have := At.new (w.alloc (.cells (pgV p) 31)) (bl z64) 27
    rw [World.size_alloc] at this
    exact (this.below hb (by simp)).alloc _
end

theorem four_as (x : Nat) (w : World) (hx : x < 4294967296) : Calls Try.prog 19 #[.int .u32 x] w fun e w' => ∃ v, e = .returned v ∧ v = .string ⟨(fourL x).toArray⟩ ∧ Below w.heap.size w w' :=
  (four_any x w hx).mono fun e w' h => ⟨_, h.1, rfl, h.2⟩

/-- What Lay lays, step by step. -/
theorem lay_is {p : Pv} (hr : p.right) {l1 l2 l6 l7 l8 : List UInt8} {kb mb nb : UInt8} (h1 : ov z64 4 (fourL p.e) = l1) (h2 : ov l1 8 (fourL p.n) = l2) (hk : UInt8.ofNat p.k.toNat = kb) (hm : UInt8.ofNat p.m = mb) (hn : UInt8.ofNat p.d.length = nb)
    (h6 : ((l2.set 12 kb).set 13 mb).set 14 nb = l6) (h7 : ov l6 15 p.d = l7) (h8 : ov l7 0 (fourL (moreS 0 (l7.drop 4))) = l8) : l8 = p.lay := by
  have hd := hr.2.1
  have e6 : l6 = 0 :: 0 :: 0 :: 0 :: (fourL p.e ++ (fourL p.n ++ kb :: mb :: nb :: List.replicate 49 0)) := by
    rw [← h6, ← h2, ← h1]; rfl
  have e7 : l7 = 0 :: 0 :: 0 :: 0 :: p.body := by
    rw [← h7, e6]
    unfold ov Pv.body
    rw [hk, hm, hn]
    have e : List.drop (15 + p.d.length) (0 :: 0 :: 0 :: 0 :: (fourL p.e ++ (fourL p.n ++ kb :: mb :: nb :: List.replicate 49 0))) = List.replicate (49 - p.d.length) 0 := by
      rw [← List.drop_drop]
      show List.drop p.d.length (List.replicate 49 0) = _
      rw [List.drop_replicate]
    rw [e, List.append_assoc]; rfl
  rw [← h8, e7]; rfl

set_option maxHeartbeats 4000000 in
theorem lay_yes (p : Pv) (w : World) (hd : p.d.length ≤ maxLen) (ho : p.Ok) (hr : p.right) :
    Calls Try.prog 9 #[.agg (pgV p)] w fun e w' => e = .returned (.tuple #[.agg (bl p.lay), .int .i64 0]) ∧ Below w.heap.size w w' := by
  have hR := Lib.hid fun w => right_any p w hd
  rw [decide_eq_true hr] at hR
  have hM := Lib.hid fun w => marks_any p w
  have HO := Lib.hid ho
  have HR := Lib.hid hr
  clear ho hr hd
  obtain ⟨P, hP⟩ : ∃ P, pgV p = P := ⟨_, rfl⟩
  obtain ⟨Z, hZ⟩ : ∃ Z, bl z64 = Z := ⟨_, rfl⟩
  have hz := zero_api
  have HST := Lib.hid fun w1 hb => LyI.start w p (w1 := w1) hb
  rw [hP] at hR hM ⊢
  rw [hZ] at hz
  simp only [hP, hZ] at HST
  have HP := Lib.hid hP
  have HZL := Lib.hid z64_len
  clear hP
  have hA0 : At ((w.alloc (.cells P 31)).alloc (.cells Z 27)) w.heap.size P 31 := (At.new w P _).alloc _
  go_enter Try.func9, Try.ntmps9
  go_wp2_with (first
    | (refine wpList_load_w rfl 31 _ rfl _ rfl hA0 Try.underlying31 rfl (by rw [← HP.out]; exact info_pg rfl) ?_)
    | fail)
  refine (hR.out _).mono ?_
  rintro e w1 ⟨rfl, hb⟩
  have HB := Lib.hid hb
  clear hb
  go_wp2_with fail
  have HI0 := Lib.hid (HST.out w1 HB.out)
  clear HST HB hA0
  revert HI0
  generalize w1.alloc (.cells Z _) = W0
  generalize w1.heap.size = g
  intro HI0
  refine mf_start (fun w' => ∃ l, LyI w p g l w') (fun _ => false) ⟨_, HI0.out.drew⟩ fun hS => ?_
  refine mf_yield (i := 0) (d := 9) (.slice ((some ⟨g, 4, none⟩)) 60 60) rfl rfl (by kernel_rfl) (by kernel_rfl) (by kernel_rfl) (by kernel_rfl) hS (y_cutl (j := 4) (by rfl) rfl rfl rfl Try.underlying27 (by kernel_rfl) rfl (by omega)) ?_
  simp only [Act.put, List.setIfInBounds_toArray, List.set_cons_zero, List.set_cons_succ]
  refine mf_yield (i := 1) (d := 10) (.pointer (some ⟨w.heap.size, 0, none⟩)) rfl rfl (by kernel_rfl) (by kernel_rfl) (by kernel_rfl) (by kernel_rfl) hS (y_fieldO (by rfl) rfl rfl (fldp 0 (by omega)) (Nat.zero_add _)) ?_
  simp only [Act.put, List.setIfInBounds_toArray, List.set_cons_zero, List.set_cons_succ]
  refine mf_yield (i := 2) (d := 11) (.int .u32 p.e) rfl rfl (by kernel_rfl) (by kernel_rfl) (by kernel_rfl) (by kernel_rfl) hS (y_cell1 (by rfl) rfl rfl Try.underlying22 rfl (fun w h => by obtain ⟨_, h⟩ := h; exact h.fld (k := 0) rfl)) ?_
  simp only [Act.put, List.setIfInBounds_toArray, List.set_cons_zero, List.set_cons_succ]
  refine mf_ready [3] (by kernel_rfl) (by simp) (af_call (i := 3) (d := 12) (R := fun v w' => v = .string ⟨(fourL p.e).toArray⟩ ∧ LyI w p g z64 w') #[.int .u32 p.e] rfl rfl (by rfl) rfl enter_four (by kernel_rfl) ((four_as p.e _ HO.out.1).mono fun e w' h => by obtain ⟨v, h1, h2, h3⟩ := h; exact ⟨v, h1, h2, HI0.out.drew.next h3⟩) (fun v w' h => ⟨_, h.2⟩) ?_ AllReadyF.nil)
  rintro v w0a ⟨rfl, h0a⟩ hS0
  clear hS0
  simp only [Act.put, List.setIfInBounds_toArray, List.set_cons_zero, List.set_cons_succ]
  refine mf_of (i := 4) rfl (by kernel_rfl) (by rfl) fun Q' hQ => ?_
  refine wpList_copy_str rfl (.tmp 9) (.tmp 12) rfl rfl rfl h0a.2.2.2.2 (by rw [fourL_length]; omega) (by rw [fourL_length, HZL.out]; omega) ?_
  have HI1 := Lib.hid (h0a.row (ov z64 4 (fourL p.e)))
  refine hQ _ _ (fun _ => ⟨_, HI1.out⟩) ?_
  show wpAnyF _ _ _ _ _ _ _ _ (Act.put _ (some 13) _) _
  simp only [Act.put, List.setIfInBounds_toArray, List.set_cons_zero, List.set_cons_succ]
  refine mf_done (by kernel_rfl) ?_
  clear hS hQ h0a
  clear Q'
  revert HI1
  generalize World.setRow _ _ _ = W1
  intro HI1
  obtain ⟨l1, hl1⟩ : ∃ l, (ov z64 4 (fourL p.e)) = l := ⟨_, rfl⟩
  have hn1 : l1.length = 64 := by rw [← hl1, ov_len _ _ _ (by rw [fourL_length, HZL.out]; omega)]; exact HZL.out
  rw [hl1] at HI1
  have HL1 := Lib.hid hl1
  have HN1 := Lib.hid hn1
  clear hl1 hn1
  go_wp2_with fail
  refine mf_start (fun w' => ∃ l, LyI w p g l w') (fun _ => false) ⟨_, HI1.out.drew⟩ fun hS => ?_
  refine mf_yield (i := 0) (d := 14) (.slice ((some ⟨g, 8, none⟩)) 56 56) rfl rfl (by kernel_rfl) (by kernel_rfl) (by kernel_rfl) (by kernel_rfl) hS (y_cutl (j := 8) (by rfl) rfl rfl rfl Try.underlying27 (by kernel_rfl) rfl (by omega)) ?_
  simp only [Act.put, List.setIfInBounds_toArray, List.set_cons_zero, List.set_cons_succ]
  refine mf_yield (i := 1) (d := 15) (.pointer (some ⟨w.heap.size, 1, none⟩)) rfl rfl (by kernel_rfl) (by kernel_rfl) (by kernel_rfl) (by kernel_rfl) hS (y_fieldO (by rfl) rfl rfl (fldp 1 (by omega)) (Nat.zero_add _)) ?_
  simp only [Act.put, List.setIfInBounds_toArray, List.set_cons_zero, List.set_cons_succ]
  refine mf_yield (i := 2) (d := 16) (.int .u32 p.n) rfl rfl (by kernel_rfl) (by kernel_rfl) (by kernel_rfl) (by kernel_rfl) hS (y_cell1 (by rfl) rfl rfl Try.underlying22 rfl (fun w h => by obtain ⟨_, h⟩ := h; exact h.fld (k := 1) rfl)) ?_
  simp only [Act.put, List.setIfInBounds_toArray, List.set_cons_zero, List.set_cons_succ]
  refine mf_ready [3] (by kernel_rfl) (by simp) (af_call (i := 3) (d := 17) (R := fun v w' => v = .string ⟨(fourL p.n).toArray⟩ ∧ LyI w p g l1 w') #[.int .u32 p.n] rfl rfl (by rfl) rfl enter_four (by kernel_rfl) ((four_as p.n _ HO.out.2).mono fun e w' h => by obtain ⟨v, h1, h2, h3⟩ := h; exact ⟨v, h1, h2, HI1.out.drew.next h3⟩) (fun v w' h => ⟨_, h.2⟩) ?_ AllReadyF.nil)
  rintro v w1a ⟨rfl, h1a⟩ hS1
  clear hS1
  simp only [Act.put, List.setIfInBounds_toArray, List.set_cons_zero, List.set_cons_succ]
  refine mf_of (i := 4) rfl (by kernel_rfl) (by rfl) fun Q' hQ => ?_
  refine wpList_copy_str rfl (.tmp 14) (.tmp 17) rfl rfl rfl h1a.2.2.2.2 (by rw [fourL_length]; omega) (by rw [fourL_length, HN1.out]; omega) ?_
  have HI2 := Lib.hid (h1a.row (ov l1 8 (fourL p.n)))
  refine hQ _ _ (fun _ => ⟨_, HI2.out⟩) ?_
  show wpAnyF _ _ _ _ _ _ _ _ (Act.put _ (some 18) _) _
  simp only [Act.put, List.setIfInBounds_toArray, List.set_cons_zero, List.set_cons_succ]
  refine mf_done (by kernel_rfl) ?_
  clear hS hQ h1a
  clear Q'
  revert HI2
  generalize World.setRow _ _ _ = W2
  intro HI2
  obtain ⟨l2, hl2⟩ : ∃ l, (ov l1 8 (fourL p.n)) = l := ⟨_, rfl⟩
  have hn2 : l2.length = 64 := by rw [← hl2, ov_len _ _ _ (by rw [fourL_length, HN1.out]; omega)]; exact HN1.out
  rw [hl2] at HI2
  have HL2 := Lib.hid hl2
  have HN2 := Lib.hid hn2
  clear hl2 hn2
  obtain ⟨kb, hkb⟩ : ∃ kb : UInt8, UInt8.ofNat p.k.toNat = kb := ⟨_, rfl⟩
  obtain ⟨mb, hmb⟩ : ∃ mb : UInt8, UInt8.ofNat p.m = mb := ⟨_, rfl⟩
  obtain ⟨nb, hnb⟩ : ∃ nb : UInt8, UInt8.ofNat p.d.length = nb := ⟨_, rfl⟩
  have hk : (kb.toNat : Int) = p.k := by
    have := HR.out.2.2.imp id fun h => h.1
    rw [← hkb, ofNat_toNat _ (by omega)]
    omega
  have hm : mb.toNat = p.m := by
    have := p.m_lt
    rw [← hmb, ofNat_toNat _ (by omega)]
  have hn : nb.toNat = p.d.length := by
    have := HR.out.2.1
    rw [← hnb, ofNat_toNat _ (by omega)]
  have kl := kb.toNat_lt
  have ml := mb.toNat_lt
  have nl : nb.toNat ≤ 49 := by rw [hn]; exact HR.out.2.1
  rw [← hm] at hM
  have HKB := Lib.hid hkb
  have HMB := Lib.hid hmb
  have HNB := Lib.hid hnb
  have HNL := Lib.hid hn
  obtain ⟨X, hX⟩ : ∃ X : ByteArray, ⟨p.d.toArray⟩ = X := ⟨_, rfl⟩
  have hs : X.size = nb.toNat := by rw [← hX, hn]; simp [ByteArray.size]
  have HX := Lib.hid hX
  have c2 : W2.cell? ⟨w.heap.size, 2, none⟩ = some (.int .i64 p.k) := HI2.out.fld (k := 2) rfl
  rw [← hk] at c2
  have HK := Lib.hid hk
  clear hkb hmb hnb hn hX hm hk
  have c12 := (HI2.out.byte 12 (by rw [HN2.out]; omega)).1
  have f12 := (HI2.out.byte 12 (by rw [HN2.out]; omega)).2
  have hi3 := HI2.out.set 12 kb
  have HI3 := Lib.hid hi3
  have HA3 := Lib.hid (show At (W2.setCell ⟨g, 12, none⟩ (.int .u8 (kb.toNat : Int))) w.heap.size P 31 from HP.out ▸ hi3.2.2.1)
  have HN3 := Lib.hid (show (l2.set 12 kb).length = 64 by rw [List.length_set]; exact HN2.out)
  clear hi3
  go_wp2_with (first
    | (refine wpList_load_w rfl 31 _ rfl _ rfl HA3.out Try.underlying31 rfl (by rw [← HP.out]; exact info_pg rfl) ?_)
    | fail)
  refine (hM.out _).mono ?_
  rintro e w4 ⟨rfl, hb⟩
  have hi4 := HI3.out.next hb
  have c13 := (hi4.byte 13 (by rw [HN3.out]; omega)).1
  have f13 := (hi4.byte 13 (by rw [HN3.out]; omega)).2
  have hi5 := hi4.set 13 mb
  have HN5 := Lib.hid (show ((l2.set 12 kb).set 13 mb).length = 64 by rw [List.length_set]; exact HN3.out)
  have c5 : (w4.setCell ⟨g, 13, none⟩ (.int .u8 (mb.toNat : Int))).cell? ⟨w.heap.size, 5, none⟩ = some (.string ⟨p.d.toArray⟩) := hi5.fld (k := 5) rfl
  rw [HX.out] at c5
  have c14 := (hi5.byte 14 (by rw [HN5.out]; omega)).1
  have f14 := (hi5.byte 14 (by rw [HN5.out]; omega)).2
  have HI6 := Lib.hid (hi5.set 14 nb)
  clear c2 c12 f12 HA3 HI3 hb hi4 hi5
  go_wp2_with fail
  revert HI6
  generalize World.setCell _ _ _ = W6
  intro HI6
  clear c13 f13 c5 c14 f14
  obtain ⟨l6, hl6⟩ : ∃ l, ((l2.set 12 kb).set 13 mb).set 14 nb = l := ⟨_, rfl⟩
  have hn6 : l6.length = 64 := by rw [← hl6, List.length_set]; exact HN5.out
  rw [hl6] at HI6
  have HL6 := Lib.hid hl6
  have HN6 := Lib.hid hn6
  clear hl6 hn6
  refine mf_start (fun w' => ∃ l, LyI w p g l w') (fun _ => false) ⟨_, HI6.out.drew⟩ fun hS => ?_
  refine mf_yield (i := 0) (d := 31) (.slice ((some ⟨g, 15, none⟩)) 49 49) rfl rfl (by kernel_rfl) (by kernel_rfl) (by kernel_rfl) (by kernel_rfl) hS (y_cutl (j := 15) (by rfl) rfl rfl rfl Try.underlying27 (by kernel_rfl) rfl (by omega)) ?_
  simp only [Act.put, List.setIfInBounds_toArray, List.set_cons_zero, List.set_cons_succ]
  refine mf_yield (i := 1) (d := 32) (.pointer (some ⟨w.heap.size, 5, none⟩)) rfl rfl (by kernel_rfl) (by kernel_rfl) (by kernel_rfl) (by kernel_rfl) hS (y_fieldO (by rfl) rfl rfl (fldp 5 (by omega)) (Nat.zero_add _)) ?_
  simp only [Act.put, List.setIfInBounds_toArray, List.set_cons_zero, List.set_cons_succ]
  refine mf_yield (i := 2) (d := 33) (.string ⟨p.d.toArray⟩) rfl rfl (by kernel_rfl) (by kernel_rfl) (by kernel_rfl) (by kernel_rfl) hS (y_cell1 (by rfl) rfl rfl Try.underlying9 rfl (fun w h => by obtain ⟨_, h⟩ := h; exact h.fld (k := 5) rfl)) ?_
  simp only [Act.put, List.setIfInBounds_toArray, List.set_cons_zero, List.set_cons_succ]
  refine mf_of (i := 3) rfl (by kernel_rfl) (by rfl) fun Q' hQ => ?_
  have h6a := HI6.out.drew
  have hd49 := HR.out.2.1
  refine wpList_copy_str rfl (.tmp 31) (.tmp 33) rfl rfl rfl h6a.2.2.2.2 (by omega) (by rw [HN6.out]; omega) ?_
  have HI7 := Lib.hid (h6a.row (ov l6 15 p.d))
  refine hQ _ _ (fun _ => ⟨_, HI7.out⟩) ?_
  show wpAnyF _ _ _ _ _ _ _ _ (Act.put _ (some 34) _) _
  simp only [Act.put, List.setIfInBounds_toArray, List.set_cons_zero, List.set_cons_succ]
  refine mf_done (by kernel_rfl) ?_
  clear hS hQ h6a
  clear Q'
  revert HI7
  generalize World.setRow _ _ _ = W7
  intro HI7
  obtain ⟨l7, hl7⟩ : ∃ l, (ov l6 15 p.d) = l := ⟨_, rfl⟩
  have hn7 : l7.length = 64 := by rw [← hl7, ov_len _ _ _ (by rw [HN6.out]; omega)]; exact HN6.out
  rw [hl7] at HI7
  have HL7 := Lib.hid hl7
  have HN7 := Lib.hid hn7
  clear hl7 hn7
  clear hd49
  go_wp2_with fail
  refine mf_start (fun w' => ∃ l, LyI w p g l w') (fun _ => false) ⟨_, HI7.out.drew⟩ fun hS => ?_
  refine mf_yield (i := 0) (d := 35) (.slice ((some ⟨g, 0, none⟩)) 4 64) rfl rfl (by kernel_rfl) (by kernel_rfl) (by kernel_rfl) (by kernel_rfl) hS (y_cuth (j := 4) (by rfl) rfl rfl rfl Try.underlying27 (by kernel_rfl) rfl (by omega)) ?_
  simp only [Act.put, List.setIfInBounds_toArray, List.set_cons_zero, List.set_cons_succ]
  refine mf_of (i := 1) rfl (by kernel_rfl) (by rfl) fun Q' hQ => ?_
  have h7a := HI7.out.drew
  refine wpList_load_w rfl 27 (.tmp 4) rfl _ rfl h7a.2.2.2.2 Try.underlying27 rfl (info_api (by rw [bl_size, HN7.out])) ?_
  refine hQ _ _ (fun _ => ⟨_, h7a⟩) ?_
  show wpAnyF _ _ _ _ _ _ _ _ (Act.put _ (some 36) _) _
  simp only [Act.put, List.setIfInBounds_toArray, List.set_cons_zero, List.set_cons_succ]
  clear hS hQ
  clear Q'
  refine mf_ready [2] (by kernel_rfl) (by simp) (af_call (i := 2) (d := 37) (R := fun v w' => v = .int .u32 (moreS 0 (l7.drop 4) : Nat) ∧ LyI w p g l7 w') #[.agg (bl l7)] rfl rfl (by rfl) rfl enter_sum (by kernel_rfl) ((sum_as l7 (bl l7) (byts_bl HN7.out) _).mono fun e w' h => ⟨_, h.1, rfl, h7a.next h.2⟩) (fun v w' h => ⟨_, h.2⟩) ?_ AllReadyF.nil)
  rintro v w7b ⟨rfl, h7b⟩ hS7
  clear hS7 h7a
  simp only [Act.put, List.setIfInBounds_toArray, List.set_cons_zero, List.set_cons_succ]
  refine mf_ready [3] (by kernel_rfl) (by simp) (af_call (i := 3) (d := 38) (R := fun v w' => v = .string ⟨(fourL (moreS 0 (l7.drop 4))).toArray⟩ ∧ LyI w p g l7 w') #[.int .u32 (moreS 0 (l7.drop 4) : Nat)] rfl rfl (by rfl) rfl enter_four (by kernel_rfl) ((four_as (moreS 0 (l7.drop 4)) _ (moreS_lt _ _)).mono fun e w' h => by obtain ⟨v, h1, h2, h3⟩ := h; exact ⟨v, h1, h2, h7b.next h3⟩) (fun v w' h => ⟨_, h.2⟩) ?_ AllReadyF.nil)
  rintro v w7c ⟨rfl, h7a⟩ hS7
  clear hS7 h7b
  simp only [Act.put, List.setIfInBounds_toArray, List.set_cons_zero, List.set_cons_succ]
  refine mf_of (i := 4) rfl (by kernel_rfl) (by rfl) fun Q' hQ => ?_
  refine wpList_copy_str rfl (.tmp 35) (.tmp 38) rfl rfl rfl h7a.2.2.2.2 (by rw [fourL_length]; omega) (by rw [fourL_length, HN7.out]; omega) ?_
  have HI8 := Lib.hid (h7a.row (ov l7 0 (fourL (moreS 0 (l7.drop 4)))))
  refine hQ _ _ (fun _ => ⟨_, HI8.out⟩) ?_
  show wpAnyF _ _ _ _ _ _ _ _ (Act.put _ (some 39) _) _
  simp only [Act.put, List.setIfInBounds_toArray, List.set_cons_zero, List.set_cons_succ]
  refine mf_done (by kernel_rfl) ?_
  clear hQ h7a
  clear Q'
  revert HI8
  generalize World.setRow _ _ _ = W8
  intro HI8
  obtain ⟨l8, hl8⟩ : ∃ l, (ov l7 0 (fourL (moreS 0 (l7.drop 4)))) = l := ⟨_, rfl⟩
  have hn8 : l8.length = 64 := by rw [← hl8, ov_len _ _ _ (by rw [fourL_length, HN7.out]; omega)]; exact HN7.out
  rw [hl8] at HI8
  have HL8 := Lib.hid hl8
  have HN8 := Lib.hid hn8
  clear hl8 hn8
  have HL := Lib.hid (show l8 = p.lay from lay_is HR.out HL1.out HL2.out HKB.out HMB.out HNB.out HL6.out HL7.out HL8.out)
  have HF := Lib.hid HI8.out.2.2.2.2
  have HG := Lib.hid (HZL.out)
  have HZ := Lib.hid HI8.out.2.2.2.1
  go_wp2_with (first
    | (refine wpList_load_w rfl 27 _ rfl _ rfl HF.out Try.underlying27 rfl (info_api (by rw [bl_size, HN8.out])) ?_)
    | (refine wpList_store_row rfl 27 _ _ rfl (w.heap.size + 1) (bl l8) rfl rfl _ _ HZ.out (info_api (by rw [bl_size, HN8.out])) (by rw [bl_size, bl_size, HN8.out, HZL.out]) (bl_one _) ?_)
    | fail)
  rw [← HL.out]
  exact bodyPost_ret (v := .tuple #[.agg (bl l8), .int .i64 0]) (results_any_int rfl _ _ (w.heap.size + 1) (bl l8) _ rfl rfl HZ.out.setRow Try.underlying27 rfl (info_api (by rw [bl_size, HN8.out]))) rfl ⟨rfl, below_setRow' HI8.out.1 (by omega) _⟩

theorem built_api : Try.prog.built 27 [] = some (bl z64) := by kernel_rfl
theorem lay_no (p : Pv) (w : World) (hd : p.d.length ≤ maxLen) (hr : ¬ p.right) :
    Calls Try.prog 9 #[.agg (pgV p)] w fun e w' => e = .returned (.tuple #[.agg (bl z64), .int .i64 1]) ∧ Below w.heap.size w w' := by
  have hR := Lib.hid fun w => right_any p w hd
  rw [decide_eq_false hr] at hR
  clear hr hd
  have hZS : (bl z64).size = 64 := by rw [bl_size, z64_len]
  obtain ⟨P, hP⟩ : ∃ P, pgV p = P := ⟨_, rfl⟩
  have hb := built_api
  have hone := bl_one z64
  have hz := zero_api
  generalize bl z64 = Z at *
  rw [hP] at hR ⊢
  have HP := Lib.hid hP
  clear hP
  have HZS := Lib.hid hZS
  have HON := Lib.hid hone
  clear hZS hone
  have hA0 : At ((w.alloc (.cells P 31)).alloc (.cells Z 27)) w.heap.size P 31 := (At.new w P _).alloc _
  have hA1 := Lib.hid (show At ((w.alloc (.cells P 31)).alloc (.cells Z 27)) (w.heap.size + 1) Z 27 by
    have := At.new (w.alloc (.cells P 31)) Z 27
    rw [World.size_alloc] at this
    exact this)
  have hB1 := Lib.hid (show Below w.heap.size w ((w.alloc (.cells P 31)).alloc (.cells Z 27)) from ((Below.refl _ _).alloc (Nat.le_refl _) _).alloc (by simp) _)
  go_enter Try.func9, Try.ntmps9
  go_wp2_with (first
    | (refine wpList_load_w rfl 31 _ rfl _ rfl hA0 Try.underlying31 rfl (by rw [← HP.out]; exact info_pg rfl) ?_)
    | fail)
  refine (hR.out _).mono ?_
  rintro e w1 ⟨rfl, hb1⟩
  have HB := Lib.hid (below_trans hB1.out hb1 hB1.out.size)
  have HA := Lib.hid (hA1.out.below hb1 hA1.out.lt)
  clear hb1 hA0 hA1 hB1
  go_wp2_with (first
    | (refine wpList_build_parts (by rfl) 27 [] rfl _ rfl hb ?_)
    | (refine wpList_store_row rfl 27 _ _ rfl (w.heap.size + 1) Z rfl rfl _ _ HA.out (info_api HZS.out) rfl HON.out ?_)
    | fail)
  exact bodyPost_ret (v := .tuple #[.agg Z, .int .i64 1]) (results_any_int rfl _ _ (w.heap.size + 1) Z _ rfl rfl HA.out.setRow Try.underlying27 rfl (info_api HZS.out)) rfl ⟨rfl, below_setRow' HB.out (by omega) _⟩
end Go.Proofs.Yteahbdnnieaaaaa.Pa
