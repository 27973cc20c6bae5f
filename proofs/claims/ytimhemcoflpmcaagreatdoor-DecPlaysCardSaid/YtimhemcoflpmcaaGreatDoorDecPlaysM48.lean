/- Texts of the walk, one behind the other. -/
import Derived.Test.YtimhemcoflpmcaaGreatDoorDecPlaysM43
import Derived.Test.YtimhemcoflpmcaaGreatDoorDecPlaysM9

section
/- A packet of zero bytes: nothing is taken of it; a text of zero bytes; the statements' awake. -/
set_option maxRecDepth 100000
set_option linter.unusedVariables false
namespace Go.Proofs.YtimhemcoflpmcaaGreatDoor.De
open Go.RowKit Go.Proofs.YtimhemcoflpmcaaGreatDoor.Row Go.Proofs.YtimhemcoflpmcaaGreatDoor.Rg Go.Proofs.YtimhemcoflpmcaaGreatDoor.Sta

def zs (n : Nat) : List UInt8 := List.replicate n 0
theorem zs_len (n : Nat) : (zs n).length = n := List.length_replicate
theorem byteF_zs (n i : Nat) : byteF (zs n) i = 0 := by
  unfold byteF zs
  rw [List.getD_eq_getElem?_getD, List.getElem?_replicate]
  split <;> rfl
theorem feed_zero {f : Nat → Nat} (h : ∀ i, f i = 0) : ∀ k i, feed f i k 0 = 0
  | 0, _ => rfl
  | k + 1, i => by rw [feed, h]; exact feed_zero h k (i + 1)
theorem cl_zero : (Lp.cl 0).s = 0 := by decide +kernel
theorem lv_zero {d : Dt} (h : d.c = 0) : Lp.lv d = 0 := by
  have e : d.place 32768 = 0 := by unfold Dt.place; rw [h, Nat.zero_div]; omega
  unfold Lp.lv
  rw [e]
  decide +kernel
theorem dL_zero {f : Nat → Nat} (h : ∀ i, f i = 0) : ∀ b, (dL f b).c = 0
  | 0 => feed_zero h 4 0
  | b + 1 => by
    have ih := dL_zero h b
    show ((dL f b).take f (Lp.cl (Lp.lv (dL f b)))).c = 0
    rw [lv_zero ih]
    show feed f _ _ (((dL f b).c + 4294967296 - (dL f b).r / (Lp.cl 0).t * (Lp.cl 0).s) % 4294967296) = 0
    rw [ih, cl_zero, Nat.mul_zero]
    exact feed_zero h _ _
theorem lB_zero {f : Nat → Nat} (h : ∀ i, f i = 0) {L : Nat → Int} (hL : Sp.okL L) (b : Nat) (hb : b < 4) : lB f L b = L b := by
  have := hL b hb
  unfold lB br
  rw [lv_zero (dL_zero h b)]
  omega
theorem lB_none {f : Nat → Nat} (h : ∀ i, f i = 0) : lB f (fun _ => 0) = fun _ => 0 := funext fun b => by
  unfold lB br
  rw [lv_zero (dL_zero h b)]
  rfl
theorem kS_none {f : Nat → Nat} (h : ∀ i, f i = 0) (n b : Nat) : kS f (fun _ => 0) n b = 0 := by
  unfold kS
  rw [lB_none h]
  obtain ⟨_, g⟩ := Sp.given_fin (fun _ => 0) (rmS_bd f n).1
  exact g.none b rfl
theorem wB_none {f : Nat → Nat} (h : ∀ i, f i = 0) (n : Nat) : wB f (fun _ => 0) n = fun _ => 0 := by
  have k := kS_none h n
  unfold wB
  rw [wW, if_pos (k 3), wW, if_pos (k 2), wW, if_pos (k 1), wW, if_pos (k 0), wW]

theorem size_zs {n : Nat} {B : ByteArray} (h : ⟨(zs n).toArray⟩ = B) : B.size = n := by rw [← h]; exact zs_len n
/-- Nothing is heard of zero bytes behind the zero state. -/
theorem decode_zero {T : Array Value} {B : ByteArray} {n : Nat} {R Q : Array Value} (hT : IsRow 38 (fun _ => 0) T) (hB : ⟨(zs n).toArray⟩ = B) (h : 10 ≤ n ∧ n ≤ 32) (hR : IsRow 16 (fun _ => 0) R) (hQ : IsRow 38 (fun _ => 0) Q) (w : World) (hTab : Lv.Tab w) :
    Calls Tryz.prog 8 #[.agg T, .string B] w fun e w' => e = .returned (.tuple #[.agg R, .agg Q, .int .i64 0]) ∧ Below w.heap.size w w' := by
  refine (decode_yes T _ B (zs n) n w hT hB (size_zs hB) h rt_zero hTab).mono ?_
  rintro e w' ⟨⟨R', Q', rfl, hR', hQ'⟩, hb⟩
  have z := byteF_zs n
  have e1 : wB (byteF (zs n)) (fun i => (fun _ => (0 : Int)) (17 + i)) n = fun _ => 0 := wB_none z n
  have e2 : lB (byteF (zs n)) (fun i => (fun _ => (0 : Int)) (17 + i)) = fun _ => 0 := lB_none z
  unfold soD at hR'
  unfold nxD at hQ'
  rw [e1] at hR'
  rw [e1, e2] at hQ'
  obtain rfl := hR'.eq hR fun k hk => so_zero k hk
  obtain rfl := hQ'.eq hQ fun k hk => nx_zero k hk
  exact ⟨rfl, hb⟩
theorem decode_short {T : Array Value} {f : Nat → Int} {B : ByteArray} {n : Nat} {R Q : Array Value} (hT : IsRow 38 f T) (hB : B.size = n) (h : ¬ (10 ≤ n ∧ n ≤ 32)) (hm : n ≤ maxLen) (hR : IsRow 16 (fun _ => 0) R) (hQ : IsRow 38 (fun _ => 0) Q) (w : World) (hTab : Lv.Tab w) :
    Calls Tryz.prog 8 #[.agg T, .string B] w fun e w' => e = .returned (.tuple #[.agg R, .agg Q, .int .i64 10]) ∧ Below w.heap.size w w' := by
  refine (decode_size T f B n w hT hB h hm hTab).mono ?_
  rintro e w' ⟨⟨R', Q', rfl, hR', hQ'⟩, hb⟩
  obtain rfl := hR'.eq hR fun _ _ => rfl
  obtain rfl := hQ'.eq hQ fun _ _ => rfl
  exact ⟨rfl, hb⟩

theorem info_u8' : (Tryz.prog.info? 5).map (fun i => (i.zero, i.size, i.bytes)) = some (some (.int .u8 0), 1, 1) := by kernel_rfl
theorem made_n (n : Nat) (W : World) : TxtAt n (W.alloc (.cells (madeCells #[.int .u8 0] n) 5)) W.heap.size (zs n) := by
  refine ⟨by rw [zs_len]; exact Nat.le_refl _, _, At.new _ _ _, by simp [madeCells], fun i c hc => ?_⟩
  unfold zs at hc
  rw [List.getElem?_replicate] at hc
  split at hc
  · rename_i hi
    injection hc with hc
    subst hc
    simp [madeCells, hi]
    simp [Nat.mod_one]
  · cases hc
/-- 'string(make([]byte, n))'. -/
theorem text_n (n : Nat) (z : Int) (hz : (n : Int) = z) (hn : n ≤ 1000) : ∃ (C : Array Value) (B : ByteArray), ⟨(zs n).toArray⟩ = B ∧
    (∀ (kl kc : IntKind) (w : World), (Instr.makeSlice 43 (.int kl z) (.int kc z)).run Tryz.prog w = .ok (.slice (some ⟨w.heap.size, 0, none⟩) n n) (w.alloc (.cells C 5))) ∧
    (∀ W : World, (convert 43 9 (.slice (some ⟨W.heap.size, 0, none⟩) n n)).run Tryz.prog (W.alloc (.cells C 5)) = .ok (.string B) (W.alloc (.cells C 5))) := by
  subst hz
  exact ⟨_, _, rfl, fun kl kc => run_make_row' (P := Tryz.prog) 43 5 (.int .u8 0) 1 Tryz.underlying43 info_u8' rfl kl kc n (by omega) (by omega), fun W => conv_txt (c := n) (made_n n W) (zs_len n)⟩

set_option maxHeartbeats 1000000 in
theorem awake_as (w : World) (hT : Lv.Tab w) : Calls Tryz.prog 4 #[] w fun e w' => e = .returned (.bool true) ∧ Below w.heap.size w w' := by
  obtain ⟨Zp, hZp, _, hzp, hip⟩ := zero_p
  obtain ⟨Zb, hZb, _, hzb, hib⟩ := zero_b
  obtain ⟨E, hE, bE⟩ := built_0 isSt_p
  obtain ⟨D, hD, bD⟩ := built_b
  obtain ⟨C, B, hB, hmk, hcv⟩ := text_n 10 10 rfl (by omega)
  obtain ⟨C', B', hB', hmk', hcv'⟩ := text_n 9 9 rfl (by omega)
  have HDZ := Lib.hid (fun w hT => decode_zero hE hB (by omega) hD hE w hT)
  have HDS := Lib.hid (fun w hT => decode_short hE (size_zs hB') (by omega) (by unfold maxLen; omega) hD hE w hT)
  have HE := Lib.hid hE
  have HBE := Lib.hid bE
  have HD := Lib.hid hD
  have HBD := Lib.hid bD
  have HIP := Lib.hid hip
  have HIB := Lib.hid hib
  have HZP := Lib.hid hZp.1
  have HZB := Lib.hid hZb.1
  have HT := Lib.hid hT
  have e1 := rows_eq hD hD (fun _ _ => rfl) Tryz.underlying27
  have e2 := st_eq_p hE hE (fun _ _ => rfl)
  have hmk1 := hmk .i64 .i64
  have hmk1' := hmk' .i64 .i64
  clear hE bE hD bD hip hib hZp hZb hB hB' hT hmk hmk'
  go_enter Tryz.func4, Tryz.ntmps4
  go_wp2_with (refine wpList_build_parts (by rfl) 35 [] rfl _ rfl HBE.out ?_)
  refine (HDZ.out _ (HT.out.next ((Below.refl _ _).alloc (Nat.le_refl _) _))).mono ?_
  rintro e w1 ⟨rfl, hb⟩
  have HB1 := Lib.hid (below_trans ((Below.refl w.heap.size w).alloc (Nat.le_refl _) (.cells C 5)) hb (by simp))
  have HT1 := Lib.hid (HT.out.next HB1.out)
  have HU := Lib.hid (Duo.start (Below.refl w1.heap.size w1) Zb Zp 27 35)
  clear hb HDZ
  go_wp2_with (first
    | (refine wpList_store_row rfl 27 _ _ rfl w1.heap.size D rfl rfl _ _ HU.out.2.2.1 (HIB.out _ HD.out.1) (by rw [HZB.out, HD.out.1]) HD.out.2.1 ?_
       replace HU := Lib.hid (HU.out.set1 D)
       revert HU
       generalize World.setRow _ _ _ = W4
       intro HU)
    | (refine wpList_store_row rfl 35 _ _ rfl (w1.heap.size + 1) E rfl rfl _ _ HU.out.2.2.2 (HIP.out _ HE.out.1) (by rw [HZP.out, HE.out.1]) HE.out.2.1 ?_
       replace HU := Lib.hid (HU.out.set2 E)
       have HB2 := Lib.hid (below_trans HB1.out HU.out.1 HB1.out.size)
       have HT2 := Lib.hid (HT1.out.next HU.out.1)
       clear HB1 HT1
       revert HU HB2 HT2
       generalize World.setRow _ _ _ = W5
       intro HU HB2 HT2)
    | refine wpList_build_parts (by rfl) 35 [] rfl _ rfl HBE.out ?_)
  refine (HDS.out _ (HT2.out.next ((Below.refl _ _).alloc (Nat.le_refl _) _))).mono ?_
  rintro e w6 ⟨rfl, hb⟩
  have hb2 := below_trans ((Below.refl W5.heap.size W5).alloc (Nat.le_refl _) (.cells C' 5)) hb (by simp)
  have HB6 := Lib.hid (below_trans HB2.out hb2 HB2.out.size)
  have HU6 := Lib.hid (HU.out.next hb2)
  have HX := Lib.hid (Duo.start (Below.refl w6.heap.size w6) Zb Zp 27 35)
  clear hb hb2 HDS HB2 HT2 HU
  go_wp2_with (first
    | (refine wpList_store_row rfl 27 _ _ rfl w6.heap.size D rfl rfl _ _ HX.out.2.2.1 (HIB.out _ HD.out.1) (by rw [HZB.out, HD.out.1]) HD.out.2.1 ?_
       replace HX := Lib.hid (HX.out.set1 D)
       revert HX
       generalize World.setRow _ _ _ = W7
       intro HX)
    | (refine wpList_store_row rfl 35 _ _ rfl (w6.heap.size + 1) E rfl rfl _ _ HX.out.2.2.2 (HIP.out _ HE.out.1) (by rw [HZP.out, HE.out.1]) HE.out.2.1 ?_
       replace HX := Lib.hid (HX.out.set2 E)
       have HB8 := Lib.hid (below_trans HB6.out HX.out.1 HB6.out.size)
       have HU8 := Lib.hid (HU6.out.next HX.out.1)
       clear HB6 HU6
       revert HX HB8 HU8
       generalize World.setRow _ _ _ = W8
       intro HX HB8 HU8)
    | refine wpList_load_all (by rfl) 27 _ rfl w1.heap.size rfl HD.out HU8.out.2.2.1 Tryz.underlying27 rfl HIB.out ?_
    | refine wpList_load_all (by rfl) 35 _ rfl (w1.heap.size + 1) rfl HE.out HU8.out.2.2.2 Tryz.underlying35 rfl HIP.out ?_
    | refine wpList_build_parts (by rfl) 35 [] rfl _ rfl HBE.out ?_
    | refine wpList_build_parts (by rfl) 27 [] rfl _ rfl HBD.out ?_)
  go_ret
  exact ⟨rfl, HB8.out⟩
end Go.Proofs.YtimhemcoflpmcaaGreatDoor.De
end
