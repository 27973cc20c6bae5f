/- Texts of the walk, one behind the other. -/
import Derived.Test.YtimhemcoflpmcaaDoorDecZerosM44
import Derived.Test.YtimhemcoflpmcaaDoorDecZerosM19
import Derived.Test.YtimhemcoflpmcaaDoorDecZerosM5

section
/- DecZeros: the walk. -/
set_option maxRecDepth 100000
set_option linter.unusedVariables false
namespace Go.Proofs.YtimhemcoflpmcaaDoor.De
open Go.RowKit Go.Proofs.YtimhemcoflpmcaaDoor.Row Go.Proofs.YtimhemcoflpmcaaDoor.Rg Go.Proofs.YtimhemcoflpmcaaDoor.Sta

theorem retP_as {fn : FuncId} {args : Array Value} {R Q : Array Value} {h g : Nat → Int} {z : Int} {w : World} (H : Calls Tryd.prog fn args w (RetP w h g z)) (hR : IsRow 4 h R) (hQ : IsRow 16 g Q) :
    Calls Tryd.prog fn args w fun e w' => e = .returned (.tuple #[.agg R, .agg Q, .int .i64 z]) ∧ Below w.heap.size w w' := by
  refine H.mono ?_
  rintro e w' ⟨⟨R', Q', rfl, hR', hQ'⟩, hb⟩
  obtain rfl := hR'.eq hR fun _ _ => rfl
  obtain rfl := hQ'.eq hQ fun _ _ => rfl
  exact ⟨rfl, hb⟩
theorem enter_parts (args : Array Value) (w : World) : (callFunc 9 args).run Tryd.prog w = .ok (.enter 9 args) w := run_enter Tryd.func9 (by kernel_rfl) rfl args w
theorem run_mk {o : Oper} {a : Act} {w w' : World} {t : TypeId} {y z : Operand} {u v : Value} (ho : o.op = .makeSlice t y z) (hy : a.eval y = u) (hz : a.eval z = u) (hm : (Instr.makeSlice t u u).run Tryd.prog w = .ok v w') : (execOp a.eval o).run Tryd.prog w = .ok (.value v) w' := by
  unfold execOp; simp only [ho, hy, hz, Sem.run_bind, hm, Result.andThen_ok, Sem.run_pure]
theorem run_cv {o : Oper} {a : Act} {w : World} {t t' : TypeId} {y : Operand} {u v : Value} (ho : o.op = .convert t t' y) (hy : a.eval y = u) (hm : (convert t t' u).run Tryd.prog w = .ok v w) : (execOp a.eval o).run Tryd.prog w = .ok (.value v) w := by
  unfold execOp; simp only [ho, hy, Sem.run_bind, hm, Result.andThen_ok, Sem.run_pure]

theorem mk_n (n : Nat) (z : Int) (hz : (n : Int) = z) (hn : n ≤ 1000) (kl kc : IntKind) (w : World) : (Instr.makeSlice 38 (.int kl z) (.int kc z)).run Tryd.prog w = .ok (.slice (some ⟨w.heap.size, 0, none⟩) n n) (w.alloc (.cells (madeCells #[.int .u8 0] n) 5)) := by
  subst hz
  exact run_make_row' (P := Tryd.prog) 38 5 (.int .u8 0) 1 Tryd.underlying38 info_u8' rfl kl kc n (by omega) (by omega) w
theorem parts_zero {B : ByteArray} {n : Nat} {G D : Array Value} (hB : ⟨(zs n).toArray⟩ = B) (h : 10 ≤ n ∧ n ≤ 32) (hG : IsRow 4 (fun _ => 0) G) (hD : IsRow 16 (fun _ => 0) D) (w : World) (hT : Lv.Tab w) :
    Calls Tryd.prog 9 #[.agg G, .string B] w fun e w' => e = .returned (.tuple #[.agg G, .agg D, .int .i64 0]) ∧ Below w.heap.size w w' := by
  have H := parts_yes G (fun _ => 0) B (zs n) n w hG hB (size_zs hB) h (fun i _ => by dsimp only; omega) hT
  have z := byteF_zs n
  rw [lB_none z, wB_none z] at H
  exact retP_as H hG hD
theorem parts_same {B : ByteArray} {n : Nat} {T : Array Value} {L : Nat → Int} (hB : ⟨(zs n).toArray⟩ = B) (h : 10 ≤ n ∧ n ≤ 32) (hT : IsRow 4 L T) (hL : Sp.okL L) : ∃ U u, IsRow 16 u U ∧ ∀ w, Lv.Tab w →
    Calls Tryd.prog 9 #[.agg T, .string B] w fun e w' => e = .returned (.tuple #[.agg T, .agg U, .int .i64 0]) ∧ Below w.heap.size w w' :=
  ⟨_, _, isRow _ _, fun w hTab => retP_as (parts_yes T L B (zs n) n w hT hB (size_zs hB) h hL hTab) (hT.ext fun i hi => (lB_zero (byteF_zs n) hL i hi).symm) (isRow _ _)⟩
theorem One.set {w w1 : World} {T : Array Value} {t : TypeId} (h : One w T t w1) (i : Nat) (v : Value) : One w (T.setIfInBounds i v) t (w1.setCell ⟨w.heap.size, i, none⟩ v) := ⟨h.1.setCell (by dsimp only; omega) _, h.2.setCell⟩

/-- What the operations of 'l, _, e := dec.Parts(levels, string(make([]byte, n)))' yield. -/
def YZ (W : World) (n : Nat) (B : ByteArray) (R U Z4 Zb : Array Value) : Nat → Value → World → Prop
  | 2, v, w => ∃ b, v = .slice (some ⟨b, 0, none⟩) n n ∧ TxtAt n w b (zs n)
  | 3, v, _ => v = .string B
  | 4, v, _ => v = .tuple #[.agg R, .agg U, .int .i64 0]
  | 5, v, _ => v = .tuple #[.agg R, .agg U, .int .i64 0]
  | 6, v, _ => v = .agg R
  | 7, v, _ => v = .agg U
  | 8, v, _ => v = .int .i64 0
  | 9, v, w => ∃ b, v = .pointer (some ⟨b, 0, none⟩) ∧ At w b Z4 23 ∧ W.heap.size ≤ b
  | 10, v, w => ∃ b, v = .pointer (some ⟨b, 0, none⟩) ∧ At w b Zb 27 ∧ W.heap.size ≤ b
  | _, _, _ => False
theorem YZ.mono {W : World} {n : Nat} {B : ByteArray} {R U Z4 Zb : Array Value} : ∀ i ∈ [2, 3, 4, 5, 6, 7, 8, 9, 10], ∀ v w w', YZ W n B R U Z4 Zb i v w → Below w.heap.size w w' → YZ W n B R U Z4 Zb i v w' := by
  intro i hi v w w' h hb
  simp only [List.mem_cons, List.not_mem_nil, or_false] at hi
  rcases hi with rfl | rfl | rfl | rfl | rfl | rfl | rfl | rfl | rfl
  · obtain ⟨b, e, h⟩ := h; exact ⟨b, e, h.below hb⟩
  · exact h
  · exact h
  · exact h
  · exact h
  · exact h
  · exact h
  · obtain ⟨b, e, h, hW⟩ := h; exact ⟨b, e, h.below hb h.lt, hW⟩
  · obtain ⟨b, e, h, hW⟩ := h; exact ⟨b, e, h.below hb h.lt, hW⟩

set_option maxHeartbeats 4000000 in
theorem decZeros_nat (T : Array Value) (f : Nat → Int) (z m : Nat) (w : World) (hT : IsRow 4 f T) (hz : z ≤ 255) (hm : z % 23 = m) (hTab : Lv.Tab w) :
    Calls Tryd.prog 4 #[.agg T, .int .u8 z] w fun e w' => e = .returned (.bool true) ∧ Below w.heap.size w w' := by
  obtain ⟨Zb, hZb, _, hzb, hib⟩ := zero_b
  obtain ⟨Z4, hZ4, _, hz4, hi4⟩ := zero_4
  obtain ⟨D, hD, bD⟩ := built_b
  obtain ⟨G, hG, bG⟩ := built_4r
  have hm23 : m < 23 := by omega
  obtain ⟨n, hn⟩ : ∃ n, 10 + m = n := ⟨_, rfl⟩
  have hnr : 10 ≤ n ∧ n ≤ 32 := by omega
  obtain ⟨C, B, hB, hmk, hcv⟩ := text_n n (10 + (m : Int)) (by omega) (by omega)
  have HMK := Lib.hid (mk_n n (10 + (m : Int)) (by omega) (by omega) .i64 .i64)
  have HPZ := Lib.hid (fun w hT => parts_zero hB hnr hG hD w hT)
  have HPS := Lib.hid (fun (T : Array Value) (L : Nat → Int) hT hL => parts_same (T := T) (L := L) hB hnr hT hL)
  have HB := Lib.hid hB
  have HW := Lib.hid (One.start w T 23)
  have HTB := Lib.hid hTab
  have HT := Lib.hid (hT.ext (g := Sp.hs f 0) fun i _ => by unfold Sp.hs; rw [if_neg (by omega)])
  have HD := Lib.hid hD
  have HBD := Lib.hid bD
  have HG := Lib.hid hG
  have HBG := Lib.hid bG
  have HIB := Lib.hid hib
  have HI4 := Lib.hid hi4
  have HZ4 := Lib.hid hZ4.1
  have HZB := Lib.hid hZb.1
  have hmk1 := hmk .i64 .i64
  have t1 : (z : Int).tmod 23 = m := by rw [Int.tmod_eq_emod_of_nonneg (by omega)]; omega
  have t2 : (z : Int) % 23 = m := by omega
  have e1 := rows_eq hD hD (fun _ _ => rfl) Tryd.underlying27
  have e2 := rows_eq hG hG (fun _ _ => rfl) Tryd.underlying23
  clear hTab hT hD bD hG bG hib hi4 hZb hZ4 hm hmk hB
  go_enter Tryd.func4, Tryd.ntmps4
  go_wp2_with fail
  refine (awake_as _ (HTB.out.next HW.out.1)).mono ?_
  rintro e W1 ⟨rfl, hb⟩
  replace HW := Lib.hid (HW.out.next hb)
  clear hb
  go_wp2_with fail
  clear t1 t2 hz
  go_loopw [6] (fun i w' => ∃ (k : Nat) (T1 : Array Value), k ≤ 4 ∧ i = .int .i64 k ∧ Hid (One w T1 23 w') ∧ Hid (IsRow 4 (Sp.hs f k) T1)) (fun i _ => 4 - (intOf i).toNat)
  case atStart => exact ⟨0, T, by omega, rfl, HW, HT⟩
  case round =>
    obtain ⟨k, T1, hk, rfl, HS1, HT1⟩ := hrel
    clear HW HT
    by_cases hlt : k < 4
    · have c0 := HT1.out.cell HS1.out.2 k hlt
      have f0 := HS1.out.2.frozen k
      rw [Sp.hs_at] at c0
      have HN := Lib.hid (Sp.hs_next f k)
      obtain ⟨x, hx⟩ : ∃ x, f k = x := ⟨_, rfl⟩
      rw [hx] at c0 HN
      have HX := Lib.hid (show x % 32 % 21 = Sp.hl x from rfl)
      have ha := Sp.and31 x
      have k0 : (0 : Int) ≤ (k : Int) := by omega
      have k1 : (k : Int) < 4 := by omega
      clear hx
      go_wp2_with fail
      go_roundw
      case rel => exact ⟨k + 1, _, by omega, by go_num, Lib.hid (De.One.set HS1.out _ _), Lib.hid ((HT1.out.set (k := k) (Sp.hl x) hlt).ext fun i _ => HN.out i)⟩
      case measure => simp [intOf]; omega
    · obtain rfl : k = 4 := by omega
      have HL := Lib.hid (HT1.out.ext (g := fun i => Sp.hl (f i)) fun i hi => by unfold Sp.hs; rw [if_pos hi])
      obtain ⟨U, u, hU, hP⟩ := HPS.out T1 _ HL.out (Sp.hl_ok f)
      have HU := Lib.hid hU
      have HP := Lib.hid hP
      have HI1 := Lib.hid (HI4.out T1 HL.out.1)
      have e3 := rows_eq HL.out HL.out (fun _ _ => rfl) Tryd.underlying23
      have HIU := Lib.hid (HIB.out U HU.out.1)
      clear hU hP HPS HT1 hk hlt
      go_wp2_with fail
      refine mv_start fun hS => ?_
      refine mv_yield (i := 0) (d := 31) (.agg T1) rfl rfl (by kernel_rfl) (by kernel_rfl) (by kernel_rfl) hS (y_load (by rfl) rfl rfl HS1.out.2 Tryd.underlying23 HI1.out) ?_
      simp only [Act.put, List.setIfInBounds_toArray, List.set_cons_zero, List.set_cons_succ]
      refine mv_yield (i := 1) (d := 32) (.int .i64 (10 + (m : Int))) rfl rfl (by kernel_rfl) (by kernel_rfl) (by kernel_rfl) hS (y_run (by rfl) fun _ => by rfl) ?_
      simp only [Act.put, List.setIfInBounds_toArray, List.set_cons_zero, List.set_cons_succ]
      refine parG0 (fuel := 3) [2, 3, 4, 5, 6, 7, 8, 9, 10] [2, 3, 4, 5, 6, 9, 10] [7, 8] (YZ wr n B T1 U Z4 Zb) #[true, true, true, true, true, true, true, true, true, true, true, false, false, false] _ rfl (by decide) (by decide) (by decide) (by decide) rfl (by kernel_rfl) (by kernel_rfl) (by kernel_rfl) (by kernel_rfl) (by kernel_rfl) (by kernel_rfl) (by kernel_rfl) (by kernel_rfl) hS YZ.mono ?_ ?_ ?_
      · intro i hi
        simp only [List.mem_cons, List.not_mem_nil, or_false] at hi
        rcases hi with rfl | rfl | rfl | rfl | rfl | rfl | rfl | rfl | rfl
        · exact ⟨_, rfl, fun D val w hS hD hY => .inl ⟨_, _, run_mk rfl (Eq.trans (part_other _ _ (by kernel_rfl)) rfl) (Eq.trans (part_other _ _ (by kernel_rfl)) rfl) (HMK.out w), (Below.refl _ _).alloc (Nat.le_refl _) _, ⟨_, rfl, made_n n w⟩⟩⟩
        · exact ⟨_, rfl, fun D val w hS hD hY => by
            obtain ⟨b, e, h⟩ := hY 2 (by decide) (hD 2 (by decide +kernel) (by decide))
            exact .inl ⟨_, w, run_cv rfl (Eq.trans (part_eval 2 rfl (hD 2 (by decide +kernel) (by decide)) _ _ rfl (by kernel_rfl) (by kernel_rfl)) e) (conv_txt (c := n) h (zs_len n)), Below.refl _ _, congrArg Value.string HB.out⟩⟩
        · exact ⟨_, rfl, fun D val w hS hD hY => (step_call #[.agg T1, .string B] rfl enter_parts (map2 (Eq.trans (part_other _ _ (by kernel_rfl)) rfl) (Eq.trans (part_eval 3 rfl (hD 3 (by decide +kernel) (by decide)) _ _ rfl (by kernel_rfl) (by kernel_rfl)) (hY 3 (by decide) (hD 3 (by decide +kernel) (by decide))))) (HP.out w (HTB.out.next (below_trans HS1.out.1 hS HS1.out.1.size)))).mono fun _ _ h => h⟩
        · exact ⟨_, rfl, fun D val w hS hD hY => .inl ⟨_, w, run_move rfl (Eq.trans (part_eval 4 rfl (hD 4 (by decide +kernel) (by decide)) _ _ rfl (by kernel_rfl) (by kernel_rfl)) (hY 4 (by decide) (hD 4 (by decide +kernel) (by decide)))), Below.refl _ _, rfl⟩⟩
        · exact ⟨_, rfl, fun D val w hS hD hY => .inl ⟨_, w, run_extract rfl (Eq.trans (part_eval 5 rfl (hD 5 (by decide +kernel) (by decide)) _ _ rfl (by kernel_rfl) (by kernel_rfl)) (hY 5 (by decide) (hD 5 (by decide +kernel) (by decide)))) rfl, Below.refl _ _, rfl⟩⟩
        · exact ⟨_, rfl, fun D val w hS hD hY => .inl ⟨_, w, run_extract rfl (Eq.trans (part_eval 5 rfl (hD 5 (by decide +kernel) (by decide)) _ _ rfl (by kernel_rfl) (by kernel_rfl)) (hY 5 (by decide) (hD 5 (by decide +kernel) (by decide)))) rfl, Below.refl _ _, rfl⟩⟩
        · exact ⟨_, rfl, fun D val w hS hD hY => .inl ⟨_, w, run_extract rfl (Eq.trans (part_eval 5 rfl (hD 5 (by decide +kernel) (by decide)) _ _ rfl (by kernel_rfl) (by kernel_rfl)) (hY 5 (by decide) (hD 5 (by decide +kernel) (by decide)))) rfl, Below.refl _ _, rfl⟩⟩
        · exact ⟨_, rfl, fun D val w hS hD hY => (step_alloc rfl hz4).mono fun _ _ h => ⟨h.1, _, h.2.1, h.2.2, Below.size hS⟩⟩
        · exact ⟨_, rfl, fun D val w hS hD hY => (step_alloc rfl hzb).mono fun _ _ h => ⟨h.1, _, h.2.1, h.2.2, Below.size hS⟩⟩
      · intro x hx
        simp only [List.mem_cons, List.not_mem_nil, or_false] at hx
        rcases hx with rfl | rfl
        · exact ⟨_, rfl, fun D val w hS hD hY => ⟨_, y_of_run (by rfl) (fun w' => run_extract rfl (Eq.trans (part_eval 5 rfl (hD 5 (by decide +kernel) (by decide)) _ _ rfl (by kernel_rfl) (by kernel_rfl)) (hY 5 (by decide) (hD 5 (by decide +kernel) (by decide)))) rfl), rfl⟩⟩
        · exact ⟨_, rfl, fun D val w hS hD hY => ⟨_, y_of_run (by rfl) (fun w' => run_extract rfl (Eq.trans (part_eval 5 rfl (hD 5 (by decide +kernel) (by decide)) _ _ rfl (by kernel_rfl) (by kernel_rfl)) (hY 5 (by decide) (hD 5 (by decide +kernel) (by decide)))) rfl), rfl⟩⟩
      clear hS
      intro val w' hS hY
      have v3 : val 3 = .string B := hY 3 (by simp)
      have v4 : val 4 = .tuple #[.agg T1, .agg U, .int .i64 0] := hY 4 (by simp)
      have v5 : val 5 = .tuple #[.agg T1, .agg U, .int .i64 0] := hY 5 (by simp)
      have v6 : val 6 = .agg T1 := hY 6 (by simp)
      have v7 : val 7 = .agg U := hY 7 (by simp)
      have v8 : val 8 = .int .i64 0 := hY 8 (by simp)
      obtain ⟨b9, e9, a9, g9⟩ : ∃ b, val 9 = .pointer (some ⟨b, 0, none⟩) ∧ At w' b Z4 23 ∧ wr.heap.size ≤ b := hY 9 (by simp)
      obtain ⟨b10, e10, a10, g10⟩ : ∃ b, val 10 = .pointer (some ⟨b, 0, none⟩) ∧ At w' b Zb 27 ∧ wr.heap.size ≤ b := hY 10 (by simp)
      have n12 : b9 ≠ b10 := fun e => by
        subst e
        unfold At at a9 a10
        rw [a9] at a10
        injection a10 with a10
        injection a10 with a10
        have := HZ4.out; have := HZB.out; rw [a10] at *; omega
      show wpAnyH _ _ _ _ _ _ _ (Act.put (Act.put (Act.put (Act.put (Act.put (Act.put (Act.put (Act.put (Act.put _ (some 33) (val 2)) (some 34) (val 3)) (some 35) (val 4)) (some 30) (val 5)) (some 36) (val 6)) (some 37) (val 7)) (some 38) (val 8)) (some 7) (val 9)) (some 8) (val 10)) _
      rw [v3, v4, v5, v6, v7, v8, e9, e10]
      simp only [Act.put, List.setIfInBounds_toArray, List.set_cons_zero, List.set_cons_succ]
      generalize val 2 = x2
      clear hY v3 v4 v5 v6 v7 v8 e9 e10
      refine mv_store (i := 11) b9 T1 _ rfl rfl (by kernel_rfl) (by rfl) rfl rfl rfl a9 (by rw [HZ4.out, HL.out.1]) HL.out.2.1 HI1.out g9 hS (fun hS1 => ?_)
      refine mv_store (i := 12) b10 U _ rfl rfl (by kernel_rfl) (by rfl) rfl rfl rfl (a10.setRow_other (Ne.symm n12)) (by rw [HZB.out, HU.out.1]) HU.out.2.1 HIU.out g10 hS1 (fun hS2 => ?_)
      refine mv_yield (i := 13) (d := 9) (.int .i64 0) rfl rfl (by kernel_rfl) (by kernel_rfl) (by kernel_rfl) hS2 (y_run (by rfl) fun _ => by rfl) ?_
      simp only [Act.put, List.setIfInBounds_toArray, List.set_cons_zero, List.set_cons_succ]
      refine mv_done (by kernel_rfl) ?_
      have PX := Lib.hid ((a9.setRow (C := T1)).setRow_other (C := U) n12)
      have HS2 := Lib.hid (HS1.out.next hS2)
      clear hS hS1 hS2 a9 a10 g9 g10 n12 HP HS1 HU HIU
      revert PX HS2
      generalize World.setRow _ _ _ = W2
      intro PX HS2
      clear w'
      go_wp2_with (refine wpList_build_parts (by rfl) 23 [] rfl _ rfl HBG.out ?_)
      refine (HPZ.out _ ((HTB.out.next HS2.out.1).next ((Below.refl _ _).alloc (Nat.le_refl _) _))).mono ?_
      rintro e w3 ⟨rfl, hb⟩
      have hb2 := below_trans ((Below.refl W2.heap.size W2).alloc (Nat.le_refl _) (.cells C 5)) hb (by simp)
      replace PX := Lib.hid (PX.out.below hb2 PX.out.lt)
      replace HS2 := Lib.hid (HS2.out.next hb2)
      have HX := Lib.hid (Duo.start (Below.refl w3.heap.size w3) Z4 Zb 23 27)
      clear hb hb2 HPZ
      go_wp2_with (first
        | (refine wpList_store_row rfl 23 _ _ rfl w3.heap.size G rfl rfl _ _ HX.out.2.2.1 (HI4.out _ HG.out.1) (by rw [HZ4.out, HG.out.1]) HG.out.2.1 ?_
           replace HX := Lib.hid (HX.out.set1 G)
           revert HX
           generalize World.setRow _ _ _ = W7
           intro HX)
        | (refine wpList_store_row rfl 27 _ _ rfl (w3.heap.size + 1) D rfl rfl _ _ HX.out.2.2.2 (HIB.out _ HD.out.1) (by rw [HZB.out, HD.out.1]) HD.out.2.1 ?_
           replace HX := Lib.hid (HX.out.set2 D)
           have PY := Lib.hid (PX.out.below HX.out.1 PX.out.lt)
           have HS4 := Lib.hid (HS2.out.next HX.out.1)
           clear PX HS2
           revert HX PY HS4
           generalize World.setRow _ _ _ = W8
           intro HX PY HS4)
        | refine wpList_load_all (by rfl) 23 _ rfl b9 rfl HL.out PY.out Tryd.underlying23 rfl HI4.out ?_
        | refine wpList_load_all (by rfl) 23 _ rfl w.heap.size rfl HL.out HS4.out.2 Tryd.underlying23 rfl HI4.out ?_
        | refine wpList_load_all (by rfl) 23 _ rfl w3.heap.size rfl HG.out HX.out.2.2.1 Tryd.underlying23 rfl HI4.out ?_
        | refine wpList_load_all (by rfl) 27 _ rfl (w3.heap.size + 1) rfl HD.out HX.out.2.2.2 Tryd.underlying27 rfl HIB.out ?_
        | refine wpList_build_parts (by rfl) 23 [] rfl _ rfl HBG.out ?_
        | refine wpList_build_parts (by rfl) 27 [] rfl _ rfl HBD.out ?_)
      go_ret
      exact ⟨rfl, HS4.out.1⟩

theorem decZeros_walk (T : Array Value) (f : Nat → Int) (a : Int) (w : World) (hT : IsRow 4 f T) (h : (Lit.int .u8 a).wf = true) (hTab : Lv.Tab w) :
    Calls Tryd.prog 4 #[.agg T, .int .u8 a] w fun e w' => e = .returned (.bool true) ∧ Below w.heap.size w w' := by
  have hb : 0 ≤ a ∧ a ≤ 255 := by simpa [Lit.wf, IntKind.min, IntKind.max, IntKind.bits, IntKind.signed] using h
  obtain ⟨z, rfl⟩ : ∃ z : Nat, a = z := ⟨a.toNat, by omega⟩
  exact decZeros_nat T f z _ w hT (by omega) rfl hTab
end Go.Proofs.YtimhemcoflpmcaaDoor.De
end
