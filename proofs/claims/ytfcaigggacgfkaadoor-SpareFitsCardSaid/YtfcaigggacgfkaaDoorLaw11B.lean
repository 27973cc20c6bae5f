/- SpareFits: the walk. -/
import Derived.Test.YtfcaigggacgfkaaDoorSpI
import Derived.Test.YtfcaigggacgfkaaDoorRowMv
import Derived.Test.YtfcaigggacgfkaaDoorRowMvY
set_option maxRecDepth 100000
set_option linter.unusedVariables false
namespace Go.Proofs.YtfcaigggacgfkaaDoor.Sp
open Go.RowKit Go.Proofs.YtfcaigggacgfkaaDoor.Row

/-- Two rows of the statement's own. -/
def FtS (W : World) (bx bk : Nat) (X K : Array Value) (w' : World) : Prop := At w' bx X 22 ∧ At w' bk K 22 ∧ Below W.heap.size W w'
theorem FtS.next {W w1 w2 : World} {bx bk : Nat} {X K : Array Value} (h : FtS W bx bk X K w1) (hb : Below w1.heap.size w1 w2) : FtS W bx bk X K w2 :=
  ⟨h.1.below hb h.1.lt, h.2.1.below hb h.2.1.lt, below_trans h.2.2 hb h.2.2.size⟩
theorem FtS.drew {W w1 : World} {bx bk : Nat} {X K : Array Value} (h : FtS W bx bk X K w1) : FtS W bx bk X K w1.drew := ⟨h.1, h.2.1, h.2.2.drew⟩
theorem FtS.drewN {W w1 : World} {bx bk : Nat} {X K : Array Value} (h : FtS W bx bk X K w1) (n : Nat) : FtS W bx bk X K (w1.drewN n) := ⟨h.1, h.2.1, below_drewN h.2.2 n⟩

theorem enter_size (args : Array Value) (w : World) : (callFunc 13 args).run Tryd.prog w = .ok (.enter 13 args) w := run_enter Tryd.func13 (by kernel_rfl) rfl args w
theorem enter_bits (args : Array Value) (w : World) : (callFunc 12 args).run Tryd.prog w = .ok (.enter 12 args) w := run_enter Tryd.func12 (by kernel_rfl) rfl args w
section
variable {ops : Array Oper} {S : World → Prop} {a : Act} {oi : Oper}
theorem y_leq {t t' : TypeId} {y z : Operand} {m n : Int} {b : Bool} (hw : Region.wanted oi (yielded ops a.tmps) = true) (ho : oi.op = .binOp .leq t y z t') (hy : a.eval y = .int .i64 m) (hz : a.eval z = .int .i64 n) (hb : decide (m ≤ n) = b) : YieldsIf Tryd.prog ops S oi (.bool b) a :=
  y_run hw fun w => by
    unfold execOp
    simp only [ho, hy, hz]
    simp [go_sem, hb]
end

set_option maxHeartbeats 2000000 in
theorem spareFits_nat (T : Array Value) (f : Nat → Int) (bits : Nat) (W : World) (hR : IsRow 4 f T) (hb : bits ≤ 65535) (hT : Lv.Tab W) :
    Calls Tryd.prog 3 #[.agg T, .int .u16 bits] W fun e w' => e = .returned (.bool true) ∧ Below W.heap.size W w' := by
  obtain ⟨Z, hZ, hZ0, hz, hi⟩ := zero4
  obtain ⟨n, hn⟩ : ∃ n : Nat, (bits : Int) % 400 = n := ⟨bits % 400, by omega⟩
  have n4 : n < 400 := by omega
  have HI := Lib.hid hi
  have HTB := Lib.hid hT
  have HR := Lib.hid hR
  have HZS := Lib.hid hZ.1
  have HIT := Lib.hid (hi T hR.1)
  have HL := Lib.hid (hl_ok f)
  have H0 := Lib.hid (At.new W T 22)
  have HB0 := Lib.hid ((Below.refl W.heap.size W).alloc (Nat.le_refl _) (.cells T 22))
  clear hZ hZ0 hi hR hT
  go_enter Tryd.func3, Tryd.ntmps3
  go_wp2_with fail
  refine (awake_yes _ (HTB.out.next HB0.out)).mono ?_
  rintro e w1 ⟨rfl, h1⟩
  have H1 := Lib.hid (H0.out.below h1 H0.out.lt)
  have HB1 := Lib.hid (below_trans HB0.out h1 HB0.out.size)
  clear h1 H0 HB0
  go_wp2_with (refine wpList_load_row rfl 22 _ rfl W.heap.size rfl _ _ (0, 0) _ H1.out Tryd.underlying22 rfl HIT.out ?_)
  refine (held_as T f _ HR.out).mono ?_
  rintro e w2 ⟨⟨X, rfl, hX⟩, h2⟩
  have HX := Lib.hid hX
  have HIX := Lib.hid (HI.out X hX.1)
  have HB2 := Lib.hid (below_trans HB1.out h2 HB1.out.size)
  clear hX h2 H1 HB1
  go_wp2_with (first
    | refine wpList_store_row rfl 22 _ _ rfl w2.heap.size X rfl rfl _ _ (At.new w2 Z 22) HIX.out (by rw [HZS.out, HX.out.1]) HX.out.2.1 ?_
    | refine wpList_load_row rfl 22 _ rfl w2.heap.size rfl _ _ (0, 0) _ ((At.new w2 Z 22).setRow (C := X)) Tryd.underlying22 rfl HIX.out ?_)
  rw [World.setRow_alloc_new]
  have HB3 := Lib.hid (HB2.out.alloc HB2.out.size (.cells X 22))
  have H3 := Lib.hid (At.new w2 X 22)
  obtain ⟨bx, hbx⟩ : ∃ bx, w2.heap.size = bx := ⟨_, rfl⟩
  rw [hbx] at H3 ⊢
  obtain ⟨w3, hw3⟩ : ∃ w3, w2.alloc (.cells X 22) = w3 := ⟨_, rfl⟩
  rw [hw3] at H3 HB3 ⊢
  clear hbx hw3 HB2
  refine (pulses_yes X (fun i => hl (f i)) n _ HX.out HL.out (by omega) (by omega) (HTB.out.next HB3.out)).mono ?_
  rintro e w4 ⟨⟨K, rfl, hK⟩, h4⟩
  have HK := Lib.hid hK
  have HIK := Lib.hid (HI.out K hK.1)
  have HB4 := Lib.hid (below_trans HB3.out h4 HB3.out.size)
  have H4 := Lib.hid (H3.out.below h4 H3.out.lt)
  clear hK h4 H3 HB3
  go_wp2_with (first
    | refine wpList_store_row rfl 22 _ _ rfl w4.heap.size K rfl rfl _ _ (At.new w4 Z 22) HIK.out (by rw [HZS.out, HK.out.1]) HK.out.2.1 ?_
    | refine wpList_load_row rfl 22 _ rfl w4.heap.size rfl _ _ (0, 0) _ ((At.new w4 Z 22).setRow (C := K)) Tryd.underlying22 rfl HIK.out ?_)
  rw [World.setRow_alloc_new]
  have HF5 := Lib.hid (show FtS W bx w4.heap.size X K (w4.alloc (.cells K 22)) from ⟨H4.out.alloc _, At.new w4 K _, HB4.out.alloc HB4.out.size _⟩)
  obtain ⟨bk, hbk⟩ : ∃ bk, w4.heap.size = bk := ⟨_, rfl⟩
  rw [hbk] at HF5 ⊢
  obtain ⟨w5, hw5⟩ : ∃ w5, w4.alloc (.cells K 22) = w5 := ⟨_, rfl⟩
  rw [hw5] at HF5 ⊢
  clear hbk hw5 HB4 H4
  obtain ⟨left, hfin⟩ := given_fin (fun i => hl (f i)) (show (0 : Int) ≤ n by omega)
  obtain ⟨G, hG⟩ : ∃ G, given (fun i => hl (f i)) n = G := ⟨_, rfl⟩
  rw [hG] at HK hfin
  have HFN := Lib.hid hfin
  have hbill := hfin.bill
  have hsc : (sc (fun i => (G i : Int)) 4 : Int) + left = n := by
    rw [← hbill]
    show ((((0 + cI 0 (G 0)) + cI 1 (G 1)) + cI 2 (G 2) + cI 3 (G 3) : Nat) : Int) + left = _
    rw [cI_nat, cI_nat, cI_nat, cI_nat]
    omega
  have hlo := hfin.lo
  have HCO := Lib.hid (costAll_as K (fun i => (G i : Int)) w5 HK.out (HTB.out.next HF5.out.2.2))
  obtain ⟨c, hc⟩ : ∃ c, sc (fun i => (G i : Int)) 4 = c := ⟨_, rfl⟩
  rw [hc] at hsc HCO
  clear hG hfin hbill hc
  refine HCO.out.mono ?_
  rintro e w6 ⟨rfl, h6⟩
  have HF6 := Lib.hid (HF5.out.next h6)
  clear h6 HCO HF5
  have b0 : decide ((n : Int) < c) = false := decide_eq_false (by omega)
  go_wp2_with fail
  go_loopw [9] (fun i w' => ∃ b : Nat, b ≤ 4 ∧ i = .int .i64 b ∧ Hid (FtS W bx bk X K w')) (fun i _ => 4 - (intOf i).toNat)
  case atStart => exact ⟨0, by omega, rfl, HF6⟩
  case round =>
    obtain ⟨b, hb4, rfl, HF⟩ := hrel
    clear HF6
    by_cases hlt : b < 4
    · have b40 : (0 : Int) ≤ (b : Int) := by omega
      have b41 : (b : Int) < 4 := by omega
      have c1 : wr.cell? ⟨bx, b, none⟩ = some (.int .i64 (hl (f b))) := HX.out.cell HF.out.1 b hlt
      have c2 : wr.cell? ⟨bk, b, none⟩ = some (.int .i64 ((G b : Nat) : Int)) := HK.out.cell HF.out.2.1 b hlt
      have HCE := Lib.hid (fun w' (h : FtS W bx bk X K w') => (⟨HK.out.cell h.2.1 b hlt, HX.out.cell h.1 b hlt⟩ : w'.cell? ⟨bk, b, none⟩ = some (.int .i64 ((G b : Nat) : Int)) ∧ w'.cell? ⟨bx, b, none⟩ = some (.int .i64 (hl (f b)))))
      obtain ⟨l0, l1⟩ := hl_bd (f b)
      have hno := HFN.out.no b hlt
      have hnn := HFN.out.none b
      have k8 := HFN.out.few b
      have HPR := Lib.hid (show pr b (G b) = (P b (G b + 1) : Int) - P b (G b) from rfl)
      have HCY := Lib.hid (show Ve.bI (sB b) (((G b + 1 : Nat)) : Int) = P b (G b + 1) from rfl)
      have HCX := Lib.hid (show Ve.bI (sB b) ((G b : Nat) : Int) = P b (G b) from rfl)
      have p1 := P_le b (G b)
      have p2 := P_le b (G b + 1)
      have HSZ := Lib.hid (fun w' (h : Lv.Tab w') s hs => size_as b s w' h hlt hs)
      obtain ⟨l, hl⟩ : ∃ l, hl (f b) = l := ⟨_, rfl⟩
      obtain ⟨k, hk⟩ : ∃ k, G b = k := ⟨_, rfl⟩
      obtain ⟨x, hx⟩ : ∃ x, P b k = x := ⟨_, rfl⟩
      obtain ⟨y, hy⟩ : ∃ y, P b (k + 1) = y := ⟨_, rfl⟩
      obtain ⟨s, hs⟩ : ∃ s, sB b = s := ⟨_, rfl⟩
      have HSB := Lib.hid hs
      rw [hl] at c1 l0 l1 hno hnn HCE
      rw [hk] at c2 hno hnn k8 HCE HPR HCY HCX p1 p2
      rw [hx] at HPR HCX p1
      rw [hy] at HPR HCY p2
      rw [hs] at HCX HCY
      rw [HPR.out] at hno
      clear hl hk hx hy hs HPR
      have d1 : decide ((k : Int) < 0) = false := decide_eq_false (by omega)
      have d2 : decide (8 < (k : Int)) = false := decide_eq_false (by omega)
      by_cases a1 : l = 0
      · have k0 : k = 0 := hnn a1
        have d3 : (l == 0) = true := by simp [a1]
        have d4 : ((k : Int) != 0) = false := by simp [k0]
        have d5 : decide (0 < l) = false := decide_eq_false (by omega)
        clear hno hnn HCY HCX HSZ HSB HCE a1 k0
        go_wp2_with fail
        go_quiet (fail)
        go_wp2_with fail
        go_roundw
        case rel => exact ⟨b + 1, by omega, by go_num, Lib.hid (HF.out.drewN _)⟩
        case measure => simp [intOf]; omega
      have d3 : (l == 0) = false := by simp [a1]
      have d5 : decide (0 < l) = true := decide_eq_true (by omega)
      by_cases a2 : k = 8
      · have d6 : decide ((k : Int) < 8) = false := decide_eq_false (by omega)
        clear hno hnn HCY HCX HSZ HSB HCE a1 a2
        go_wp2_with fail
        go_quiet (fail)
        go_wp2_with fail
        go_roundw
        case rel => exact ⟨b + 1, by omega, by go_num, Lib.hid (HF.out.drewN _)⟩
        case measure => simp [intOf]; omega
      · have d6 : decide ((k : Int) < 8) = true := decide_eq_true (by omega)
        have d7 : decide ((y : Int) - x ≤ (n : Int) - c) = false := decide_eq_false fun h => hno ⟨a1, by omega, by omega⟩
        have HK1 := Lib.hid (show IntKind.i64.wrap ((k : Int) + 1) = (k : Int) + 1 from IntWalk.i64_in _ (by omega))
        have HNC := Lib.hid (show IntKind.i64.wrap ((n : Int) - c) = (n : Int) - c from IntWalk.i64_in _ (by omega))
        have HYX := Lib.hid (show IntKind.i64.wrap ((y : Int) - x) = (y : Int) - x from IntWalk.i64_in _ (by omega))
        clear hno hnn a1
        go_wp2_with fail
        refine mv_startS (FtS W bx bk X K) HF.out.drew fun hS => ?_
        refine mv_yield (i := 0) (d := 51) (.int .i64 (b : Int)) rfl rfl (by kernel_rfl) (by kernel_rfl) (by kernel_rfl) hS (y_run (by rfl) fun _ => by rfl) ?_
        simp only [Act.put, List.setIfInBounds_toArray, List.set_cons_zero, List.set_cons_succ]
        refine mv_yield (i := 1) (d := 52) (.pointer (some ⟨bx, b, none⟩)) rfl rfl (by kernel_rfl) (by kernel_rfl) (by kernel_rfl) hS (y_at (m := 4) (k := b) (by rfl) rfl rfl rfl Tryd.underlying22 rfl hlt) ?_
        simp only [Act.put, List.setIfInBounds_toArray, List.set_cons_zero, List.set_cons_succ]
        refine mv_yield (i := 2) (d := 53) (.int .i64 l) rfl rfl (by kernel_rfl) (by kernel_rfl) (by kernel_rfl) hS (y_cellS (by rfl) rfl rfl fun w h => (HCE.out w h).2) ?_
        simp only [Act.put, List.setIfInBounds_toArray, List.set_cons_zero, List.set_cons_succ]
        refine mv_yield (i := 3) (d := 54) (.bool true) rfl rfl (by kernel_rfl) (by kernel_rfl) (by kernel_rfl) hS (y_gtr (by rfl) rfl rfl rfl d5) ?_
        simp only [Act.put, List.setIfInBounds_toArray, List.set_cons_zero, List.set_cons_succ]
        refine mv_yield (i := 4) (d := 55) (.bool true) rfl rfl (by kernel_rfl) (by kernel_rfl) (by kernel_rfl) hS (y_run (by rfl) fun _ => by rfl) ?_
        simp only [Act.put, List.setIfInBounds_toArray, List.set_cons_zero, List.set_cons_succ]
        refine mv_yield (i := 5) (d := 56) (.int .i64 (b : Int)) rfl rfl (by kernel_rfl) (by kernel_rfl) (by kernel_rfl) hS (y_run (by rfl) fun _ => by rfl) ?_
        simp only [Act.put, List.setIfInBounds_toArray, List.set_cons_zero, List.set_cons_succ]
        refine mv_yield (i := 6) (d := 57) (.pointer (some ⟨bk, b, none⟩)) rfl rfl (by kernel_rfl) (by kernel_rfl) (by kernel_rfl) hS (y_at (m := 4) (k := b) (by rfl) rfl rfl rfl Tryd.underlying22 rfl hlt) ?_
        simp only [Act.put, List.setIfInBounds_toArray, List.set_cons_zero, List.set_cons_succ]
        refine mv_yield (i := 7) (d := 58) (.int .i64 (k : Int)) rfl rfl (by kernel_rfl) (by kernel_rfl) (by kernel_rfl) hS (y_cellS (by rfl) rfl rfl fun w h => (HCE.out w h).1) ?_
        simp only [Act.put, List.setIfInBounds_toArray, List.set_cons_zero, List.set_cons_succ]
        refine mv_yield (i := 8) (d := 59) (.bool true) rfl rfl (by kernel_rfl) (by kernel_rfl) (by kernel_rfl) hS (y_lss (by rfl) rfl rfl rfl d6) ?_
        simp only [Act.put, List.setIfInBounds_toArray, List.set_cons_zero, List.set_cons_succ]
        refine mv_yield (i := 9) (d := 60) (.bool true) rfl rfl (by kernel_rfl) (by kernel_rfl) (by kernel_rfl) hS (y_run (by rfl) fun _ => by rfl) ?_
        simp only [Act.put, List.setIfInBounds_toArray, List.set_cons_zero, List.set_cons_succ]
        refine mv_yield (i := 10) (d := 61) (.bool true) rfl rfl (by kernel_rfl) (by kernel_rfl) (by kernel_rfl) hS (y_run (by rfl) fun _ => by rfl) ?_
        simp only [Act.put, List.setIfInBounds_toArray, List.set_cons_zero, List.set_cons_succ]
        refine mv_yield (i := 11) (d := 62) (.int .i64 (b : Int)) rfl rfl (by kernel_rfl) (by kernel_rfl) (by kernel_rfl) hS (y_run (by rfl) fun _ => by rfl) ?_
        simp only [Act.put, List.setIfInBounds_toArray, List.set_cons_zero, List.set_cons_succ]
        refine mv_yield (i := 13) (d := 64) (.int .i64 (b : Int)) rfl rfl (by kernel_rfl) (by kernel_rfl) (by kernel_rfl) hS (y_run (by rfl) fun _ => by rfl) ?_
        simp only [Act.put, List.setIfInBounds_toArray, List.set_cons_zero, List.set_cons_succ]
        refine mv_yield (i := 14) (d := 65) (.pointer (some ⟨bk, b, none⟩)) rfl rfl (by kernel_rfl) (by kernel_rfl) (by kernel_rfl) hS (y_at (m := 4) (k := b) (by rfl) rfl rfl rfl Tryd.underlying22 rfl hlt) ?_
        simp only [Act.put, List.setIfInBounds_toArray, List.set_cons_zero, List.set_cons_succ]
        refine mv_yield (i := 15) (d := 66) (.int .i64 (k : Int)) rfl rfl (by kernel_rfl) (by kernel_rfl) (by kernel_rfl) hS (y_cellS (by rfl) rfl rfl fun w h => (HCE.out w h).1) ?_
        simp only [Act.put, List.setIfInBounds_toArray, List.set_cons_zero, List.set_cons_succ]
        refine mv_yield (i := 16) (d := 67) (.int .i64 ((k : Int) + 1)) rfl rfl (by kernel_rfl) (by kernel_rfl) (by kernel_rfl) hS (y_add (by rfl) rfl rfl rfl HK1.out) ?_
        simp only [Act.put, List.setIfInBounds_toArray, List.set_cons_zero, List.set_cons_succ]
        refine mv_yield (i := 18) (d := 69) (.int .i64 (b : Int)) rfl rfl (by kernel_rfl) (by kernel_rfl) (by kernel_rfl) hS (y_run (by rfl) fun _ => by rfl) ?_
        simp only [Act.put, List.setIfInBounds_toArray, List.set_cons_zero, List.set_cons_succ]
        refine mv_yield (i := 20) (d := 71) (.int .i64 (b : Int)) rfl rfl (by kernel_rfl) (by kernel_rfl) (by kernel_rfl) hS (y_run (by rfl) fun _ => by rfl) ?_
        simp only [Act.put, List.setIfInBounds_toArray, List.set_cons_zero, List.set_cons_succ]
        refine mv_yield (i := 21) (d := 72) (.pointer (some ⟨bk, b, none⟩)) rfl rfl (by kernel_rfl) (by kernel_rfl) (by kernel_rfl) hS (y_at (m := 4) (k := b) (by rfl) rfl rfl rfl Tryd.underlying22 rfl hlt) ?_
        simp only [Act.put, List.setIfInBounds_toArray, List.set_cons_zero, List.set_cons_succ]
        refine mv_yield (i := 22) (d := 73) (.int .i64 (k : Int)) rfl rfl (by kernel_rfl) (by kernel_rfl) (by kernel_rfl) hS (y_cellS (by rfl) rfl rfl fun w h => (HCE.out w h).1) ?_
        simp only [Act.put, List.setIfInBounds_toArray, List.set_cons_zero, List.set_cons_succ]
        refine mv_yield (i := 25) (d := 76) (.int .i64 (n : Int)) rfl rfl (by kernel_rfl) (by kernel_rfl) (by kernel_rfl) hS (y_run (by rfl) fun _ => by rfl) ?_
        simp only [Act.put, List.setIfInBounds_toArray, List.set_cons_zero, List.set_cons_succ]
        refine mv_yield (i := 26) (d := 77) (.int .i64 (c : Int)) rfl rfl (by kernel_rfl) (by kernel_rfl) (by kernel_rfl) hS (y_run (by rfl) fun _ => by rfl) ?_
        simp only [Act.put, List.setIfInBounds_toArray, List.set_cons_zero, List.set_cons_succ]
        refine mv_yield (i := 27) (d := 78) (.int .i64 ((n : Int) - c)) rfl rfl (by kernel_rfl) (by kernel_rfl) (by kernel_rfl) hS (y_sub (by rfl) rfl rfl rfl HNC.out) ?_
        simp only [Act.put, List.setIfInBounds_toArray, List.set_cons_zero, List.set_cons_succ]
        refine mv_ready [12] (by kernel_rfl) (by simp) (ar_callP (d := 63) #[.int .i64 (b : Int)] rfl rfl (by rfl) rfl enter_size (by kernel_rfl) (HSZ.out _ (HTB.out.next hS.2.2) s HSB.out) (fun w' h => hS.next h) ?_ AllReadyH.nil)
        rintro w12 _ hS12
        clear hS
        have hS := hS12
        clear hS12
        simp only [Act.put, List.setIfInBounds_toArray, List.set_cons_zero, List.set_cons_succ]
        refine mv_ready [17] (by kernel_rfl) (by simp) (ar_callP (d := 68) #[.int .i64 (s : Int), .int .i64 ((k : Int) + 1)] rfl rfl (by rfl) rfl enter_bits (by kernel_rfl) (Ve.bits_as s ((k : Int) + 1) y _ HCY.out) (fun w' h => hS.next h) ?_ AllReadyH.nil)
        rintro w17 _ hS17
        clear hS
        have hS := hS17
        clear hS17
        simp only [Act.put, List.setIfInBounds_toArray, List.set_cons_zero, List.set_cons_succ]
        refine mv_ready [19] (by kernel_rfl) (by simp) (ar_callP (d := 70) #[.int .i64 (b : Int)] rfl rfl (by rfl) rfl enter_size (by kernel_rfl) (HSZ.out _ (HTB.out.next hS.2.2) s HSB.out) (fun w' h => hS.next h) ?_ AllReadyH.nil)
        rintro w19 _ hS19
        clear hS
        have hS := hS19
        clear hS19
        simp only [Act.put, List.setIfInBounds_toArray, List.set_cons_zero, List.set_cons_succ]
        refine mv_ready [23] (by kernel_rfl) (by simp) (ar_callP (d := 74) #[.int .i64 (s : Int), .int .i64 (k : Int)] rfl rfl (by rfl) rfl enter_bits (by kernel_rfl) (Ve.bits_as s (k : Int) x _ HCX.out) (fun w' h => hS.next h) ?_ AllReadyH.nil)
        rintro w23 _ hS23
        clear hS
        have hS := hS23
        clear hS23
        simp only [Act.put, List.setIfInBounds_toArray, List.set_cons_zero, List.set_cons_succ]
        refine mv_yield (i := 24) (d := 75) (.int .i64 ((y : Int) - x)) rfl rfl (by kernel_rfl) (by kernel_rfl) (by kernel_rfl) hS (y_sub (by rfl) rfl rfl rfl HYX.out) ?_
        simp only [Act.put, List.setIfInBounds_toArray, List.set_cons_zero, List.set_cons_succ]
        refine mv_yield (i := 28) (d := 79) (.bool false) rfl rfl (by kernel_rfl) (by kernel_rfl) (by kernel_rfl) hS (y_leq (by rfl) rfl rfl rfl d7) ?_
        simp only [Act.put, List.setIfInBounds_toArray, List.set_cons_zero, List.set_cons_succ]
        refine mv_yield (i := 29) (d := 80) (.bool false) rfl rfl (by kernel_rfl) (by kernel_rfl) (by kernel_rfl) hS (y_run (by rfl) fun _ => by rfl) ?_
        simp only [Act.put, List.setIfInBounds_toArray, List.set_cons_zero, List.set_cons_succ]
        refine mv_done (by kernel_rfl) ?_
        have FS1 := Lib.hid hS
        clear hS
        go_wp2_with fail
        go_roundw
        case rel => exact ⟨b + 1, by omega, by go_num, FS1⟩
        case measure => simp [intOf]; omega
    · obtain rfl : b = 4 := by omega
      go_wp2_with fail
      go_ret
      exact ⟨rfl, HF.out.2.2⟩

theorem spareFits_walk (T0 : Array Value) (f0 : Nat → Int) (s0 : IsRow 4 f0 T0) (a1 : Int) (w1 : (Lit.int .u16 a1).wf = true) (W : World) (hT : Lv.Tab W) :
    Calls Tryd.prog 3 #[.agg T0, .int .u16 a1] W fun e w' => e = .returned (.bool true) ∧ Below W.heap.size W w' := by
  obtain ⟨u, rfl, hu⟩ := u16_bd w1
  exact spareFits_nat T0 f0 u W s0 hu hT
end Go.Proofs.YtfcaigggacgfkaaDoor.Sp
