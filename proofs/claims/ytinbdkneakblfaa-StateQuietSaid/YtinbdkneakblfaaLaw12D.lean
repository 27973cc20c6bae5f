/- StateQuiet. Written by g29.py. -/
import Derived.Test.YtinbdkneakblfaaStP
import Derived.Test.YtinbdkneakblfaaRowMvY
set_option maxRecDepth 100000
set_option linter.unusedVariables false
namespace Go.Proofs.Ytinbdkneakblfaa.Sta
open Go.RowKit Go.Proofs.Ytinbdkneakblfaa.Row Go.Proofs.Ytinbdkneakblfaa.Md Go.Proofs.Ytinbdkneakblfaa.Tl

/-- A state with a last sample alone. -/
def qF (n : Int) : Nat → Int := stF (fun _ => 0) n (fun _ => 0) (fun _ => 0) 0
theorem q_right {n : Int} (h1 : -30000 < n) (h2 : n < 30000) : Rt (qF n) := by
  refine ⟨fun i hi => ?_, ?_, fun i hi => ?_, fun i hi => ?_, ?_⟩ <;> unfold qF
  · rw [stF_mem _ _ _ _ _ hi]; omega
  · rw [stF_last]; omega
  · rw [stF_lev _ _ _ _ _ hi]; omega
  · dsimp only; rw [stF_wav _ _ _ _ _ hi]; unfold Md.ab; omega
  · rw [stF_lost]; omega
theorem ql_right {l : Int} (h1 : 0 ≤ l) (h2 : l ≤ 255) : Rt (thF (fun _ => 0) (fun _ => 0) l) := by
  refine ⟨fun i hi => ?_, ?_, fun i hi => ?_, fun i hi => ?_, ?_⟩ <;> unfold thF
  · rw [stF_mem _ _ _ _ _ hi]; omega
  · rw [stF_last]; omega
  · rw [stF_lev _ _ _ _ _ hi]; omega
  · dsimp only; rw [stF_wav _ _ _ _ _ hi]; unfold Md.ab; omega
  · rw [stF_lost]; omega
theorem die_small {n : Int} (h1 : -30000 < n) (h2 : n < 30000) : ∀ k, -30000 < dieS n k ∧ dieS n k < 30000
  | 0 => ⟨h1, h2⟩
  | k + 1 => by
    have h := die_small h1 h2 k
    have := (prt_keep (dieS n k)).1
    show -30000 < prt (dieS n k) ∧ prt (dieS n k) < 30000
    omega
theorem q_ly {n : Int} (h1 : -30000 < n) (h2 : n < 30000) (k : Nat) (hk : k < 16) : lyF (qF n) (fun _ => 0) k = dieS n (k + 1) := by
  have e : qF n 16 = n := by unfold qF; rw [stF_last]
  rw [ly_die (fun i hi => by unfold qF; rw [stF_mem _ _ _ _ _ hi]) (by rw [e]; omega) k hk, e]
theorem q_so {n : Int} (h1 : -30000 < n) (h2 : n < 30000) (k : Nat) (hk : k < 16) : soF (qF n) (fun _ => 0) k = dieS n (k + 1) := by
  unfold soF
  rw [q_ly h1 h2 k hk]
  have := die_small h1 h2 (k + 1)
  exact ct16_in (by omega) (by omega)

set_option maxHeartbeats 2000000 in
theorem stateQuiet_walk (last l : Int) (hl : -9223372036854775808 ≤ last ∧ last ≤ 9223372036854775807) (l0 : 0 ≤ l) (l1 : l ≤ 255) (w : World) :
    Calls Try.prog 8 #[.int .i64 last, .int .u8 l] w fun e w' => e = .returned (.bool true) ∧ Below w.heap.size w w' := by
  obtain ⟨Zp, hZp, _, hzp, hip⟩ := zero_p
  obtain ⟨Zb, hZb, _, hzb, hib⟩ := zero_b
  obtain ⟨n, hn⟩ : ∃ n, last.tmod 30000 = n := ⟨_, rfl⟩
  have n1 : -30000 < n := by rw [← hn]; have := Int.lt_tmod_of_pos last (show (0 : Int) < 30000 by omega); omega
  have n2 : n < 30000 := by rw [← hn]; exact Int.tmod_lt_of_pos last (by omega)
  obtain ⟨T, hT, bT⟩ := built_1 isSt_p n
  obtain ⟨D, hD, bD⟩ := built_b
  obtain ⟨G, hG, bG⟩ := built_4r
  obtain ⟨R, hR⟩ : ∃ R, IsRow 16 (fun k => dieS n (k + 1)) R := ⟨_, isRow _ _⟩
  obtain ⟨Q, hQ⟩ : ∃ Q, IsRow 38 (nxF (qF n) (fun _ => 0) (fun _ => 0) l) Q := ⟨_, isRow _ _⟩
  have HC := Lib.hid (fun w => next_as (next_yes T G D (qF n) _ _ l hT hG hD (q_right n1 n2) (ql_right l0 l1)) (hR.ext fun k hk => (q_so n1 n2 k hk).symm) hQ w)
  obtain ⟨M, hM⟩ : ∃ M, Q.extract 0 (0 + 16) = M := ⟨_, rfl⟩
  have hM' := hQ.sub (show 0 + 16 ≤ 38 by omega)
  rw [hM] at hM'
  have e1 := rows_eq hM' hD (fun i hi => by
    rw [Nat.zero_add]
    unfold nxF
    rw [stF_mem _ _ _ _ _ hi, bs_zero _ (by omega), ct_zero]) Try.underlying30
  have q16 : nxF (qF n) (fun _ => 0) (fun _ => 0) l 16 = dieS n 16 := by
    unfold nxF; rw [stF_last, q_ly n1 n2 15 (by omega)]
  have q37 : nxF (qF n) (fun _ => 0) (fun _ => 0) l 37 = l := by unfold nxF; rw [stF_lost]
  have HDS := Lib.hid (die_small n1 n2)
  have Q16 := Lib.hid q16
  have Q37 := Lib.hid q37
  have HR := Lib.hid hR
  have HQ := Lib.hid hQ
  have HM := Lib.hid hM'
  have HIP := Lib.hid hip
  have HIB := Lib.hid hib
  have HZB := Lib.hid hZb.1
  have HZP := Lib.hid hZp.1
  have HBT := Lib.hid bT
  have HD := Lib.hid hD
  have HBD := Lib.hid bD
  have HBG := Lib.hid bG
  clear hip hib hZp hZb hR hQ bT hT hD bD hG bG hM' hM q16 q37
  go_enter Try.func8, Try.ntmps8
  go_wp2_with fail
  refine (awake_as w).mono ?_
  rintro e W1 ⟨rfl, hb⟩
  have HB := Lib.hid hb
  clear hb
  go_wp2_with (first
    | refine wpList_build_parts (by rfl) 32 [(1, _)] rfl _ rfl HBT.out ?_
    | refine wpList_build_parts (by rfl) 23 [] rfl _ rfl HBG.out ?_
    | refine wpList_build_parts (by rfl) 30 [] rfl _ rfl HBD.out ?_)
  refine (HC.out W1).mono ?_
  rintro e w3 ⟨rfl, hb⟩
  have HU := Lib.hid (Duo.start hb Zb Zp 30 32)
  have HB3 := Lib.hid HB.out
  clear hb HC HBT
  go_wp2_with (first
    | (refine wpList_store_row rfl 30 _ _ rfl w3.heap.size R rfl rfl _ _ HU.out.2.2.1 (HIB.out _ HR.out.1) (by rw [HZB.out, HR.out.1]) HR.out.2.1 ?_
       replace HU := Lib.hid (HU.out.set1 R)
       revert HU
       generalize World.setRow _ _ _ = W4
       intro HU)
    | (refine wpList_store_row rfl 32 _ _ rfl (w3.heap.size + 1) Q rfl rfl _ _ HU.out.2.2.2 (HIP.out _ HQ.out.1) (by rw [HZP.out, HQ.out.1]) HQ.out.2.1 ?_
       replace HU := Lib.hid (HU.out.set2 Q)
       revert HU
       generalize World.setRow _ _ _ = W5
       intro HU))
  have PX := Lib.hid HU.out.2.2.1
  have PY := Lib.hid HU.out.2.2.2
  replace HB := Lib.hid (below_trans HB3.out HU.out.1 HB3.out.size)
  clear HU HB3
  revert PX PY
  generalize w3.heap.size = b
  intro PX PY
  clear w3 W1
  go_loopw [8, 9] (fun s i w' => ∃ k : Nat, k ≤ 16 ∧ i = .int .i64 k ∧ s = .int .i64 (dieS n k) ∧ Hid (Below w.heap.size w w') ∧ Hid (At w' b R 30) ∧ Hid (At w' (b + 1) Q 32)) (fun _ i _ => 16 - (intOf i).toNat)
  case atStart => exact ⟨0, by omega, rfl, by rfl, HB, PX, PY⟩
  case round =>
    obtain ⟨k, hk, rfl, rfl, HB', PX', PY'⟩ := hrel
    clear HB PX PY
    by_cases hlt : k < 16
    · have k1 : (k : Int) < 16 := by omega
      have c0 := HR.out.cell PX'.out k hlt
      obtain ⟨a, ha⟩ : ∃ a, dieS n k = a := ⟨_, rfl⟩
      have hax : prt a = dieS n (k + 1) := by rw [← ha]; rfl
      obtain ⟨a1, a2⟩ := HDS.out k
      obtain ⟨x1, x2⟩ := HDS.out (k + 1)
      obtain ⟨x, hx⟩ : ∃ x, dieS n (k + 1) = x := ⟨_, rfl⟩
      rw [hx] at c0 x1 x2 hax
      rw [ha] at a1 a2
      rw [ha]
      have hkeep := prt_keep a
      rw [hax] at hkeep
      obtain ⟨p1, p2, p3⟩ := hkeep
      have HXk := Lib.hid (show (fun k => dieS n (k + 1)) k = x from hx)
      have HXd := Lib.hid hx
      have hnx : IntKind.i64.wrap (-x) = -x := IntWalk.i64_in _ (by omega)
      have hna : IntKind.i64.wrap (-a) = -a := IntWalk.i64_in _ (by omega)
      obtain ⟨ux, hux⟩ : ∃ u, max x (-x) = u := ⟨_, rfl⟩
      obtain ⟨ua, hua⟩ : ∃ u, max a (-a) = u := ⟨_, rfl⟩
      have hle : decide (ua < ux) = false := decide_eq_false (by omega)
      obtain ⟨kk, hkk⟩ : ∃ kk : Int, kk = (k : Int) := ⟨_, rfl⟩
      clear ha hax hx
      go_wp2_with fail
      rcases (show 0 < x ∨ x < 0 ∨ x = 0 by omega) with g | g | g
      · have hx1 : decide (0 < x) = true := decide_eq_true g
        have hx2 : decide (x < 0) = false := decide_eq_false (by omega)
        have ha1 : decide (a < 0) = false := decide_eq_false (by omega)
        rw [← hkk]
        refine mv_start fun hS => ?_
        refine mv_yield (i := 0) (d := 29) (.int .i64 kk) rfl rfl (by kernel_rfl) (by kernel_rfl) (by kernel_rfl) hS (y_run (by rfl) fun _ => by rfl) ?_
        simp only [Act.put, List.setIfInBounds_toArray, List.set_cons_zero, List.set_cons_succ]
        refine mv_yield (i := 1) (d := 30) (.pointer (some ⟨b, k, none⟩)) rfl rfl (by kernel_rfl) (by kernel_rfl) (by kernel_rfl) hS (y_at (m := 16) (k := k) (by rfl) rfl rfl rfl Try.underlying30 hkk hlt) ?_
        simp only [Act.put, List.setIfInBounds_toArray, List.set_cons_zero, List.set_cons_succ]
        refine mv_yield (i := 2) (d := 31) (.int .i64 x) rfl rfl (by kernel_rfl) (by kernel_rfl) (by kernel_rfl) hS (y_cell (by rfl) rfl rfl c0) ?_
        simp only [Act.put, List.setIfInBounds_toArray, List.set_cons_zero, List.set_cons_succ]
        refine mv_yield (i := 3) (d := 32) (.int .i64 kk) rfl rfl (by kernel_rfl) (by kernel_rfl) (by kernel_rfl) hS (y_run (by rfl) fun _ => by rfl) ?_
        simp only [Act.put, List.setIfInBounds_toArray, List.set_cons_zero, List.set_cons_succ]
        refine mv_yield (i := 4) (d := 33) (.pointer (some ⟨b, k, none⟩)) rfl rfl (by kernel_rfl) (by kernel_rfl) (by kernel_rfl) hS (y_at (m := 16) (k := k) (by rfl) rfl rfl rfl Try.underlying30 hkk hlt) ?_
        simp only [Act.put, List.setIfInBounds_toArray, List.set_cons_zero, List.set_cons_succ]
        refine mv_yield (i := 5) (d := 34) (.int .i64 x) rfl rfl (by kernel_rfl) (by kernel_rfl) (by kernel_rfl) hS (y_cell (by rfl) rfl rfl c0) ?_
        simp only [Act.put, List.setIfInBounds_toArray, List.set_cons_zero, List.set_cons_succ]
        refine mv_yield (i := 6) (d := 35) (.int .i64 ((-x))) rfl rfl (by kernel_rfl) (by kernel_rfl) (by kernel_rfl) hS (y_neg (by rfl) rfl rfl hnx) ?_
        simp only [Act.put, List.setIfInBounds_toArray, List.set_cons_zero, List.set_cons_succ]
        refine mv_yield (i := 7) (d := 36) (.int .i64 ux) rfl rfl (by kernel_rfl) (by kernel_rfl) (by kernel_rfl) hS (y_abs (by rfl) rfl rfl rfl rfl hux) ?_
        simp only [Act.put, List.setIfInBounds_toArray, List.set_cons_zero, List.set_cons_succ]
        refine mv_yield (i := 8) (d := 37) (.int .i64 a) rfl rfl (by kernel_rfl) (by kernel_rfl) (by kernel_rfl) hS (y_run (by rfl) fun _ => by rfl) ?_
        simp only [Act.put, List.setIfInBounds_toArray, List.set_cons_zero, List.set_cons_succ]
        refine mv_yield (i := 9) (d := 38) (.int .i64 a) rfl rfl (by kernel_rfl) (by kernel_rfl) (by kernel_rfl) hS (y_run (by rfl) fun _ => by rfl) ?_
        simp only [Act.put, List.setIfInBounds_toArray, List.set_cons_zero, List.set_cons_succ]
        refine mv_yield (i := 10) (d := 39) (.int .i64 ((-a))) rfl rfl (by kernel_rfl) (by kernel_rfl) (by kernel_rfl) hS (y_neg (by rfl) rfl rfl hna) ?_
        simp only [Act.put, List.setIfInBounds_toArray, List.set_cons_zero, List.set_cons_succ]
        refine mv_yield (i := 11) (d := 40) (.int .i64 ua) rfl rfl (by kernel_rfl) (by kernel_rfl) (by kernel_rfl) hS (y_abs (by rfl) rfl rfl rfl rfl hua) ?_
        simp only [Act.put, List.setIfInBounds_toArray, List.set_cons_zero, List.set_cons_succ]
        refine mv_yield (i := 12) (d := 41) (.bool false) rfl rfl (by kernel_rfl) (by kernel_rfl) (by kernel_rfl) hS (y_gtr (by rfl) rfl rfl rfl hle) ?_
        simp only [Act.put, List.setIfInBounds_toArray, List.set_cons_zero, List.set_cons_succ]
        refine mv_yield (i := 13) (d := 42) (.bool false) rfl rfl (by kernel_rfl) (by kernel_rfl) (by kernel_rfl) hS (y_run (by rfl) fun _ => by rfl) ?_
        simp only [Act.put, List.setIfInBounds_toArray, List.set_cons_zero, List.set_cons_succ]
        refine mv_yield (i := 14) (d := 43) (.int .i64 kk) rfl rfl (by kernel_rfl) (by kernel_rfl) (by kernel_rfl) hS (y_run (by rfl) fun _ => by rfl) ?_
        simp only [Act.put, List.setIfInBounds_toArray, List.set_cons_zero, List.set_cons_succ]
        refine mv_yield (i := 15) (d := 44) (.pointer (some ⟨b, k, none⟩)) rfl rfl (by kernel_rfl) (by kernel_rfl) (by kernel_rfl) hS (y_at (m := 16) (k := k) (by rfl) rfl rfl rfl Try.underlying30 hkk hlt) ?_
        simp only [Act.put, List.setIfInBounds_toArray, List.set_cons_zero, List.set_cons_succ]
        refine mv_yield (i := 16) (d := 45) (.int .i64 x) rfl rfl (by kernel_rfl) (by kernel_rfl) (by kernel_rfl) hS (y_cell (by rfl) rfl rfl c0) ?_
        simp only [Act.put, List.setIfInBounds_toArray, List.set_cons_zero, List.set_cons_succ]
        refine mv_yield (i := 17) (d := 46) (.bool true) rfl rfl (by kernel_rfl) (by kernel_rfl) (by kernel_rfl) hS (y_gtr (by rfl) rfl rfl rfl hx1) ?_
        simp only [Act.put, List.setIfInBounds_toArray, List.set_cons_zero, List.set_cons_succ]
        refine mv_yield (i := 18) (d := 47) (.bool true) rfl rfl (by kernel_rfl) (by kernel_rfl) (by kernel_rfl) hS (y_run (by rfl) fun _ => by rfl) ?_
        simp only [Act.put, List.setIfInBounds_toArray, List.set_cons_zero, List.set_cons_succ]
        refine mv_yield (i := 19) (d := 48) (.int .i64 a) rfl rfl (by kernel_rfl) (by kernel_rfl) (by kernel_rfl) hS (y_run (by rfl) fun _ => by rfl) ?_
        simp only [Act.put, List.setIfInBounds_toArray, List.set_cons_zero, List.set_cons_succ]
        refine mv_yield (i := 20) (d := 49) (.bool false) rfl rfl (by kernel_rfl) (by kernel_rfl) (by kernel_rfl) hS (y_lss (by rfl) rfl rfl rfl ha1) ?_
        simp only [Act.put, List.setIfInBounds_toArray, List.set_cons_zero, List.set_cons_succ]
        refine mv_yield (i := 21) (d := 50) (.bool false) rfl rfl (by kernel_rfl) (by kernel_rfl) (by kernel_rfl) hS (y_run (by rfl) fun _ => by rfl) ?_
        simp only [Act.put, List.setIfInBounds_toArray, List.set_cons_zero, List.set_cons_succ]
        refine mv_yield (i := 22) (d := 51) (.bool false) rfl rfl (by kernel_rfl) (by kernel_rfl) (by kernel_rfl) hS (y_run (by rfl) fun _ => by rfl) ?_
        simp only [Act.put, List.setIfInBounds_toArray, List.set_cons_zero, List.set_cons_succ]
        refine mv_yield (i := 23) (d := 52) (.bool false) rfl rfl (by kernel_rfl) (by kernel_rfl) (by kernel_rfl) hS (y_run (by rfl) fun _ => by rfl) ?_
        simp only [Act.put, List.setIfInBounds_toArray, List.set_cons_zero, List.set_cons_succ]
        refine mv_yield (i := 24) (d := 53) (.int .i64 kk) rfl rfl (by kernel_rfl) (by kernel_rfl) (by kernel_rfl) hS (y_run (by rfl) fun _ => by rfl) ?_
        simp only [Act.put, List.setIfInBounds_toArray, List.set_cons_zero, List.set_cons_succ]
        refine mv_yield (i := 25) (d := 54) (.pointer (some ⟨b, k, none⟩)) rfl rfl (by kernel_rfl) (by kernel_rfl) (by kernel_rfl) hS (y_at (m := 16) (k := k) (by rfl) rfl rfl rfl Try.underlying30 hkk hlt) ?_
        simp only [Act.put, List.setIfInBounds_toArray, List.set_cons_zero, List.set_cons_succ]
        refine mv_yield (i := 26) (d := 55) (.int .i64 x) rfl rfl (by kernel_rfl) (by kernel_rfl) (by kernel_rfl) hS (y_cell (by rfl) rfl rfl c0) ?_
        simp only [Act.put, List.setIfInBounds_toArray, List.set_cons_zero, List.set_cons_succ]
        refine mv_yield (i := 27) (d := 56) (.bool false) rfl rfl (by kernel_rfl) (by kernel_rfl) (by kernel_rfl) hS (y_lss (by rfl) rfl rfl rfl hx2) ?_
        simp only [Act.put, List.setIfInBounds_toArray, List.set_cons_zero, List.set_cons_succ]
        refine mv_yield (i := 28) (d := 57) (.bool false) rfl rfl (by kernel_rfl) (by kernel_rfl) (by kernel_rfl) hS (y_run (by rfl) fun _ => by rfl) ?_
        simp only [Act.put, List.setIfInBounds_toArray, List.set_cons_zero, List.set_cons_succ]
        refine mv_yield (i := 29) (d := 58) undef rfl rfl (by kernel_rfl) (by kernel_rfl) (by kernel_rfl) hS (y_skip (by rfl)) ?_
        simp only [Act.put, List.setIfInBounds_toArray, List.set_cons_zero, List.set_cons_succ]
        refine mv_yield (i := 30) (d := 59) undef rfl rfl (by kernel_rfl) (by kernel_rfl) (by kernel_rfl) hS (y_skip (by rfl)) ?_
        simp only [Act.put, List.setIfInBounds_toArray, List.set_cons_zero, List.set_cons_succ]
        refine mv_yield (i := 31) (d := 60) (.bool false) rfl rfl (by kernel_rfl) (by kernel_rfl) (by kernel_rfl) hS (y_run (by rfl) fun _ => by rfl) ?_
        simp only [Act.put, List.setIfInBounds_toArray, List.set_cons_zero, List.set_cons_succ]
        refine mv_yield (i := 32) (d := 61) (.bool false) rfl rfl (by kernel_rfl) (by kernel_rfl) (by kernel_rfl) hS (y_run (by rfl) fun _ => by rfl) ?_
        simp only [Act.put, List.setIfInBounds_toArray, List.set_cons_zero, List.set_cons_succ]
        refine mv_done (by kernel_rfl) ?_
        have HB2 := Lib.hid (below_trans HB'.out hS HB'.out.size)
        have PX2 := Lib.hid (PX'.out.below hS PX'.out.lt)
        have PY2 := Lib.hid (PY'.out.below hS PY'.out.lt)
        have c2 := HR.out.cell PX2.out k hlt
        rw [HXk.out] at c2
        clear hS c0
        go_wp2_with fail
        go_roundw
        case rel => exact ⟨k + 1, by omega, by go_num, by first | (rw [HXd.out]; done) | rw [HXd.out, g], HB2, PX2, PY2⟩
        case measure => simp [intOf]; omega
      · have hx1 : decide (0 < x) = false := decide_eq_false (by omega)
        have hx2 : decide (x < 0) = true := decide_eq_true g
        have ha2 : decide (0 < a) = false := decide_eq_false (by omega)
        rw [← hkk]
        refine mv_start fun hS => ?_
        refine mv_yield (i := 0) (d := 29) (.int .i64 kk) rfl rfl (by kernel_rfl) (by kernel_rfl) (by kernel_rfl) hS (y_run (by rfl) fun _ => by rfl) ?_
        simp only [Act.put, List.setIfInBounds_toArray, List.set_cons_zero, List.set_cons_succ]
        refine mv_yield (i := 1) (d := 30) (.pointer (some ⟨b, k, none⟩)) rfl rfl (by kernel_rfl) (by kernel_rfl) (by kernel_rfl) hS (y_at (m := 16) (k := k) (by rfl) rfl rfl rfl Try.underlying30 hkk hlt) ?_
        simp only [Act.put, List.setIfInBounds_toArray, List.set_cons_zero, List.set_cons_succ]
        refine mv_yield (i := 2) (d := 31) (.int .i64 x) rfl rfl (by kernel_rfl) (by kernel_rfl) (by kernel_rfl) hS (y_cell (by rfl) rfl rfl c0) ?_
        simp only [Act.put, List.setIfInBounds_toArray, List.set_cons_zero, List.set_cons_succ]
        refine mv_yield (i := 3) (d := 32) (.int .i64 kk) rfl rfl (by kernel_rfl) (by kernel_rfl) (by kernel_rfl) hS (y_run (by rfl) fun _ => by rfl) ?_
        simp only [Act.put, List.setIfInBounds_toArray, List.set_cons_zero, List.set_cons_succ]
        refine mv_yield (i := 4) (d := 33) (.pointer (some ⟨b, k, none⟩)) rfl rfl (by kernel_rfl) (by kernel_rfl) (by kernel_rfl) hS (y_at (m := 16) (k := k) (by rfl) rfl rfl rfl Try.underlying30 hkk hlt) ?_
        simp only [Act.put, List.setIfInBounds_toArray, List.set_cons_zero, List.set_cons_succ]
        refine mv_yield (i := 5) (d := 34) (.int .i64 x) rfl rfl (by kernel_rfl) (by kernel_rfl) (by kernel_rfl) hS (y_cell (by rfl) rfl rfl c0) ?_
        simp only [Act.put, List.setIfInBounds_toArray, List.set_cons_zero, List.set_cons_succ]
        refine mv_yield (i := 6) (d := 35) (.int .i64 ((-x))) rfl rfl (by kernel_rfl) (by kernel_rfl) (by kernel_rfl) hS (y_neg (by rfl) rfl rfl hnx) ?_
        simp only [Act.put, List.setIfInBounds_toArray, List.set_cons_zero, List.set_cons_succ]
        refine mv_yield (i := 7) (d := 36) (.int .i64 ux) rfl rfl (by kernel_rfl) (by kernel_rfl) (by kernel_rfl) hS (y_abs (by rfl) rfl rfl rfl rfl hux) ?_
        simp only [Act.put, List.setIfInBounds_toArray, List.set_cons_zero, List.set_cons_succ]
        refine mv_yield (i := 8) (d := 37) (.int .i64 a) rfl rfl (by kernel_rfl) (by kernel_rfl) (by kernel_rfl) hS (y_run (by rfl) fun _ => by rfl) ?_
        simp only [Act.put, List.setIfInBounds_toArray, List.set_cons_zero, List.set_cons_succ]
        refine mv_yield (i := 9) (d := 38) (.int .i64 a) rfl rfl (by kernel_rfl) (by kernel_rfl) (by kernel_rfl) hS (y_run (by rfl) fun _ => by rfl) ?_
        simp only [Act.put, List.setIfInBounds_toArray, List.set_cons_zero, List.set_cons_succ]
        refine mv_yield (i := 10) (d := 39) (.int .i64 ((-a))) rfl rfl (by kernel_rfl) (by kernel_rfl) (by kernel_rfl) hS (y_neg (by rfl) rfl rfl hna) ?_
        simp only [Act.put, List.setIfInBounds_toArray, List.set_cons_zero, List.set_cons_succ]
        refine mv_yield (i := 11) (d := 40) (.int .i64 ua) rfl rfl (by kernel_rfl) (by kernel_rfl) (by kernel_rfl) hS (y_abs (by rfl) rfl rfl rfl rfl hua) ?_
        simp only [Act.put, List.setIfInBounds_toArray, List.set_cons_zero, List.set_cons_succ]
        refine mv_yield (i := 12) (d := 41) (.bool false) rfl rfl (by kernel_rfl) (by kernel_rfl) (by kernel_rfl) hS (y_gtr (by rfl) rfl rfl rfl hle) ?_
        simp only [Act.put, List.setIfInBounds_toArray, List.set_cons_zero, List.set_cons_succ]
        refine mv_yield (i := 13) (d := 42) (.bool false) rfl rfl (by kernel_rfl) (by kernel_rfl) (by kernel_rfl) hS (y_run (by rfl) fun _ => by rfl) ?_
        simp only [Act.put, List.setIfInBounds_toArray, List.set_cons_zero, List.set_cons_succ]
        refine mv_yield (i := 14) (d := 43) (.int .i64 kk) rfl rfl (by kernel_rfl) (by kernel_rfl) (by kernel_rfl) hS (y_run (by rfl) fun _ => by rfl) ?_
        simp only [Act.put, List.setIfInBounds_toArray, List.set_cons_zero, List.set_cons_succ]
        refine mv_yield (i := 15) (d := 44) (.pointer (some ⟨b, k, none⟩)) rfl rfl (by kernel_rfl) (by kernel_rfl) (by kernel_rfl) hS (y_at (m := 16) (k := k) (by rfl) rfl rfl rfl Try.underlying30 hkk hlt) ?_
        simp only [Act.put, List.setIfInBounds_toArray, List.set_cons_zero, List.set_cons_succ]
        refine mv_yield (i := 16) (d := 45) (.int .i64 x) rfl rfl (by kernel_rfl) (by kernel_rfl) (by kernel_rfl) hS (y_cell (by rfl) rfl rfl c0) ?_
        simp only [Act.put, List.setIfInBounds_toArray, List.set_cons_zero, List.set_cons_succ]
        refine mv_yield (i := 17) (d := 46) (.bool false) rfl rfl (by kernel_rfl) (by kernel_rfl) (by kernel_rfl) hS (y_gtr (by rfl) rfl rfl rfl hx1) ?_
        simp only [Act.put, List.setIfInBounds_toArray, List.set_cons_zero, List.set_cons_succ]
        refine mv_yield (i := 18) (d := 47) (.bool false) rfl rfl (by kernel_rfl) (by kernel_rfl) (by kernel_rfl) hS (y_run (by rfl) fun _ => by rfl) ?_
        simp only [Act.put, List.setIfInBounds_toArray, List.set_cons_zero, List.set_cons_succ]
        refine mv_yield (i := 19) (d := 48) undef rfl rfl (by kernel_rfl) (by kernel_rfl) (by kernel_rfl) hS (y_skip (by rfl)) ?_
        simp only [Act.put, List.setIfInBounds_toArray, List.set_cons_zero, List.set_cons_succ]
        refine mv_yield (i := 20) (d := 49) undef rfl rfl (by kernel_rfl) (by kernel_rfl) (by kernel_rfl) hS (y_skip (by rfl)) ?_
        simp only [Act.put, List.setIfInBounds_toArray, List.set_cons_zero, List.set_cons_succ]
        refine mv_yield (i := 21) (d := 50) (.bool false) rfl rfl (by kernel_rfl) (by kernel_rfl) (by kernel_rfl) hS (y_run (by rfl) fun _ => by rfl) ?_
        simp only [Act.put, List.setIfInBounds_toArray, List.set_cons_zero, List.set_cons_succ]
        refine mv_yield (i := 22) (d := 51) (.bool false) rfl rfl (by kernel_rfl) (by kernel_rfl) (by kernel_rfl) hS (y_run (by rfl) fun _ => by rfl) ?_
        simp only [Act.put, List.setIfInBounds_toArray, List.set_cons_zero, List.set_cons_succ]
        refine mv_yield (i := 23) (d := 52) (.bool false) rfl rfl (by kernel_rfl) (by kernel_rfl) (by kernel_rfl) hS (y_run (by rfl) fun _ => by rfl) ?_
        simp only [Act.put, List.setIfInBounds_toArray, List.set_cons_zero, List.set_cons_succ]
        refine mv_yield (i := 24) (d := 53) (.int .i64 kk) rfl rfl (by kernel_rfl) (by kernel_rfl) (by kernel_rfl) hS (y_run (by rfl) fun _ => by rfl) ?_
        simp only [Act.put, List.setIfInBounds_toArray, List.set_cons_zero, List.set_cons_succ]
        refine mv_yield (i := 25) (d := 54) (.pointer (some ⟨b, k, none⟩)) rfl rfl (by kernel_rfl) (by kernel_rfl) (by kernel_rfl) hS (y_at (m := 16) (k := k) (by rfl) rfl rfl rfl Try.underlying30 hkk hlt) ?_
        simp only [Act.put, List.setIfInBounds_toArray, List.set_cons_zero, List.set_cons_succ]
        refine mv_yield (i := 26) (d := 55) (.int .i64 x) rfl rfl (by kernel_rfl) (by kernel_rfl) (by kernel_rfl) hS (y_cell (by rfl) rfl rfl c0) ?_
        simp only [Act.put, List.setIfInBounds_toArray, List.set_cons_zero, List.set_cons_succ]
        refine mv_yield (i := 27) (d := 56) (.bool true) rfl rfl (by kernel_rfl) (by kernel_rfl) (by kernel_rfl) hS (y_lss (by rfl) rfl rfl rfl hx2) ?_
        simp only [Act.put, List.setIfInBounds_toArray, List.set_cons_zero, List.set_cons_succ]
        refine mv_yield (i := 28) (d := 57) (.bool true) rfl rfl (by kernel_rfl) (by kernel_rfl) (by kernel_rfl) hS (y_run (by rfl) fun _ => by rfl) ?_
        simp only [Act.put, List.setIfInBounds_toArray, List.set_cons_zero, List.set_cons_succ]
        refine mv_yield (i := 29) (d := 58) (.int .i64 a) rfl rfl (by kernel_rfl) (by kernel_rfl) (by kernel_rfl) hS (y_run (by rfl) fun _ => by rfl) ?_
        simp only [Act.put, List.setIfInBounds_toArray, List.set_cons_zero, List.set_cons_succ]
        refine mv_yield (i := 30) (d := 59) (.bool false) rfl rfl (by kernel_rfl) (by kernel_rfl) (by kernel_rfl) hS (y_gtr (by rfl) rfl rfl rfl ha2) ?_
        simp only [Act.put, List.setIfInBounds_toArray, List.set_cons_zero, List.set_cons_succ]
        refine mv_yield (i := 31) (d := 60) (.bool false) rfl rfl (by kernel_rfl) (by kernel_rfl) (by kernel_rfl) hS (y_run (by rfl) fun _ => by rfl) ?_
        simp only [Act.put, List.setIfInBounds_toArray, List.set_cons_zero, List.set_cons_succ]
        refine mv_yield (i := 32) (d := 61) (.bool false) rfl rfl (by kernel_rfl) (by kernel_rfl) (by kernel_rfl) hS (y_run (by rfl) fun _ => by rfl) ?_
        simp only [Act.put, List.setIfInBounds_toArray, List.set_cons_zero, List.set_cons_succ]
        refine mv_done (by kernel_rfl) ?_
        have HB2 := Lib.hid (below_trans HB'.out hS HB'.out.size)
        have PX2 := Lib.hid (PX'.out.below hS PX'.out.lt)
        have PY2 := Lib.hid (PY'.out.below hS PY'.out.lt)
        have c2 := HR.out.cell PX2.out k hlt
        rw [HXk.out] at c2
        clear hS c0
        go_wp2_with fail
        go_roundw
        case rel => exact ⟨k + 1, by omega, by go_num, by first | (rw [HXd.out]; done) | rw [HXd.out, g], HB2, PX2, PY2⟩
        case measure => simp [intOf]; omega
      · have hx1 : decide (0 < x) = false := decide_eq_false (by omega)
        have hx2 : decide (x < 0) = false := decide_eq_false (by omega)
        rw [← hkk]
        refine mv_start fun hS => ?_
        refine mv_yield (i := 0) (d := 29) (.int .i64 kk) rfl rfl (by kernel_rfl) (by kernel_rfl) (by kernel_rfl) hS (y_run (by rfl) fun _ => by rfl) ?_
        simp only [Act.put, List.setIfInBounds_toArray, List.set_cons_zero, List.set_cons_succ]
        refine mv_yield (i := 1) (d := 30) (.pointer (some ⟨b, k, none⟩)) rfl rfl (by kernel_rfl) (by kernel_rfl) (by kernel_rfl) hS (y_at (m := 16) (k := k) (by rfl) rfl rfl rfl Try.underlying30 hkk hlt) ?_
        simp only [Act.put, List.setIfInBounds_toArray, List.set_cons_zero, List.set_cons_succ]
        refine mv_yield (i := 2) (d := 31) (.int .i64 x) rfl rfl (by kernel_rfl) (by kernel_rfl) (by kernel_rfl) hS (y_cell (by rfl) rfl rfl c0) ?_
        simp only [Act.put, List.setIfInBounds_toArray, List.set_cons_zero, List.set_cons_succ]
        refine mv_yield (i := 3) (d := 32) (.int .i64 kk) rfl rfl (by kernel_rfl) (by kernel_rfl) (by kernel_rfl) hS (y_run (by rfl) fun _ => by rfl) ?_
        simp only [Act.put, List.setIfInBounds_toArray, List.set_cons_zero, List.set_cons_succ]
        refine mv_yield (i := 4) (d := 33) (.pointer (some ⟨b, k, none⟩)) rfl rfl (by kernel_rfl) (by kernel_rfl) (by kernel_rfl) hS (y_at (m := 16) (k := k) (by rfl) rfl rfl rfl Try.underlying30 hkk hlt) ?_
        simp only [Act.put, List.setIfInBounds_toArray, List.set_cons_zero, List.set_cons_succ]
        refine mv_yield (i := 5) (d := 34) (.int .i64 x) rfl rfl (by kernel_rfl) (by kernel_rfl) (by kernel_rfl) hS (y_cell (by rfl) rfl rfl c0) ?_
        simp only [Act.put, List.setIfInBounds_toArray, List.set_cons_zero, List.set_cons_succ]
        refine mv_yield (i := 6) (d := 35) (.int .i64 ((-x))) rfl rfl (by kernel_rfl) (by kernel_rfl) (by kernel_rfl) hS (y_neg (by rfl) rfl rfl hnx) ?_
        simp only [Act.put, List.setIfInBounds_toArray, List.set_cons_zero, List.set_cons_succ]
        refine mv_yield (i := 7) (d := 36) (.int .i64 ux) rfl rfl (by kernel_rfl) (by kernel_rfl) (by kernel_rfl) hS (y_abs (by rfl) rfl rfl rfl rfl hux) ?_
        simp only [Act.put, List.setIfInBounds_toArray, List.set_cons_zero, List.set_cons_succ]
        refine mv_yield (i := 8) (d := 37) (.int .i64 a) rfl rfl (by kernel_rfl) (by kernel_rfl) (by kernel_rfl) hS (y_run (by rfl) fun _ => by rfl) ?_
        simp only [Act.put, List.setIfInBounds_toArray, List.set_cons_zero, List.set_cons_succ]
        refine mv_yield (i := 9) (d := 38) (.int .i64 a) rfl rfl (by kernel_rfl) (by kernel_rfl) (by kernel_rfl) hS (y_run (by rfl) fun _ => by rfl) ?_
        simp only [Act.put, List.setIfInBounds_toArray, List.set_cons_zero, List.set_cons_succ]
        refine mv_yield (i := 10) (d := 39) (.int .i64 ((-a))) rfl rfl (by kernel_rfl) (by kernel_rfl) (by kernel_rfl) hS (y_neg (by rfl) rfl rfl hna) ?_
        simp only [Act.put, List.setIfInBounds_toArray, List.set_cons_zero, List.set_cons_succ]
        refine mv_yield (i := 11) (d := 40) (.int .i64 ua) rfl rfl (by kernel_rfl) (by kernel_rfl) (by kernel_rfl) hS (y_abs (by rfl) rfl rfl rfl rfl hua) ?_
        simp only [Act.put, List.setIfInBounds_toArray, List.set_cons_zero, List.set_cons_succ]
        refine mv_yield (i := 12) (d := 41) (.bool false) rfl rfl (by kernel_rfl) (by kernel_rfl) (by kernel_rfl) hS (y_gtr (by rfl) rfl rfl rfl hle) ?_
        simp only [Act.put, List.setIfInBounds_toArray, List.set_cons_zero, List.set_cons_succ]
        refine mv_yield (i := 13) (d := 42) (.bool false) rfl rfl (by kernel_rfl) (by kernel_rfl) (by kernel_rfl) hS (y_run (by rfl) fun _ => by rfl) ?_
        simp only [Act.put, List.setIfInBounds_toArray, List.set_cons_zero, List.set_cons_succ]
        refine mv_yield (i := 14) (d := 43) (.int .i64 kk) rfl rfl (by kernel_rfl) (by kernel_rfl) (by kernel_rfl) hS (y_run (by rfl) fun _ => by rfl) ?_
        simp only [Act.put, List.setIfInBounds_toArray, List.set_cons_zero, List.set_cons_succ]
        refine mv_yield (i := 15) (d := 44) (.pointer (some ⟨b, k, none⟩)) rfl rfl (by kernel_rfl) (by kernel_rfl) (by kernel_rfl) hS (y_at (m := 16) (k := k) (by rfl) rfl rfl rfl Try.underlying30 hkk hlt) ?_
        simp only [Act.put, List.setIfInBounds_toArray, List.set_cons_zero, List.set_cons_succ]
        refine mv_yield (i := 16) (d := 45) (.int .i64 x) rfl rfl (by kernel_rfl) (by kernel_rfl) (by kernel_rfl) hS (y_cell (by rfl) rfl rfl c0) ?_
        simp only [Act.put, List.setIfInBounds_toArray, List.set_cons_zero, List.set_cons_succ]
        refine mv_yield (i := 17) (d := 46) (.bool false) rfl rfl (by kernel_rfl) (by kernel_rfl) (by kernel_rfl) hS (y_gtr (by rfl) rfl rfl rfl hx1) ?_
        simp only [Act.put, List.setIfInBounds_toArray, List.set_cons_zero, List.set_cons_succ]
        refine mv_yield (i := 18) (d := 47) (.bool false) rfl rfl (by kernel_rfl) (by kernel_rfl) (by kernel_rfl) hS (y_run (by rfl) fun _ => by rfl) ?_
        simp only [Act.put, List.setIfInBounds_toArray, List.set_cons_zero, List.set_cons_succ]
        refine mv_yield (i := 19) (d := 48) undef rfl rfl (by kernel_rfl) (by kernel_rfl) (by kernel_rfl) hS (y_skip (by rfl)) ?_
        simp only [Act.put, List.setIfInBounds_toArray, List.set_cons_zero, List.set_cons_succ]
        refine mv_yield (i := 20) (d := 49) undef rfl rfl (by kernel_rfl) (by kernel_rfl) (by kernel_rfl) hS (y_skip (by rfl)) ?_
        simp only [Act.put, List.setIfInBounds_toArray, List.set_cons_zero, List.set_cons_succ]
        refine mv_yield (i := 21) (d := 50) (.bool false) rfl rfl (by kernel_rfl) (by kernel_rfl) (by kernel_rfl) hS (y_run (by rfl) fun _ => by rfl) ?_
        simp only [Act.put, List.setIfInBounds_toArray, List.set_cons_zero, List.set_cons_succ]
        refine mv_yield (i := 22) (d := 51) (.bool false) rfl rfl (by kernel_rfl) (by kernel_rfl) (by kernel_rfl) hS (y_run (by rfl) fun _ => by rfl) ?_
        simp only [Act.put, List.setIfInBounds_toArray, List.set_cons_zero, List.set_cons_succ]
        refine mv_yield (i := 23) (d := 52) (.bool false) rfl rfl (by kernel_rfl) (by kernel_rfl) (by kernel_rfl) hS (y_run (by rfl) fun _ => by rfl) ?_
        simp only [Act.put, List.setIfInBounds_toArray, List.set_cons_zero, List.set_cons_succ]
        refine mv_yield (i := 24) (d := 53) (.int .i64 kk) rfl rfl (by kernel_rfl) (by kernel_rfl) (by kernel_rfl) hS (y_run (by rfl) fun _ => by rfl) ?_
        simp only [Act.put, List.setIfInBounds_toArray, List.set_cons_zero, List.set_cons_succ]
        refine mv_yield (i := 25) (d := 54) (.pointer (some ⟨b, k, none⟩)) rfl rfl (by kernel_rfl) (by kernel_rfl) (by kernel_rfl) hS (y_at (m := 16) (k := k) (by rfl) rfl rfl rfl Try.underlying30 hkk hlt) ?_
        simp only [Act.put, List.setIfInBounds_toArray, List.set_cons_zero, List.set_cons_succ]
        refine mv_yield (i := 26) (d := 55) (.int .i64 x) rfl rfl (by kernel_rfl) (by kernel_rfl) (by kernel_rfl) hS (y_cell (by rfl) rfl rfl c0) ?_
        simp only [Act.put, List.setIfInBounds_toArray, List.set_cons_zero, List.set_cons_succ]
        refine mv_yield (i := 27) (d := 56) (.bool false) rfl rfl (by kernel_rfl) (by kernel_rfl) (by kernel_rfl) hS (y_lss (by rfl) rfl rfl rfl hx2) ?_
        simp only [Act.put, List.setIfInBounds_toArray, List.set_cons_zero, List.set_cons_succ]
        refine mv_yield (i := 28) (d := 57) (.bool false) rfl rfl (by kernel_rfl) (by kernel_rfl) (by kernel_rfl) hS (y_run (by rfl) fun _ => by rfl) ?_
        simp only [Act.put, List.setIfInBounds_toArray, List.set_cons_zero, List.set_cons_succ]
        refine mv_yield (i := 29) (d := 58) undef rfl rfl (by kernel_rfl) (by kernel_rfl) (by kernel_rfl) hS (y_skip (by rfl)) ?_
        simp only [Act.put, List.setIfInBounds_toArray, List.set_cons_zero, List.set_cons_succ]
        refine mv_yield (i := 30) (d := 59) undef rfl rfl (by kernel_rfl) (by kernel_rfl) (by kernel_rfl) hS (y_skip (by rfl)) ?_
        simp only [Act.put, List.setIfInBounds_toArray, List.set_cons_zero, List.set_cons_succ]
        refine mv_yield (i := 31) (d := 60) (.bool false) rfl rfl (by kernel_rfl) (by kernel_rfl) (by kernel_rfl) hS (y_run (by rfl) fun _ => by rfl) ?_
        simp only [Act.put, List.setIfInBounds_toArray, List.set_cons_zero, List.set_cons_succ]
        refine mv_yield (i := 32) (d := 61) (.bool false) rfl rfl (by kernel_rfl) (by kernel_rfl) (by kernel_rfl) hS (y_run (by rfl) fun _ => by rfl) ?_
        simp only [Act.put, List.setIfInBounds_toArray, List.set_cons_zero, List.set_cons_succ]
        refine mv_done (by kernel_rfl) ?_
        have HB2 := Lib.hid (below_trans HB'.out hS HB'.out.size)
        have PX2 := Lib.hid (PX'.out.below hS PX'.out.lt)
        have PY2 := Lib.hid (PY'.out.below hS PY'.out.lt)
        have c2 := HR.out.cell PX2.out k hlt
        rw [HXk.out] at c2
        clear hS c0
        go_wp2_with fail
        go_roundw
        case rel => exact ⟨k + 1, by omega, by go_num, by first | (rw [HXd.out]; done) | rw [HXd.out, g], HB2, PX2, PY2⟩
        case measure => simp [intOf]; omega
    · have e16 : k = 16 := by omega
      have hn16 : ¬ (k : Int) < 16 := by omega
      rw [e16]
      clear e16 hk hlt
      have c16 := HQ.out.cell PY'.out 16 (by omega)
      rw [Q16.out] at c16
      have c15 := HR.out.cell PX'.out 15 (by omega)
      have c37 := HQ.out.cell PY'.out 37 (by omega)
      rw [Q37.out] at c37
      obtain ⟨y, hy⟩ : ∃ y, dieS n 16 = y := ⟨_, rfl⟩
      rw [hy] at c16
      rw [show dieS n (15 + 1) = y from hy] at c15
      clear hy
      go_wp2_with (first
        | refine wpList_load_part (by rfl) 30 _ rfl (b + 1) 0 rfl HQ.out PY'.out HM.out (by omega) (fun i _ => rfl) Try.underlying30 rfl (HIB.out _ HM.out.1) ?_
        | refine wpList_build_parts (by rfl) 30 [] rfl _ rfl HBD.out ?_)
      go_ret
      exact ⟨rfl, HB'.out⟩
end Go.Proofs.Ytinbdkneakblfaa.Sta
