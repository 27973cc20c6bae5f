/- Texts of the walk, one behind the other. -/
import Derived.Test.YtfohinlldchdpaaGreatDoorWholeWayM8
import Derived.Test.YtfohinlldchdpaaGreatDoorWholeWayM4
import Derived.Deep.DeepCutAuto
import Derived.Test.YtfohinlldchdpaaGreatDoorWholeWayM2

section
/- Contracts: state.Next: what stands behind Back, and the moves through the regions that draw their order. -/
set_option maxRecDepth 100000
set_option linter.unusedVariables false
namespace Go.Proofs.YtfohinlldchdpaaGreatDoor.Sta
open Go.RowKit Go.Proofs.YtfohinlldchdpaaGreatDoor.Row Go.Proofs.YtfohinlldchdpaaGreatDoor.Md Go.Proofs.YtfohinlldchdpaaGreatDoor.Tl

/-- What stands behind Back: the first (F) and the last (L) 16 numbers, side by side. -/
def Ny (w : World) (T V U A B P : Array Value) (c : Nat) (F L : Array Value) (w' : World) : Prop := Nx w T V U A B P w' ∧ w.heap.size + 1 + 1 + 1 + 1 + 1 + 1 ≤ c ∧ At w' c F 32 ∧ At w' (c + 1) L 32
theorem Ny.start {w W : World} {T V U A B P : Array Value} (h : Nx w T V U A B P W) (Z : Array Value) : Ny w T V U A B P W.heap.size Z Z ((W.alloc (.cells Z 32)).alloc (.cells Z 32)) := by
  have a1 := At.new (W.alloc (.cells Z 32)) Z 32
  simp only [World.size_alloc] at a1
  exact ⟨(h.alloc _).alloc _, h.2.1, (At.new _ _ _).alloc _, a1⟩
section
variable {w w1 w2 : World} {T V U A B P F L : Array Value} {c : Nat}
theorem Ny.below {n : Nat} (h : Ny w T V U A B P c F L w1) (hb : Below n w1 w2) (hn : c + 1 + 1 ≤ n) : Ny w T V U A B P c F L w2 := by
  obtain ⟨h0, h1, h2, h3⟩ := h
  exact ⟨h0.below hb (by omega), h1, h2.below hb (by omega), h3.below hb (by omega)⟩
theorem Ny.next (h : Ny w T V U A B P c F L w1) (hb : Below w1.heap.size w1 w2) : Ny w T V U A B P c F L w2 := h.below hb (by have := h.2.2.2.lt; omega)
theorem Ny.alloc (h : Ny w T V U A B P c F L w1) (o : Obj) : Ny w T V U A B P c F L (w1.alloc o) := h.next ((Below.refl _ _).alloc (Nat.le_refl _) o)
theorem Ny.drew (h : Ny w T V U A B P c F L w1) : Ny w T V U A B P c F L w1.drew := ⟨h.1.drew, h.2⟩
theorem Nx.other {b : Nat} (h : Nx w T V U A B P w1) (hb : w.heap.size + 1 + 1 + 1 + 1 + 1 + 1 ≤ b) (R : Array Value) : Nx w T V U A B P (w1.setRow b R) := by
  obtain ⟨h0, h1, h2, h3, h4, h5, h6, h7⟩ := h
  exact ⟨below_setRow' h0 (by omega) _, by rw [size_setRow]; exact h1, h2.setRow_other (by omega), h3.setRow_other (by omega), h4.setRow_other (by omega), h5.setRow_other (by omega), h6.setRow_other (by omega), h7.setRow_other (by omega)⟩
theorem Ny.setF (h : Ny w T V U A B P c F L w1) (R : Array Value) : Ny w T V U A B P c R L (w1.setRow c R) := by
  obtain ⟨h0, h1, h2, h3⟩ := h
  exact ⟨h0.other h1 _, h1, h2.setRow, h3.setRow_other (by omega)⟩
theorem Ny.setL (h : Ny w T V U A B P c F L w1) (R : Array Value) : Ny w T V U A B P c F R (w1.setRow (c + 1) R) := by
  obtain ⟨h0, h1, h2, h3⟩ := h
  exact ⟨h0.other (by omega) _, h1, h2.setRow_other (by omega), h3.setRow⟩
theorem Ny.other {b : Nat} (h : Ny w T V U A B P c F L w1) (hb : c + 1 + 1 ≤ b) (R : Array Value) : Ny w T V U A B P c F L (w1.setRow b R) := by
  obtain ⟨h0, h1, h2, h3⟩ := h
  exact ⟨h0.other (by omega) _, h1, h2.setRow_other (by omega), h3.setRow_other (by omega)⟩
theorem Ny.setP (h : Ny w T V U A B P c F L w1) (i : Nat) (v : Value) : Ny w T V U A B (P.setIfInBounds i v) c F L (w1.setCell ⟨w.heap.size + 1 + 1 + 1 + 1 + 1, i, none⟩ v) := by
  obtain ⟨h0, h1, h2, h3⟩ := h
  exact ⟨h0.setP i v, h1, h2.setCell_other (by dsimp only; omega), h3.setCell_other (by dsimp only; omega)⟩
end

/-- The state then, k numbers of Mem laid. -/
def mmF (u g : Nat → Int) (k j : Nat) : Int := if j < k then ct (bS u (16 + j)) else g j
theorem mm_0 (u g : Nat → Int) (j : Nat) : mmF u g 0 j = g j := by unfold mmF; rw [if_neg (by omega)]
theorem mm_next (u g : Nat → Int) (k j : Nat) : (if j = k then ct (bS u (16 + k)) else mmF u g k j) = mmF u g (k + 1) j := by
  unfold mmF
  by_cases c : j = k
  · rw [if_pos c, if_pos (by omega), c]
  · rw [if_neg c]
    by_cases c2 : j < k
    · rw [if_pos c2, if_pos (by omega)]
    · rw [if_neg c2, if_neg (by omega)]
theorem mm_set {u g : Nat → Int} {k : Nat} {p : Int} {P : Array Value} (hP : IsRow 38 (mmF u g k) P) (hk : k < 38) (hp : ct (bS u (16 + k)) = p) : IsRow 38 (mmF u g (k + 1)) (P.setIfInBounds k (.int .i64 p)) :=
  (hP.set p hk).ext fun j _ => by rw [← hp]; exact mm_next u g k j

/-- What is laid down behind a state. -/
def lyF (f u : Nat → Int) : Nat → Int := laS (f 16) (ovS f (bS u))
/-- The sound. -/
def soF (f u : Nat → Int) (k : Nat) : Int := ct16 (lyF f u k)
/-- The state then. -/
def nxF (f v u : Nat → Int) (z : Int) : Nat → Int := stF (fun i => ct (bS u (16 + i))) (lyF f u 15) v u z
theorem mm_end (f v u : Nat → Int) (z : Int) (j : Nat) : (if j = 16 then lyF f u 15 else mmF u (thF v u z) 16 j) = nxF f v u z j := by
  unfold mmF nxF thF stF
  by_cases c1 : j = 16
  · subst c1; rfl
  · rw [if_neg c1]
    by_cases c2 : j < 16
    · rw [if_pos c2, if_pos c2]
    · rw [if_neg c2, if_neg c2, if_neg c1, if_neg c2, if_neg c1]
theorem mm_last {f v u : Nat → Int} {z q : Int} {P : Array Value} (hP : IsRow 38 (mmF u (thF v u z) 16) P) (hq : lyF f u 15 = q) : IsRow 38 (nxF f v u z) (P.setIfInBounds 16 (.int .i64 q)) :=
  (hP.set q (show 16 < 38 by omega)).ext fun j _ => by rw [← hq]; exact mm_end f v u z j
theorem th_le {v u : Nat → Int} {z : Int} (h : Rt (thF v u z)) : Le 1048576 u := fun i hi => by
  have := h.2.2.2.1 i hi
  unfold thF at this
  dsimp only at this
  rwa [stF_wav _ _ _ _ _ hi] at this

theorem enter_over (args : Array Value) (w : World) : (callFunc 90 args).run Tryz.prog w = .ok (.enter 90 args) w := run_enter Tryz.func90 (by kernel_rfl) rfl args w
theorem enter_lay (args : Array Value) (w : World) : (callFunc 89 args).run Tryz.prog w = .ok (.enter 89 args) w := run_enter Tryz.func89 (by kernel_rfl) rfl args w
theorem enter_sound (args : Array Value) (w : World) : (callFunc 91 args).run Tryz.prog w = .ok (.enter 91 args) w := run_enter Tryz.func91 (by kernel_rfl) rfl args w
end Go.Proofs.YtfohinlldchdpaaGreatDoor.Sta
end

section
/- Contracts: state.Next of right states. -/
set_option maxRecDepth 100000
set_option linter.unusedVariables false
namespace Go.Proofs.YtfohinlldchdpaaGreatDoor.Sta
open Go.RowKit Go.Proofs.YtfohinlldchdpaaGreatDoor.Row Go.Proofs.YtfohinlldchdpaaGreatDoor.Md Go.Proofs.YtfohinlldchdpaaGreatDoor.Tl

/-- What stands while the results are laid. -/
def Nz (w : World) (T V U P : Array Value) (b : Nat) (R : Array Value) (w' : World) : Prop := ∃ A B : Array Value, A.size = 16 ∧ B.size = 38 ∧ Nx w T V U A B P w' ∧ At w' b R 32 ∧ w.heap.size + 1 + 1 + 1 + 1 + 1 + 1 ≤ b
theorem Nz.atR {w w' : World} {T V U P R : Array Value} {b : Nat} (h : Nz w T V U P b R w') : At w' b R 32 := by
  obtain ⟨_, _, _, _, _, h, _⟩ := h; exact h
theorem Nz.atP {w w' : World} {T V U P R : Array Value} {b : Nat} (h : Nz w T V U P b R w') : At w' (w.heap.size + 1 + 1 + 1 + 1 + 1) P 34 := by
  obtain ⟨_, _, _, _, h, _, _⟩ := h; exact h.2.2.2.2.2.2.2
theorem Nz.next {w w1 w2 : World} {T V U P R : Array Value} {b : Nat} (h : Nz w T V U P b R w1) (hb : Below w1.heap.size w1 w2) : Nz w T V U P b R w2 := by
  obtain ⟨A, B, h1, h2, h3, h4, h5⟩ := h
  exact ⟨A, B, h1, h2, h3.next hb, h4.below hb h4.lt, h5⟩

set_option maxHeartbeats 2000000 in
theorem next_yes (T V U : Array Value) (f v u : Nat → Int) (z : Int) (hT : IsRow 38 f T) (hV : IsRow 4 v V) (hU : IsRow 16 u U) (hr : Rt f) (hr2 : Rt (thF v u z)) (w : World) :
    Calls Tryz.prog 37 #[.agg T, .agg V, .agg U, .int .i64 z] w (RetNx w (soF f u) (nxF f v u z)) := by
  obtain ⟨Zp, hZp, _, hzp, hip⟩ := zero_p
  obtain ⟨Zb, hZb, _, hzb, hib⟩ := zero_b
  obtain ⟨_, _, _, _, hi4⟩ := zero_4
  obtain ⟨P, hP, bP⟩ := built_3 isSt_p hV hU z
  obtain ⟨F, hF⟩ : ∃ F, rowL 16 (bS u) 16 = F := ⟨_, rfl⟩
  obtain ⟨L, hL⟩ : ∃ F, rowL 16 (fun i => bS u (16 + i)) 16 = F := ⟨_, rfl⟩
  have hF' : IsRow 16 (bS u) F := by rw [← hF]; exact isRow _ _
  have hL' : IsRow 16 (fun i => bS u (16 + i)) L := by rw [← hL]; exact isRow _ _
  have hCB := fun w => back_yes U u hU (th_le hr2) w
  rw [hF, hL] at hCB
  obtain ⟨O, hO⟩ : ∃ O, rowL 16 (ovS f (bS u)) 16 = O := ⟨_, rfl⟩
  obtain ⟨M, hM⟩ : ∃ M, T.extract 0 (0 + 16) = M := ⟨_, rfl⟩
  have hM' : IsRow 16 f M := by
    rw [← hM]
    exact (hT.sub (show 0 + 16 ≤ 38 by omega)).ext fun i _ => by rw [Nat.zero_add]
  have hCO := fun w => over_any M F f (bS u) hM' hF' w
  rw [hO] at hCO
  have hO' : IsRow 16 (ovS f (bS u)) O := by rw [← hO]; exact isRow _ _
  obtain ⟨R, hR⟩ : ∃ O, rowL 16 (lyF f u) 16 = O := ⟨_, rfl⟩
  have hR' : IsRow 16 (lyF f u) R := by rw [← hR]; exact isRow _ _
  have hCL := fun w => lay_any (f 16) O (ovS f (bS u)) w hO'
  change ∀ w, Calls _ _ _ w fun e w' => e = .returned (.tuple #[.agg (rowL 16 (lyF f u) 16), .int .i64 (lyF f u 15)]) ∧ _ at hCL
  obtain ⟨q, hq⟩ : ∃ q, lyF f u 15 = q := ⟨_, rfl⟩
  rw [hR, hq] at hCL
  obtain ⟨x16, hx16⟩ : ∃ q, f 16 = q := ⟨_, rfl⟩
  rw [hx16] at hCL
  obtain ⟨Q, hQ⟩ : ∃ O, rowL 16 (soF f u) 16 = O := ⟨_, rfl⟩
  have hQ' : IsRow 16 (soF f u) Q := by rw [← hQ]; exact isRow _ _
  have hCS := fun w => sound_any R (lyF f u) w hR'
  change ∀ w, Calls _ _ _ w fun e w' => e = .returned (.agg (rowL 16 (soF f u) 16)) ∧ _ at hCS
  rw [hQ] at hCS
  have HCB := Lib.hid hCB
  have HCO := Lib.hid hCO
  have HCL := Lib.hid hCL
  have HCS := Lib.hid hCS
  have HF := Lib.hid hF'
  have HL := Lib.hid hL'
  have HM := Lib.hid hM'
  have HO := Lib.hid hO'
  have HQ := Lib.hid hQ'
  have HR := Lib.hid hR'
  have Hq := Lib.hid hq
  have H16 := Lib.hid hx16
  have HIP := Lib.hid hip
  have HIB := Lib.hid hib
  have HI4 := Lib.hid hi4
  have HT := Lib.hid hT
  have HV := Lib.hid hV
  have HU := Lib.hid hU
  have HP := Lib.hid hP
  have HBP := Lib.hid bP
  have HZP := Lib.hid hZp
  have HZB := Lib.hid hZb
  have HZBs := Lib.hid hZb.1
  have HZPs := Lib.hid hZp.1
  have HN := Lib.hid (Nx.start w T V U Zb Zp Zp)
  have HFV := Lib.hid (Nx.five w T V U Zb Zp)
  have HR1 := Lib.hid hr
  have HR2 := Lib.hid hr2
  have hMT := Lib.hid (fun i (hi : i < 16) => show f (0 + i) = f i by rw [Nat.zero_add])
  clear hT hV hU hip hib hi4 hP bP hZp hZb hr hr2 hF hL hF' hL' hCB hO hM hM' hCO hO' hR hR' hCL hq hx16 hQ hQ' hCS
  go_enter Tryz.func37, Tryz.ntmps37
  go_wp2_with (first
    | refine wpList_load_all (by rfl) 23 _ rfl (w.heap.size + 1) rfl HV.out HFV.out.1 Tryz.underlying23 rfl HI4.out ?_
    | refine wpList_load_all (by rfl) 32 _ rfl (w.heap.size + 1 + 1) rfl HU.out HFV.out.2 Tryz.underlying32 rfl HIB.out ?_
    | refine wpList_build_parts (by rfl) 34 [(2, _), (3, _), (4, _)] rfl _ rfl HBP.out ?_
    | (refine wpList_store_row rfl 34 _ _ rfl (w.heap.size + 1 + 1 + 1 + 1 + 1) P rfl rfl _ _ HN.out.2.2.2.2.2.2.2 (HIP.out _ HP.out.1) (by rw [HZP.out.1, HP.out.1]) HP.out.2.1 ?_
       have HW := Lib.hid (HN.out.setR P)
       clear HN HFV HBP
       revert HW
       generalize World.setRow _ _ _ = W
       intro HW)
    | refine wpList_load_all (by rfl) 34 _ rfl w.heap.size rfl HT.out HW.out.2.2.1 Tryz.underlying34 rfl HIP.out ?_)
  refine (right_yes T f W HT.out HR1.out).mono ?_
  rintro e W1 ⟨rfl, hb⟩
  replace HW := Lib.hid (HW.out.next hb)
  clear hb HR1 W
  go_wp2_with (refine wpList_load_all (by rfl) 34 _ rfl (w.heap.size + 1 + 1 + 1 + 1 + 1) rfl HP.out HW.out.2.2.2.2.2.2.2 Tryz.underlying34 rfl HIP.out ?_)
  refine (right_yes P _ W1 HP.out HR2.out).mono ?_
  rintro e W ⟨rfl, hb⟩
  replace HW := Lib.hid (HW.out.next hb)
  clear hb HR2 W1
  go_wp2_with (refine wpList_load_all (by rfl) 32 _ rfl (w.heap.size + 1 + 1) rfl HU.out HW.out.2.2.2.2.1 Tryz.underlying32 rfl HIB.out ?_)
  refine (HCB.out W).mono ?_
  rintro e W1 ⟨rfl, hb⟩
  replace HW := Lib.hid (HW.out.next hb)
  have HY := Lib.hid (Ny.start HW.out Zb)
  clear hb HCB W
  go_wp2_with (first
    | (refine wpList_store_row rfl 32 _ _ rfl W1.heap.size F rfl rfl _ _ HY.out.2.2.1 (HIB.out _ HF.out.1) (by rw [HZB.out.1, HF.out.1]) HF.out.2.1 ?_
       replace HY := Lib.hid (HY.out.setF F)
       revert HY
       generalize World.setRow _ _ _ = W
       intro HY)
    | (refine wpList_store_row rfl 32 _ _ rfl (W1.heap.size + 1) L rfl rfl _ _ HY.out.2.2.2 (HIB.out _ HL.out.1) (by rw [HZB.out.1, HL.out.1]) HL.out.2.1 ?_
       replace HY := Lib.hid (HY.out.setL L)
       revert HY
       generalize World.setRow _ _ _ = W'
       intro HY)
    | refine wpList_load_all (by rfl) 32 _ rfl (W1.heap.size + 1) rfl HL.out HY.out.2.2.2 Tryz.underlying32 rfl HIB.out ?_)
  clear HW HZB
  revert HY
  generalize W1.heap.size = c
  intro HY
  clear W1 W
  have HPP := Lib.hid (show IsRow 38 (mmF u (thF v u z) 0) P from HP.out.ext fun j _ => (mm_0 u (thF v u z) j).symm)
  clear HP
  go_loopw [37] (fun i w' => ∃ (k : Nat) (P : Array Value), k ≤ 16 ∧ i = .int .i64 k ∧ Hid (Ny w T V U Zb Zp P c F L w') ∧ Hid (IsRow 38 (mmF u (thF v u z) k) P)) (fun i _ => 16 - (intOf i).toNat)
  case atStart => exact ⟨0, P, by omega, rfl, HY, HPP⟩
  case round =>
    obtain ⟨k, P', hk, rfl, HY', HP'⟩ := hrel
    clear HY HPP
    by_cases hlt : k < 16
    · have k1 : (k : Int) < 16 := by omega
      obtain ⟨x, hx⟩ : ∃ x, bS u (16 + k) = x := ⟨_, rfl⟩
      have hcell : L[k]? = some (.int .i64 (bS u (16 + k))) := HL.out.2.2 k hlt
      rw [hx] at hcell
      have hidx : ∀ w' : World, (Instr.index 32 (.agg L) (.int .i64 (k : Int))).run Tryz.prog w' = .ok (.int .i64 x) w' := fun w' => run_index Tryz.underlying32 hlt hcell w'
      obtain ⟨p, hp⟩ : ∃ p, ct x = p := ⟨_, rfl⟩
      have c2 := HP'.out.cell HY'.out.1.2.2.2.2.2.2.2 k (by omega)
      have f2 := HY'.out.1.2.2.2.2.2.2.2.frozen k
      have HY2 := Lib.hid (HY'.out.setP k (.int .i64 p))
      have HP2 := Lib.hid (mm_set HP'.out (show k < 38 by omega) (show ct (bS u (16 + k)) = p by rw [hx]; exact hp))
      have HPp := Lib.hid hp
      clear hx hp hcell
      go_wp2_with fail
      refine (cut_as x p _ HPp.out).mono ?_
      rintro e w1 ⟨rfl, rfl⟩
      go_wp2_with fail
      go_roundw
      case rel => exact ⟨k + 1, _, by omega, by go_num, HY2, HP2⟩
      case measure => simp [intOf]; omega
    · have e16 : k = 16 := by omega
      have hn16 : ¬ (k : Int) < 16 := by omega
      rw [e16] at HP'
      clear e16 hk hlt HL
      go_upto_region 10 with fail
      clear hn16
      go_cut [15, 16] (fun x y wx => ∃ b : Nat, x = .pointer (some ⟨b, 0, none⟩) ∧ y = .int .i64 q ∧ Hid (Ny w T V U Zb Zp P' c F L wx) ∧ c + 1 + 1 ≤ b ∧ Hid (At wx b R 32))
      case first =>
        have hge : c + 1 + 1 ≤ wr.heap.size := HY'.out.2.2.2.lt
        refine mv_startS (Ny w T V U Zb Zp P' c F L) HY'.out.drew fun hS => ?_
        refine mv_yield (i := 0) (d := 48) (.pointer (some ⟨w.heap.size, 16, none⟩)) rfl rfl (by kernel_rfl) (by kernel_rfl) (by kernel_rfl) hS (y_field (by rfl) rfl rfl fld_p1) ?_
        simp only [Act.put, List.setIfInBounds_toArray, List.set_cons_zero, List.set_cons_succ]
        refine mv_yield (i := 1) (d := 49) (.int .i64 x16) rfl rfl (by kernel_rfl) (by kernel_rfl) (by kernel_rfl) hS (y_cellS (by rfl) rfl rfl (fun w' h => by have := HT.out.cell h.1.2.2.1 16 (by omega); rw [H16.out] at this; exact this)) ?_
        simp only [Act.put, List.setIfInBounds_toArray, List.set_cons_zero, List.set_cons_succ]
        refine mv_yield (i := 2) (d := 50) (.pointer (some ⟨w.heap.size, 0, none⟩)) rfl rfl (by kernel_rfl) (by kernel_rfl) (by kernel_rfl) hS (y_field (by rfl) rfl rfl fld_p0) ?_
        simp only [Act.put, List.setIfInBounds_toArray, List.set_cons_zero, List.set_cons_succ]
        refine mv_yield (i := 3) (d := 51) (.agg M) rfl rfl (by kernel_rfl) (by kernel_rfl) (by kernel_rfl) hS (y_load_part (l := 0) (by rfl) rfl rfl HT.out (fun w' h => h.1.2.2.1) HM.out (by omega) hMT.out Tryz.underlying32 rfl (HIB.out _ HM.out.1)) ?_
        simp only [Act.put, List.setIfInBounds_toArray, List.set_cons_zero, List.set_cons_succ]
        refine mv_yield (i := 4) (d := 52) (.agg F) rfl rfl (by kernel_rfl) (by kernel_rfl) (by kernel_rfl) hS (y_load_part (l := 0) (by rfl) rfl rfl HF.out (fun w' h => h.2.2.1) HF.out (by omega) (fun i _ => by rw [Nat.zero_add]) Tryz.underlying32 rfl (HIB.out _ HF.out.1)) ?_
        simp only [Act.put, List.setIfInBounds_toArray, List.set_cons_zero, List.set_cons_succ]
        refine mv_ready [5, 10] (by kernel_rfl) (by simp) (ar_callP (i := 5) (d := 53) #[.agg M, .agg F] rfl rfl (by rfl) rfl enter_over (by kernel_rfl) (HCO.out _) (fun w' h => hS.next h) ?_ (ar_alloc (i := 10) (d := 15) rfl rfl (by rfl) rfl hzb (hS.alloc _) ?_ AllReadyH.nil))
        · rintro w1 h1 hS1
          have hge1 : c + 1 + 1 ≤ w1.heap.size := hS1.2.2.2.lt
          clear hS
          simp only [Act.put, List.setIfInBounds_toArray, List.set_cons_zero, List.set_cons_succ]
          refine mv_ready [6, 10] (by kernel_rfl) (by simp) (ar_callP (i := 6) (d := 54) #[.int .i64 x16, .agg O] rfl rfl (by rfl) rfl enter_lay (by kernel_rfl) (HCL.out _) (fun w' h => hS1.next h) ?_ (ar_alloc (i := 10) (d := 15) rfl rfl (by rfl) rfl hzb (hS1.alloc _) ?_ AllReadyH.nil))
          · rintro w2 h2 hS2
            have hge2 : c + 1 + 1 ≤ w2.heap.size := hS2.2.2.2.lt
            clear hS1
            simp only [Act.put, List.setIfInBounds_toArray, List.set_cons_zero, List.set_cons_succ]
            have hS := hS2
            refine mv_yield (i := 7) (d := 47) (.tuple #[.agg R, .int .i64 q]) rfl rfl (by kernel_rfl) (by kernel_rfl) (by kernel_rfl) hS (y_run (by rfl) fun _ => by rfl) ?_
            simp only [Act.put, List.setIfInBounds_toArray, List.set_cons_zero, List.set_cons_succ]
            refine mv_yield (i := 8) (d := 55) (.agg R) rfl rfl (by kernel_rfl) (by kernel_rfl) (by kernel_rfl) hS (y_run (by rfl) fun _ => by rfl) ?_
            simp only [Act.put, List.setIfInBounds_toArray, List.set_cons_zero, List.set_cons_succ]
            refine mv_yield (i := 9) (d := 56) (.int .i64 q) rfl rfl (by kernel_rfl) (by kernel_rfl) (by kernel_rfl) hS (y_run (by rfl) fun _ => by rfl) ?_
            simp only [Act.put, List.setIfInBounds_toArray, List.set_cons_zero, List.set_cons_succ]
            refine mv_ready [10] (by kernel_rfl) (by simp) (ar_alloc (i := 10) (d := 15) rfl rfl (by rfl) rfl hzb (hS.alloc _) (fun hS3 => ?_) AllReadyH.nil)
            simp only [Act.put, List.setIfInBounds_toArray, List.set_cons_zero, List.set_cons_succ]
            replace hS := hS3
            have a1 := At.new w2 Zb 32
            refine mv_ready [11] (by kernel_rfl) (by simp) (ar_store (i := 11) _ R Zb rfl rfl (by rfl) rfl rfl rfl a1 (by rw [HZBs.out, HR.out.1]) HR.out.2.1 (HIB.out _ HR.out.1) (hS.other hge2 _) (fun hS' => ?_) AllReadyH.nil)
            clear hS
            have hS := hS'
            refine mv_yield (i := 12) (d := 16) (.int .i64 q) rfl rfl (by kernel_rfl) (by kernel_rfl) (by kernel_rfl) hS (y_run (by rfl) fun _ => by rfl) ?_
            simp only [Act.put, List.setIfInBounds_toArray, List.set_cons_zero, List.set_cons_succ]
            refine mv_done (by kernel_rfl) ?_
            go_wp2_with fail
            go_meet
            exact ⟨_, rfl, rfl, Lib.hid hS', hge2, Lib.hid (a1).setRow⟩
          · intro hS2
            simp only [Act.put, List.setIfInBounds_toArray, List.set_cons_zero, List.set_cons_succ]
            have a1 := At.new w1 Zb 32
            have l1 : w1.heap.size < (w1.alloc (.cells Zb 32)).heap.size := a1.lt
            refine mv_ready [6] (by kernel_rfl) (by simp) (ar_callP (i := 6) (d := 54) #[.int .i64 x16, .agg O] rfl rfl (by rfl) rfl enter_lay (by kernel_rfl) (HCL.out _) (fun w' h => hS2.next h) ?_ AllReadyH.nil)
            rintro w3 h3 hS
            simp only [Act.put, List.setIfInBounds_toArray, List.set_cons_zero, List.set_cons_succ]
            have a2 := a1.below h3 l1
            refine mv_yield (i := 7) (d := 47) (.tuple #[.agg R, .int .i64 q]) rfl rfl (by kernel_rfl) (by kernel_rfl) (by kernel_rfl) hS (y_run (by rfl) fun _ => by rfl) ?_
            simp only [Act.put, List.setIfInBounds_toArray, List.set_cons_zero, List.set_cons_succ]
            refine mv_yield (i := 8) (d := 55) (.agg R) rfl rfl (by kernel_rfl) (by kernel_rfl) (by kernel_rfl) hS (y_run (by rfl) fun _ => by rfl) ?_
            simp only [Act.put, List.setIfInBounds_toArray, List.set_cons_zero, List.set_cons_succ]
            refine mv_yield (i := 9) (d := 56) (.int .i64 q) rfl rfl (by kernel_rfl) (by kernel_rfl) (by kernel_rfl) hS (y_run (by rfl) fun _ => by rfl) ?_
            simp only [Act.put, List.setIfInBounds_toArray, List.set_cons_zero, List.set_cons_succ]
            refine mv_ready [11] (by kernel_rfl) (by simp) (ar_store (i := 11) _ R Zb rfl rfl (by rfl) rfl rfl rfl a2 (by rw [HZBs.out, HR.out.1]) HR.out.2.1 (HIB.out _ HR.out.1) (hS.other hge1 _) (fun hS' => ?_) AllReadyH.nil)
            clear hS
            have hS := hS'
            refine mv_yield (i := 12) (d := 16) (.int .i64 q) rfl rfl (by kernel_rfl) (by kernel_rfl) (by kernel_rfl) hS (y_run (by rfl) fun _ => by rfl) ?_
            simp only [Act.put, List.setIfInBounds_toArray, List.set_cons_zero, List.set_cons_succ]
            refine mv_done (by kernel_rfl) ?_
            go_wp2_with fail
            go_meet
            exact ⟨_, rfl, rfl, Lib.hid hS', hge1, Lib.hid (a2).setRow⟩
        · intro hS1
          simp only [Act.put, List.setIfInBounds_toArray, List.set_cons_zero, List.set_cons_succ]
          have a1 := At.new wr.drew Zb 32
          have l1 : wr.drew.heap.size < (wr.drew.alloc (.cells Zb 32)).heap.size := a1.lt
          refine mv_ready [5] (by kernel_rfl) (by simp) (ar_callP (i := 5) (d := 53) #[.agg M, .agg F] rfl rfl (by rfl) rfl enter_over (by kernel_rfl) (HCO.out _) (fun w' h => hS1.next h) ?_ AllReadyH.nil)
          rintro w2 h2 hS2
          simp only [Act.put, List.setIfInBounds_toArray, List.set_cons_zero, List.set_cons_succ]
          have a2 := a1.below h2 l1
          refine mv_ready [6] (by kernel_rfl) (by simp) (ar_callP (i := 6) (d := 54) #[.int .i64 x16, .agg O] rfl rfl (by rfl) rfl enter_lay (by kernel_rfl) (HCL.out _) (fun w' h => hS2.next h) ?_ AllReadyH.nil)
          rintro w3 h3 hS3
          simp only [Act.put, List.setIfInBounds_toArray, List.set_cons_zero, List.set_cons_succ]
          have a3 := Sta.At.two a2 h3
          clear hS
          have hS := hS3
          refine mv_yield (i := 7) (d := 47) (.tuple #[.agg R, .int .i64 q]) rfl rfl (by kernel_rfl) (by kernel_rfl) (by kernel_rfl) hS (y_run (by rfl) fun _ => by rfl) ?_
          simp only [Act.put, List.setIfInBounds_toArray, List.set_cons_zero, List.set_cons_succ]
          refine mv_yield (i := 8) (d := 55) (.agg R) rfl rfl (by kernel_rfl) (by kernel_rfl) (by kernel_rfl) hS (y_run (by rfl) fun _ => by rfl) ?_
          simp only [Act.put, List.setIfInBounds_toArray, List.set_cons_zero, List.set_cons_succ]
          refine mv_yield (i := 9) (d := 56) (.int .i64 q) rfl rfl (by kernel_rfl) (by kernel_rfl) (by kernel_rfl) hS (y_run (by rfl) fun _ => by rfl) ?_
          simp only [Act.put, List.setIfInBounds_toArray, List.set_cons_zero, List.set_cons_succ]
          refine mv_ready [11] (by kernel_rfl) (by simp) (ar_store (i := 11) _ R Zb rfl rfl (by rfl) rfl rfl rfl a3 (by rw [HZBs.out, HR.out.1]) HR.out.2.1 (HIB.out _ HR.out.1) (hS.other hge _) (fun hS' => ?_) AllReadyH.nil)
          clear hS
          have hS := hS'
          refine mv_yield (i := 12) (d := 16) (.int .i64 q) rfl rfl (by kernel_rfl) (by kernel_rfl) (by kernel_rfl) hS (y_run (by rfl) fun _ => by rfl) ?_
          simp only [Act.put, List.setIfInBounds_toArray, List.set_cons_zero, List.set_cons_succ]
          refine mv_done (by kernel_rfl) ?_
          go_wp2_with fail
          go_meet
          exact ⟨_, rfl, rfl, Lib.hid hS', hge, Lib.hid (a3).setRow⟩
      case rest =>
        obtain ⟨b, rfl, rfl, HY, hb, HRb⟩ := hcut
        clear HY' HCO HCL
        have c2 := HP'.out.cell HY.out.1.2.2.2.2.2.2.2 16 (by omega)
        have f2 := HY.out.1.2.2.2.2.2.2.2.frozen 16
        have hcc := HY.out.2.1
        have HY2 := Lib.hid (HY.out.setP 16 (.int .i64 q)).1
        have HP2 := Lib.hid (mm_last HP'.out Hq.out)
        have HRb2 := Lib.hid (At.setCell_other (a := ⟨w.heap.size + 1 + 1 + 1 + 1 + 1, 16, none⟩) (v := .int .i64 q) HRb.out (by dsimp only; omega))
        obtain ⟨P2, hP2⟩ : ∃ P2, P'.setIfInBounds 16 (.int .i64 q) = P2 := ⟨_, rfl⟩
        rw [hP2] at HY2 HP2
        clear hP2 HY HRb
        go_wp2_with fail
        revert HRb2 HY2
        generalize World.setCell _ _ _ = W5
        intro HRb2 HY2
        clear c2 f2 wc
        refine mv_startS (Nz w T V U P2 b R) (show Nz w T V U P2 b R W5.drew from ⟨Zb, Zp, HZBs.out, HZPs.out, HY2.out.drew, HRb2.out, by omega⟩) fun hS => ?_
        refine mv_yield (i := 0) (d := 59) (.agg R) rfl rfl (by kernel_rfl) (by kernel_rfl) (by kernel_rfl) hS (y_load_part (l := 0) (by rfl) rfl rfl HR.out (fun w' h => h.atR) HR.out (by omega) (fun i _ => by rw [Nat.zero_add]) Tryz.underlying32 rfl (HIB.out _ HR.out.1)) ?_
        simp only [Act.put, List.setIfInBounds_toArray, List.set_cons_zero, List.set_cons_succ]
        refine mv_yield (i := 2) (d := 61) (.agg P2) rfl rfl (by kernel_rfl) (by kernel_rfl) (by kernel_rfl) hS (y_load_part (l := 0) (by rfl) rfl rfl HP2.out (fun w' h => h.atP) HP2.out (by omega) (fun i _ => by rw [Nat.zero_add]) Tryz.underlying34 rfl (HIP.out _ HP2.out.1)) ?_
        simp only [Act.put, List.setIfInBounds_toArray, List.set_cons_zero, List.set_cons_succ]
        have hbb : w.heap.size + 1 + 1 + 1 + 1 + 1 + 1 ≤ b := by omega
        refine mv_ready [1] (by kernel_rfl) (by simp) (ar_callP (i := 1) (d := 60) #[.agg R] rfl rfl (by rfl) rfl enter_sound (by kernel_rfl) (HCS.out _) (fun w' h => hS.next h) ?_ AllReadyH.nil)
        · rintro w1 h1 hS1
          simp only [Act.put, List.setIfInBounds_toArray, List.set_cons_zero, List.set_cons_succ]
          obtain ⟨A1, B1, s1, t1, n1, r1, _⟩ := hS1
          refine mv_ready [3] (by kernel_rfl) (by simp) (ar_store (i := 3) (w.heap.size + 1 + 1 + 1) Q A1 rfl rfl (by rfl) rfl rfl rfl n1.2.2.2.2.2.1 (by rw [s1, HQ.out.1]) HQ.out.2.1 (HIB.out _ HQ.out.1) (show Nz w T V U P2 b R _ from ⟨Q, _, HQ.out.1, t1, n1.setA Q, r1.setRow_other (by omega), hbb⟩) (fun _ => ?_) AllReadyH.nil)
          have n2 := n1.setA Q
          have r2 := r1.setRow_other (C := Q) (show b ≠ w.heap.size + 1 + 1 + 1 by omega)
          refine mv_ready [4] (by kernel_rfl) (by simp) (ar_store (i := 4) (w.heap.size + 1 + 1 + 1 + 1) P2 B1 rfl rfl (by rfl) rfl rfl rfl n2.2.2.2.2.2.2.1 (by rw [t1, HP2.out.1]) HP2.out.2.1 (HIP.out _ HP2.out.1) (show Nz w T V U P2 b R _ from ⟨_, P2, HQ.out.1, HP2.out.1, n2.setB P2, r2.setRow_other (by omega), hbb⟩) (fun _ => ?_) AllReadyH.nil)
          have HFN := Lib.hid (n2.setB P2)
          refine mv_done (by kernel_rfl) ?_
          go_wp2_with fail
          exact bodyPost_ret (v := .tuple #[.agg Q, .agg P2]) (results_any_two rfl _ _ (w.heap.size + 1 + 1 + 1) (w.heap.size + 1 + 1 + 1 + 1) Q P2 _ _ rfl rfl HFN.out.2.2.2.2.2.1 HFN.out.2.2.2.2.2.2.1 Tryz.underlying32 rfl (HIB.out _ HQ.out.1) Tryz.underlying34 rfl (HIP.out _ HP2.out.1)) rfl ⟨⟨Q, P2, rfl, HQ.out, HP2.out⟩, HFN.out.1⟩
end Go.Proofs.YtfohinlldchdpaaGreatDoor.Sta
end

section
/- What Next makes. -/
set_option maxRecDepth 100000
set_option linter.unusedVariables false
namespace Go.Proofs.YtfohinlldchdpaaGreatDoor.Sta
open Go.RowKit Go.Proofs.YtfohinlldchdpaaGreatDoor.Row Go.Proofs.YtfohinlldchdpaaGreatDoor.Md Go.Proofs.YtfohinlldchdpaaGreatDoor.Tl

theorem enter_next (args : Array Value) (w : World) : (callFunc 37 args).run Tryz.prog w = .ok (.enter 37 args) w := run_enter Tryz.func37 (by kernel_rfl) rfl args w

theorem next_as {T V U R Q : Array Value} {z : Int} {h g : Nat → Int} (H : ∀ w, Calls Tryz.prog 37 #[.agg T, .agg V, .agg U, .int .i64 z] w (RetNx w h g)) (hR : IsRow 16 h R) (hQ : IsRow 38 g Q) (w : World) :
    Calls Tryz.prog 37 #[.agg T, .agg V, .agg U, .int .i64 z] w fun e w' => e = .returned (.tuple #[.agg R, .agg Q]) ∧ Below w.heap.size w w' := by
  refine (H w).mono ?_
  rintro e w' ⟨⟨R', Q', rfl, h1, h2⟩, hb⟩
  obtain rfl := h1.eq hR fun _ _ => rfl
  obtain rfl := h2.eq hQ fun _ _ => rfl
  exact ⟨rfl, hb⟩

theorem ct_zero : ct 0 = 0 := by unfold ct; omega
theorem bs_zero (i : Nat) (hi : i < 32) : bS (fun _ => 0) i = 0 := by
  have h : ∀ i : Fin 32, bS (fun _ => 0) i.val = 0 := by decide +kernel
  exact h ⟨i, hi⟩
theorem nx_right {f v u : Nat → Int} {z : Int} (h : Rt (thF v u z)) : Rt (nxF f v u z) := by
  obtain ⟨h1, h2, h3, h4, h5⟩ := h
  unfold thF at h1 h2 h3 h4 h5
  refine ⟨fun i hi => ?_, ?_, fun i hi => ?_, fun i hi => ?_, ?_⟩ <;> unfold nxF
  · rw [stF_mem _ _ _ _ _ hi]; exact ct_bd _
  · rw [stF_last]; exact out_bd _ _ _
  · rw [stF_lev _ _ _ _ _ hi]
    have := h3 i hi
    rwa [stF_lev _ _ _ _ _ hi] at this
  · have := h4 i hi
    dsimp only at this ⊢
    rw [stF_wav _ _ _ _ _ hi] at this ⊢
    exact this
  · rw [stF_lost] at h5 ⊢; exact h5
/-- Whatever is handed in: what comes out is right. -/
theorem next_any {T V U : Array Value} {f v u : Nat → Int} (z : Int) (hT : IsRow 38 f T) (hV : IsRow 4 v V) (hU : IsRow 16 u U) :
    ∃ R Q h g, (∀ w, Calls Tryz.prog 37 #[.agg T, .agg V, .agg U, .int .i64 z] w fun e w' => e = .returned (.tuple #[.agg R, .agg Q]) ∧ Below w.heap.size w w') ∧ IsRow 16 h R ∧ IsRow 38 g Q ∧ (∀ i, -32768 ≤ h i ∧ h i ≤ 32767) ∧ Rt g := by
  by_cases h1 : Rt f ∧ Rt (thF v u z)
  · exact ⟨_, _, soF f u, nxF f v u z, next_as (next_yes T V U f v u z hT hV hU h1.1 h1.2) (isRow _ _) (isRow _ _), isRow _ _, isRow _ _, fun i => ct16_bd _, nx_right h1.2⟩
  · have h2 : ¬ Rt f ∨ Rt f ∧ ¬ Rt (thF v u z) := by
      by_cases h3 : Rt f
      · exact .inr ⟨h3, fun h4 => h1 ⟨h3, h4⟩⟩
      · exact .inl h3
    exact ⟨_, _, fun _ => 0, fun _ => 0, next_as (next_no T V U f v u z hT hV hU h2) (isRow _ _) (isRow _ _), isRow _ _, isRow _ _, fun i => by dsimp only; omega, rt_zero⟩

/-! Of no waves behind no Mem. -/
theorem ly_die {f : Nat → Int} (hf : ∀ i, i < 16 → f i = 0) (hl : -2097152 ≤ f 16 ∧ f 16 ≤ 2097151) (k : Nat) (hk : k < 16) : lyF f (fun _ => 0) k = dieS (f 16) (k + 1) := by
  unfold lyF laS
  rw [← out_zero hl]
  refine out_ext (n := 16) (fun i hi => ?_) (k + 1) (by omega)
  unfold ovS
  rw [hf i hi, bs_zero i (by omega)]
  simp [ct_zero]
theorem die_zero : ∀ k, dieS 0 k = 0
  | 0 => rfl
  | k + 1 => by
    have := die_zero k
    unfold dieS
    rw [this]
    first | exact prt_zero | rfl
theorem ly_zero (k : Nat) (hk : k < 16) : lyF (fun _ => 0) (fun _ => 0) k = 0 := by
  rw [ly_die (fun _ _ => rfl) (by omega) k hk]
  exact die_zero _
theorem so_zero (k : Nat) (hk : k < 16) : soF (fun _ => 0) (fun _ => 0) k = 0 := by
  unfold soF; rw [ly_zero k hk]; decide
theorem nx_zero (k : Nat) (hk : k < 38) : nxF (fun _ => 0) (fun _ => 0) (fun _ => 0) 0 k = 0 := by
  unfold nxF stF
  split
  · dsimp only
    rw [bs_zero _ (by omega), ct_zero]
  · split
    · exact ly_zero 15 (by omega)
    · split
      · rfl
      · split <;> rfl
theorem th_zero : Rt (thF (fun _ => 0) (fun _ => 0) 0) := rt_zero.ext fun k hk => by
  unfold thF stF
  repeat' split
  all_goals rfl
/-- Of nothing behind nothing all is nothing. -/
theorem next_zero {T V U R Q : Array Value} (hT : IsRow 38 (fun _ => 0) T) (hV : IsRow 4 (fun _ => 0) V) (hU : IsRow 16 (fun _ => 0) U) (hR : IsRow 16 (fun _ => 0) R) (hQ : IsRow 38 (fun _ => 0) Q) (w : World) :
    Calls Tryz.prog 37 #[.agg T, .agg V, .agg U, .int .i64 0] w fun e w' => e = .returned (.tuple #[.agg R, .agg Q]) ∧ Below w.heap.size w w' :=
  next_as (next_yes T V U _ _ _ 0 hT hV hU rt_zero th_zero) (hR.ext fun k hk => (so_zero k hk).symm) (hQ.ext fun k hk => (nx_zero k hk).symm) w

/-- Three rows that came in, side by side, and all that stood. -/
def Tri (w : World) (T V U : Array Value) (t v u : TypeId) (w' : World) : Prop := Below w.heap.size w w' ∧ At w' w.heap.size T t ∧ At w' (w.heap.size + 1) V v ∧ At w' (w.heap.size + 1 + 1) U u
theorem Tri.start (w : World) (T V U : Array Value) (t v u : TypeId) : Tri w T V U t v u (((w.alloc (.cells T t)).alloc (.cells V v)).alloc (.cells U u)) := by
  have a1 := At.new (w.alloc (.cells T t)) V v
  have a2 := At.new ((w.alloc (.cells T t)).alloc (.cells V v)) U u
  simp only [World.size_alloc] at a1 a2
  exact ⟨(((Below.refl _ _).alloc (Nat.le_refl _) _).alloc (by simp) _).alloc (by simp; omega) _, ((At.new _ _ _).alloc _).alloc _, a1.alloc _, a2⟩
theorem Tri.next {w w1 w2 : World} {T V U : Array Value} {t v u : TypeId} (h : Tri w T V U t v u w1) (hb : Below w1.heap.size w1 w2) : Tri w T V U t v u w2 :=
  ⟨below_trans h.1 hb h.1.size, h.2.1.below hb h.2.1.lt, h.2.2.1.below hb h.2.2.1.lt, h.2.2.2.below hb h.2.2.2.lt⟩
theorem Tri.alloc {w w1 : World} {T V U : Array Value} {t v u : TypeId} (h : Tri w T V U t v u w1) (o : Obj) : Tri w T V U t v u (w1.alloc o) := h.next ((Below.refl _ _).alloc (Nat.le_refl _) o)

/-- Two rows, side by side, behind all that stood. -/
def Duo (w : World) (b : Nat) (A B : Array Value) (t u : TypeId) (w' : World) : Prop := Below w.heap.size w w' ∧ w.heap.size ≤ b ∧ At w' b A t ∧ At w' (b + 1) B u
theorem Duo.start {w w1 : World} (h : Below w.heap.size w w1) (A B : Array Value) (t u : TypeId) : Duo w w1.heap.size A B t u ((w1.alloc (.cells A t)).alloc (.cells B u)) := by
  have a1 := At.new (w1.alloc (.cells A t)) B u
  simp only [World.size_alloc] at a1
  have := h.size
  exact ⟨(h.alloc (by omega) _).alloc (by simp; omega) _, by omega, (At.new _ _ _).alloc _, a1⟩
theorem Duo.next {w w1 w2 : World} {b : Nat} {A B : Array Value} {t u : TypeId} (h : Duo w b A B t u w1) (hb : Below w1.heap.size w1 w2) : Duo w b A B t u w2 :=
  ⟨below_trans h.1 hb h.1.size, h.2.1, h.2.2.1.below hb h.2.2.1.lt, h.2.2.2.below hb h.2.2.2.lt⟩
theorem Duo.set1 {w w1 : World} {b : Nat} {A B : Array Value} {t u : TypeId} (h : Duo w b A B t u w1) (C : Array Value) : Duo w b C B t u (w1.setRow b C) :=
  ⟨below_setRow' h.1 h.2.1 _, h.2.1, h.2.2.1.setRow, h.2.2.2.setRow_other (by omega)⟩
theorem Duo.set2 {w w1 : World} {b : Nat} {A B : Array Value} {t u : TypeId} (h : Duo w b A B t u w1) (C : Array Value) : Duo w b A C t u (w1.setRow (b + 1) C) :=
  ⟨below_setRow' h.1 (by have := h.2.1; omega) _, h.2.1, h.2.2.1.setRow_other (by omega), h.2.2.2.setRow⟩
end Go.Proofs.YtfohinlldchdpaaGreatDoor.Sta
end

section
/- Encoders as rows of 55 numbers: Prev, Last, the state; zero ones, written out, compared, their fields, as arguments. -/
set_option maxRecDepth 100000
set_option linter.unusedVariables false
namespace Go.Proofs.YtfohinlldchdpaaGreatDoor.En
open Go.RowKit Go.Proofs.YtfohinlldchdpaaGreatDoor.Row Go.Proofs.YtfohinlldchdpaaGreatDoor.Md Go.Proofs.YtfohinlldchdpaaGreatDoor.Tl Go.Proofs.YtfohinlldchdpaaGreatDoor.Sta

/-- An encoder's numbers. -/
def enF (p : Nat → Int) (z : Int) (f : Nat → Int) (k : Nat) : Int := if k < 16 then p k else if k = 16 then z else f (k - 17)
theorem enF_prev (p : Nat → Int) (z : Int) (f : Nat → Int) {k : Nat} (h : k < 16) : enF p z f k = p k := if_pos h
theorem enF_last (p : Nat → Int) (z : Int) (f : Nat → Int) : enF p z f 16 = z := by unfold enF; rw [if_neg (by omega), if_pos rfl]
theorem enF_state (p : Nat → Int) (z : Int) (f : Nat → Int) (k : Nat) : enF p z f (17 + k) = f k := by unfold enF; rw [if_neg (by omega), if_neg (by omega)]; congr 1; omega
theorem enF_self (f : Nat → Int) {k : Nat} (h : k < 55) : enF f (f 16) (fun i => f (17 + i)) k = f k := by
  unfold enF
  split
  · rfl
  · split
    · rename_i h; rw [h]
    · dsimp only; congr 1; omega
theorem zero_ep : ∃ Z, IsRow 55 (fun _ => 0) Z ∧ (∀ f, rowL 55 f 0 = Z) ∧ (∀ w, (zeroValue 36).run Tryz.prog w = .ok (.agg Z) w) ∧ ∀ A : Array Value, A.size = 55 → (Tryz.prog.info? 36).map (·.size) = some A.size := zero_row (by kernel_rfl)
theorem zero_er : ∃ Z, IsRow 55 (fun _ => 0) Z ∧ (∀ f, rowL 55 f 0 = Z) ∧ (∀ w, (zeroValue 27).run Tryz.prog w = .ok (.agg Z) w) ∧ ∀ A : Array Value, A.size = 55 → (Tryz.prog.info? 27).map (·.size) = some A.size := zero_row (by kernel_rfl)

def ple (i : Nat) : Option (Nat × Nat) := #[(0, 16), (16, 1), (17, 38)][i]?
/-- The types of encoders. -/
def IsEn (t : TypeId) : Prop := ∀ parts, Tryz.prog.built t parts = Instr.fill ple (Array.replicate 55 (.int .i64 0)) parts
theorem isEn_p : IsEn 36 := fun parts => by kernel_rfl
theorem isEn_r : IsEn 27 := fun parts => by kernel_rfl
theorem ebuilt_0 {t : TypeId} (ht : IsEn t) : ∃ T, IsRow 55 (fun _ => 0) T ∧ Tryz.prog.built t [] = some T := ⟨_, isRow_zero 55, by rw [ht]; rfl⟩
theorem ebuilt_3 {t : TypeId} (ht : IsEn t) {M Q : Array Value} {m f : Nat → Int} (hM : IsRow 16 m M) (z : Int) (hQ : IsRow 38 f Q) : ∃ T, IsRow 55 (enF m z f) T ∧ Tryz.prog.built t [(0, .agg M), (1, .int .i64 z), (2, .agg Q)] = some T := by
  obtain ⟨C, hC, e⟩ := fill_agg (place := ple) (i := 0) (rest := [(1, .int .i64 z), (2, .agg Q)]) rfl (isRow_zero 55) hM (show 0 + 16 ≤ 55 by omega)
  obtain ⟨D, hD, e1⟩ := fill_int (place := ple) (i := 1) (x := z) (rest := [(2, .agg Q)]) rfl hC (show 16 < 55 by omega)
  obtain ⟨E, hE, e2⟩ := fill_agg (place := ple) (i := 2) (rest := []) rfl hD hQ (show 17 + 38 ≤ 55 by omega)
  refine ⟨E, hE.ext fun k hk => ?_, by rw [ht, e, e1, e2]; rfl⟩
  unfold over enF
  dsimp only
  repeat' split
  all_goals first | rfl | omega | (congr 1; omega)

/-! Compared. -/
theorem st_eqd_p {d : Nat} {f : Nat → Int} {T : Array Value} (hT : IsRow 38 f T) (w : World) : (Op.equalIn (d + 4) 34 (.agg T) (.agg T)).run Tryz.prog w = .ok true w := by
  obtain ⟨_, _, _, _, hb⟩ := zero_b
  obtain ⟨_, _, _, _, h4⟩ := zero_4
  rw [run_equalIn_agg w (d + 3) _ T T (by unfold Program.fieldsOf; rw [Tryz.underlying34]) Tryz.stoodInHeld34]
  refine eq_fields _ ?_ w
  unfold Program.fieldsOf
  rw [Tryz.underlying34]
  intro x hx
  simp only [List.mem_cons, List.not_mem_nil, or_false] at hx
  rcases hx with rfl | rfl | rfl | rfl | rfl
  · exact fld_row (n := 16) hT (by omega) Tryz.underlying32 hb
  · exact fld_num hT (by omega)
  · exact fld_row (n := 4) hT (by omega) Tryz.underlying23 h4
  · exact fld_row (n := 16) hT (by omega) Tryz.underlying32 hb
  · exact fld_num hT (by omega)
theorem st_eqd_r {d : Nat} {f : Nat → Int} {T : Array Value} (hT : IsRow 38 f T) (w : World) : (Op.equalIn (d + 4) 25 (.agg T) (.agg T)).run Tryz.prog w = .ok true w := by
  obtain ⟨_, _, _, _, hb⟩ := zero_a
  obtain ⟨_, _, _, _, h4⟩ := zero_4
  rw [run_equalIn_agg w (d + 3) _ T T (by unfold Program.fieldsOf; rw [Tryz.underlying25]) Tryz.stoodInHeld25]
  refine eq_fields _ ?_ w
  unfold Program.fieldsOf
  rw [Tryz.underlying25]
  intro x hx
  simp only [List.mem_cons, List.not_mem_nil, or_false] at hx
  rcases hx with rfl | rfl | rfl | rfl | rfl
  · exact fld_row (n := 16) hT (by omega) Tryz.underlying22 hb
  · exact fld_num hT (by omega)
  · exact fld_row (n := 4) hT (by omega) Tryz.underlying23 h4
  · exact fld_row (n := 16) hT (by omega) Tryz.underlying22 hb
  · exact fld_num hT (by omega)
theorem en_eq_p {f g : Nat → Int} {T U : Array Value} (hT : IsRow 55 f T) (hU : IsRow 55 g U) (e : ∀ k, k < 55 → f k = g k) (w : World) : (Op.equalIn 10000 36 (.agg T) (.agg U)).run Tryz.prog w = .ok true w := by
  obtain rfl := hT.eq hU e
  obtain ⟨_, _, _, _, hb⟩ := zero_b
  obtain ⟨_, _, _, _, hp⟩ := zero_p
  rw [run_equalIn_agg w 9999 _ T T (by unfold Program.fieldsOf; rw [Tryz.underlying36]) Tryz.stoodInHeld36]
  refine eq_fields _ ?_ w
  unfold Program.fieldsOf
  rw [Tryz.underlying36]
  intro x hx
  simp only [List.mem_cons, List.not_mem_nil, or_false] at hx
  rcases hx with rfl | rfl | rfl
  · exact fld_row (n := 16) hT (by omega) Tryz.underlying32 hb
  · exact fld_num hT (by omega)
  · exact fun w => ⟨_, part_row (n := 38) Tryz.underlying34 rfl hp w, st_eqd_p (hT.sub (show 17 + 38 ≤ 55 by omega)) w⟩
theorem en_eq_r {f g : Nat → Int} {T U : Array Value} (hT : IsRow 55 f T) (hU : IsRow 55 g U) (e : ∀ k, k < 55 → f k = g k) (w : World) : (Op.equalIn 10000 27 (.agg T) (.agg U)).run Tryz.prog w = .ok true w := by
  obtain rfl := hT.eq hU e
  obtain ⟨_, _, _, _, hb⟩ := zero_a
  obtain ⟨_, _, _, _, hr⟩ := zero_r
  rw [run_equalIn_agg w 9999 _ T T (by unfold Program.fieldsOf; rw [Tryz.underlying27]) Tryz.stoodInHeld27]
  refine eq_fields _ ?_ w
  unfold Program.fieldsOf
  rw [Tryz.underlying27]
  intro x hx
  simp only [List.mem_cons, List.not_mem_nil, or_false] at hx
  rcases hx with rfl | rfl | rfl
  · exact fld_row (n := 16) hT (by omega) Tryz.underlying22 hb
  · exact fld_num hT (by omega)
  · exact fun w => ⟨_, part_row (n := 38) Tryz.underlying25 rfl hr w, st_eqd_r (hT.sub (show 17 + 38 ≤ 55 by omega)) w⟩

/-! Fields. -/
theorem fld_ep0 : FldAt 36 0 0 := fun b w => by
  unfold Instr.fieldAt
  simp [Sem.run_bind, run_underlying Tryz.underlying36, Instr.sureAddr, go_sem, Addr.add]
theorem fld_ep1 : FldAt 36 1 16 := fun b w => by
  unfold Instr.fieldAt
  simp [Sem.run_bind, run_underlying Tryz.underlying36, Instr.sureAddr, go_sem, Addr.add]
theorem fld_ep2 : FldAt 36 2 17 := fun b w => by
  unfold Instr.fieldAt
  simp [Sem.run_bind, run_underlying Tryz.underlying36, Instr.sureAddr, go_sem, Addr.add]
theorem fld_er0 : FldAt 27 0 0 := fun b w => by
  unfold Instr.fieldAt
  simp [Sem.run_bind, run_underlying Tryz.underlying27, Instr.sureAddr, go_sem, Addr.add]
theorem fld_er1 : FldAt 27 1 16 := fun b w => by
  unfold Instr.fieldAt
  simp [Sem.run_bind, run_underlying Tryz.underlying27, Instr.sureAddr, go_sem, Addr.add]
theorem fld_er2 : FldAt 27 2 17 := fun b w => by
  unfold Instr.fieldAt
  simp [Sem.run_bind, run_underlying Tryz.underlying27, Instr.sureAddr, go_sem, Addr.add]

/-- An encoder that comes in. -/
theorem open_en {H : Type} {enc : TypeId × Value → H} {W : World} {r : Reach} {base b0 : Nat} {sp : Nat → Bool} {held : Bool} {v : Value} {d : DataW H} {ps : List MemPlace}
    (hok : Value.okWide Tryz.prog W r b0 27 v) (h : DataW.Trod enc Tryz.prog W base sp held 27 v d ps) :
    ∃ T : Array Value, v = .agg T ∧ IsRow 55 (intsOf T) T ∧ ∀ k, k < 55 → (Lit.int .i64 (intsOf T k)).wf = true := by
  have fi : Flat enc W base sp held 3 := Flat.int Tryz.underlying3 (by kernel_rfl)
  have fb : Flat enc W base sp held 22 := Flat.array fi Tryz.underlying22 (by kernel_rfl)
  have f4 : Flat enc W base sp held 23 := Flat.array fi Tryz.underlying23 (by kernel_rfl)
  have c16 : Tryz.prog.cellsOf 22 = 16 := by kernel_rfl
  have c4 : Tryz.prog.cellsOf 23 = 4 := by kernel_rfl
  have c1 : Tryz.prog.cellsOf 3 = 1 := by kernel_rfl
  have c38 : Tryz.prog.cellsOf 25 = 38 := by kernel_rfl
  have c55 : Tryz.prog.cellsOf 27 = 55 := by kernel_rfl
  have fs : Flat enc W base sp held 25 := by
    refine Flat.struct Tryz.underlying25 ?_ ?_
    · intro i f hf
      match i, hf with
      | 0, hf => injection hf with hf; subst hf; exact fb
      | 1, hf => injection hf with hf; subst hf; exact fi
      | 2, hf => injection hf with hf; subst hf; exact f4
      | 3, hf => injection hf with hf; subst hf; exact fb
      | 4, hf => injection hf with hf; subst hf; exact fi
      | n + 5, hf => simp at hf
    · intro k hk
      rw [c38] at hk
      by_cases k1 : k < 16
      · exact ⟨0, _, rfl, Nat.zero_le _, by show k < 0 + Tryz.prog.cellsOf 22; rw [c16]; omega⟩
      · by_cases k2 : k < 17
        · exact ⟨1, _, rfl, by show 16 ≤ k; omega, by show k < 16 + Tryz.prog.cellsOf 3; rw [c1]; omega⟩
        · by_cases k3 : k < 21
          · exact ⟨2, _, rfl, by show 17 ≤ k; omega, by show k < 17 + Tryz.prog.cellsOf 23; rw [c4]; omega⟩
          · by_cases k4 : k < 37
            · exact ⟨3, _, rfl, by show 21 ≤ k; omega, by show k < 21 + Tryz.prog.cellsOf 22; rw [c16]; omega⟩
            · exact ⟨4, _, rfl, by show 37 ≤ k; omega, by show k < 37 + Tryz.prog.cellsOf 3; rw [c1]; omega⟩
  refine open_flat Tryz.underlying27 rfl (Flat.struct Tryz.underlying27 ?_ ?_) c55 hok h
  · intro i f hf
    match i, hf with
    | 0, hf => injection hf with hf; subst hf; exact fb
    | 1, hf => injection hf with hf; subst hf; exact fi
    | 2, hf => injection hf with hf; subst hf; exact fs
    | n + 3, hf => simp at hf
  · intro k hk
    rw [c55] at hk
    by_cases k1 : k < 16
    · exact ⟨0, _, rfl, Nat.zero_le _, by show k < 0 + Tryz.prog.cellsOf 22; rw [c16]; omega⟩
    · by_cases k2 : k < 17
      · exact ⟨1, _, rfl, by show 16 ≤ k; omega, by show k < 16 + Tryz.prog.cellsOf 3; rw [c1]; omega⟩
      · exact ⟨2, _, rfl, by show 17 ≤ k; omega, by show k < 17 + Tryz.prog.cellsOf 25; rw [c38]; omega⟩
end Go.Proofs.YtfohinlldchdpaaGreatDoor.En
end

section
/- A lost frame, as mathematics: the state behind a right one, what is heard, and what they become. -/
set_option linter.unusedVariables false
namespace Go.Proofs.YtfohinlldchdpaaGreatDoor.Lo
open Go.RowKit Go.Proofs.YtfohinlldchdpaaGreatDoor.Row Go.Proofs.YtfohinlldchdpaaGreatDoor.Md Go.Proofs.YtfohinlldchdpaaGreatDoor.Tl Go.Proofs.YtfohinlldchdpaaGreatDoor.Sta

/-- The halved waves. -/
def hvF (u : Nat → Int) (l : Int) (i : Nat) : Int := if 8 ≤ l then 0 else IntKind.i64.wrap ((u i).tdiv 2)
/-- The lowered levels, of any numbers. -/
def lwF (v : Nat → Int) (i : Nat) : Int := max (IntKind.i64.wrap (v i - 1)) 0
/-- One more is lost. -/
def mrZ (l : Int) : Int := min (l + 1) 255
def uF (f : Nat → Int) : Nat → Int := hvF (fun i => f (21 + i)) (f 37)
def vF (f : Nat → Int) : Nat → Int := lwF (fun i => f (17 + i))
/-- The state behind a lost frame, and its sound. -/
def nlF (f : Nat → Int) : Nat → Int := nxF f (vF f) (uF f) (mrZ (f 37))
def slF (f : Nat → Int) : Nat → Int := soF f (uF f)
/-- The state behind k of them. -/
def stN (f : Nat → Int) : Nat → Nat → Int
  | 0 => f
  | k + 1 => nlF (stN f k)
theorem stN_add (f : Nat → Int) (j : Nat) : ∀ k, stN (stN f j) k = stN f (j + k)
  | 0 => rfl
  | k + 1 => by show nlF (stN (stN f j) k) = nlF (stN f (j + k)); rw [stN_add f j k]

theorem half_ab {x b : Int} (h : ab x ≤ b) : ab (x.tdiv 2) ≤ b := by
  unfold ab at *
  rw [Int.natAbs_tdiv]
  have : x.natAbs / 2 ≤ x.natAbs := Nat.div_le_self _ _
  show ((x.natAbs / 2 : Nat) : Int) ≤ b
  omega
theorem lw_in {v : Nat → Int} {i : Nat} (h : 0 ≤ v i ∧ v i ≤ 20) : lwF v i = max (v i - 1) 0 := by
  unfold lwF; rw [IntWalk.i64_in _ (by omega)]
theorem half_in {x : Int} (h : ab x ≤ 1048576) : IntKind.i64.wrap (x.tdiv 2) = x.tdiv 2 := by
  have := le_ab (half_ab h)
  exact IntWalk.i64_in _ (by omega)
theorem hv_le {u : Nat → Int} {l : Int} (h : Le 1048576 u) : Le 1048576 (hvF u l) := fun i hi => by
  unfold hvF
  split
  · unfold ab; omega
  · rw [half_in (h i hi)]; exact half_ab (h i hi)
theorem th_lost {f : Nat → Int} (h : Rt f) : Rt (thF (vF f) (uF f) (mrZ (f 37))) := by
  obtain ⟨h1, h2, h3, h4, h5⟩ := h
  refine ⟨fun i hi => ?_, ?_, fun i hi => ?_, fun i hi => ?_, ?_⟩ <;> unfold thF
  · rw [stF_mem _ _ _ _ _ hi]; omega
  · rw [stF_last]; omega
  · rw [stF_lev _ _ _ _ _ hi]
    have := h3 i hi
    unfold vF
    rw [lw_in (v := fun i => f (17 + i)) this]
    omega
  · dsimp only; rw [stF_wav _ _ _ _ _ hi]; exact hv_le h4 i hi
  · rw [stF_lost]; unfold mrZ; omega
theorem nl_right {f : Nat → Int} (h : Rt f) : Rt (nlF f) := nx_right (th_lost h)
theorem st_right {f : Nat → Int} (h : Rt f) : ∀ k, Rt (stN f k)
  | 0 => h
  | k + 1 => nl_right (st_right h k)
theorem sl_bd (f : Nat → Int) (i : Nat) : -32768 ≤ slF f i ∧ slF f i ≤ 32767 := ct16_bd _

/-! The numbers of a state, k frames on. -/
theorem nl_lost (f : Nat → Int) : nlF f 37 = mrZ (f 37) := by unfold nlF nxF; rw [stF_lost]
theorem nl_lev {f : Nat → Int} (h : Rt f) {i : Nat} (hi : i < 4) : nlF f (17 + i) = max (f (17 + i) - 1) 0 := by
  unfold nlF nxF
  rw [stF_lev _ _ _ _ _ hi]
  exact lw_in (v := fun i => f (17 + i)) (h.2.2.1 i hi)
theorem nl_wav {f : Nat → Int} (h : Rt f) {i : Nat} (hi : i < 16) : nlF f (21 + i) = if 8 ≤ f 37 then 0 else (f (21 + i)).tdiv 2 := by
  unfold nlF nxF
  rw [stF_wav _ _ _ _ _ hi]
  unfold uF hvF
  rw [half_in (h.2.2.2.1 i hi)]
theorem nl_mem (f : Nat → Int) {i : Nat} (hi : i < 16) : nlF f i = ct (bS (uF f) (16 + i)) := by unfold nlF nxF; rw [stF_mem _ _ _ _ _ hi]
theorem nl_last (f : Nat → Int) : nlF f 16 = lyF f (uF f) 15 := by unfold nlF nxF; rw [stF_last]

theorem st_lost {f : Nat → Int} (h : Rt f) : ∀ k : Nat, stN f k 37 = min (f 37 + k) 255
  | 0 => by show f 37 = _; have := h.2.2.2.2; omega
  | k + 1 => by show nlF (stN f k) 37 = _; rw [nl_lost, st_lost h k]; unfold mrZ; omega
theorem st_lev {f : Nat → Int} (h : Rt f) {i : Nat} (hi : i < 4) : ∀ k : Nat, stN f k (17 + i) = max (f (17 + i) - k) 0
  | 0 => by show f (17 + i) = _; have := h.2.2.1 i hi; omega
  | k + 1 => by show nlF (stN f k) (17 + i) = _; rw [nl_lev (st_right h k) hi, st_lev h hi k]; omega
/-- A number halved k times. -/
def hlN (x : Int) : Nat → Int
  | 0 => x
  | k + 1 => (hlN x k).tdiv 2
theorem st_wav {f : Nat → Int} (h : Rt f) {i : Nat} (hi : i < 16) : ∀ k : Nat, f 37 + k ≤ 8 → stN f k (21 + i) = hlN (f (21 + i)) k
  | 0, _ => rfl
  | k + 1, hk => by
    show nlF (stN f k) (21 + i) = _
    rw [nl_wav (st_right h k) hi, st_lost h k, if_neg (by omega), st_wav h hi k (by omega)]
    rfl
theorem st_none {f : Nat → Int} (h : Rt f) {k : Nat} (hk : 8 ≤ k) (i : Nat) (hi : i < 16) : stN f (k + 1) (21 + i) = 0 := by
  show nlF (stN f k) (21 + i) = _
  rw [nl_wav (st_right h k) hi, st_lost h k, if_pos (by have := h.2.2.2.2; omega)]
theorem u_none {f : Nat → Int} (h : Rt f) {k : Nat} (hk : 8 ≤ k) : uF (stN f k) = fun _ => 0 := by
  funext i
  unfold uF hvF
  rw [st_lost h k, if_pos (by have := h.2.2.2.2; omega)]
theorem st_mem {f : Nat → Int} (h : Rt f) {k : Nat} (hk : 8 ≤ k) (i : Nat) (hi : i < 16) : stN f (k + 1) i = 0 := by
  show nlF (stN f k) i = _
  rw [nl_mem _ hi, u_none h hk, bs_zero _ (by omega), ct_zero]
theorem st_die {f : Nat → Int} (h : Rt f) : ∀ k, stN f (9 + k) 16 = dieS (stN f 9 16) (16 * k)
  | 0 => rfl
  | k + 1 => by
    show nlF (stN f (9 + k)) 16 = _
    rw [nl_last, u_none h (k := 9 + k) (by omega), ly_die (fun i hi => by rw [show 9 + k = (8 + k) + 1 by omega]; exact st_mem h (by omega) i hi) (st_right h _).2.1 15 (by omega), st_die h k, die_add]
    rfl
theorem die_more {n : Int} (h : -2097152 ≤ n ∧ n ≤ 2097151) {k : Nat} (hk : 320 ≤ k) : dieS n k = 0 := by
  obtain ⟨j, rfl⟩ : ∃ j, k = 320 + j := ⟨k - 320, by omega⟩
  rw [← die_add, dies h, die_zero]
/-- Behind so many nothing is heard. -/
theorem sl_none {f : Nat → Int} (h : Rt f) {k : Nat} (hk : 29 ≤ k) (i : Nat) (hi : i < 16) : slF (stN f k) i = 0 := by
  obtain ⟨j, rfl⟩ : ∃ j, k = 9 + (20 + j) := ⟨k - 29, by omega⟩
  unfold slF soF
  rw [u_none h (by omega), ly_die (fun i hi => by rw [show 9 + (20 + j) = (8 + (20 + j)) + 1 by omega]; exact st_mem h (by omega) i hi) (st_right h _).2.1 i hi, st_die h, die_add, die_more (st_right h 9).2.1 (by omega)]
  decide

/-! What hangs on a state's own numbers alone. -/
theorem u_ext {f g : Nat → Int} (e : ∀ i, i < 38 → f i = g i) (i : Nat) (hi : i < 16) : uF f i = uF g i := by
  unfold uF hvF
  dsimp only
  rw [e 37 (by omega), e (21 + i) (by omega)]
/-- The zero state behind nothing. -/
theorem u_zero : uF (fun _ => 0) = fun _ => 0 := by
  funext i
  show (if (8 : Int) ≤ 0 then (0 : Int) else IntKind.i64.wrap ((0 : Int).tdiv 2)) = 0
  decide
theorem v_zero : vF (fun _ => 0) = fun _ => 0 := by
  funext i
  show max (IntKind.i64.wrap (0 - 1)) 0 = 0
  decide
theorem sl_zero (k : Nat) (hk : k < 16) : slF (fun _ => 0) k = 0 := by
  unfold slF; rw [u_zero]; exact so_zero k hk
theorem nl_zero (k : Nat) (hk : k < 38) : nlF (fun _ => 0) k = stF (fun _ => 0) 0 (fun _ => 0) (fun _ => 0) 1 k := by
  unfold nlF
  rw [u_zero, v_zero]
  unfold nxF stF
  split
  · dsimp only
    rw [bs_zero _ (by omega), ct_zero]
  · split
    · exact ly_zero 15 (by omega)
    · split
      · rfl
      · split <;> rfl
end Go.Proofs.YtfohinlldchdpaaGreatDoor.Lo
end

section
/- Contracts: the lowered levels and the halved waves. -/
set_option maxRecDepth 100000
set_option linter.unusedVariables false
namespace Go.Proofs.YtfohinlldchdpaaGreatDoor.Lo
open Go.RowKit Go.Proofs.YtfohinlldchdpaaGreatDoor.Row Go.Proofs.YtfohinlldchdpaaGreatDoor.Md Go.Proofs.YtfohinlldchdpaaGreatDoor.Tl Go.Proofs.YtfohinlldchdpaaGreatDoor.Sta

theorem wr64 (x : Int) : IntKind.i64.wrap x = wrap64 x := IntWalk.i64_left x
theorem max0 (x : Int) : max x 0 = if x < 0 then 0 else x := by split <;> omega

/-- A row that is changed number by number, and a row behind it. -/
def PaI (w : World) (t : TypeId) (m : Nat) (Z : Array Value) (g f : Nat → Int) (k : Nat) (w' : World) : Prop :=
  Below w.heap.size w w' ∧ At w' (w.heap.size + 1) Z t ∧ ∃ X, IsRow m (mix g f k) X ∧ At w' w.heap.size X t
theorem PaI.start {w : World} {t : TypeId} {m : Nat} {T Z : Array Value} (g : Nat → Int) {f : Nat → Int} (hT : IsRow m f T) : PaI w t m Z g f 0 ((w.alloc (.cells T t)).alloc (.cells Z t)) := by
  have a1 := At.new (w.alloc (.cells T t)) Z t
  simp only [World.size_alloc] at a1
  exact ⟨((Below.refl _ _).alloc (Nat.le_refl _) _).alloc (by simp) _, a1, T, hT.ext fun i _ => (mix_0 g f i).symm, (At.new _ _ _).alloc _⟩

set_option maxHeartbeats 1000000 in
theorem lowered_any (T : Array Value) (f : Nat → Int) (w : World) (hT : IsRow 4 f T) :
    Calls Tryz.prog 71 #[.agg T] w fun e w' => e = .returned (.agg (rowL 4 (lwF f) 4)) ∧ Below w.heap.size w w' := by
  obtain ⟨Z, hZ, _, hz, hi⟩ := zero_4
  have HT := Lib.hid hT
  have HZ := Lib.hid hZ
  have HI := Lib.hid hi
  have hstart := Lib.hid (PaI.start (w := w) (t := 23) (Z := Z) (lwF f) hT)
  have H0 := Lib.hid (((At.new w T 23).alloc (.cells Z 23)))
  clear hT hi hZ
  go_enter Tryz.func71, Tryz.ntmps71
  go_wp2_with (refine wpList_load_row rfl 23 _ rfl w.heap.size rfl _ _ (0, 0) _ H0.out Tryz.underlying23 rfl (HI.out _ HT.out.1) ?_)
  clear H0
  go_loopw [6] (fun i w' => ∃ k : Nat, k ≤ 4 ∧ i = .int .i64 k ∧ Hid (PaI w 23 4 Z (lwF f) f k w')) (fun i _ => 4 - (intOf i).toNat)
  case atStart => exact ⟨0, Nat.zero_le _, rfl, hstart⟩
  case round =>
    obtain ⟨k, hk, rfl, hI⟩ := hrel
    clear hstart
    obtain ⟨hb, h1, X, hX, h0⟩ := hI.out
    clear hI
    have H0 := Lib.hid h0
    have H1 := Lib.hid h1
    have HX := Lib.hid hX
    have HB := Lib.hid hb
    by_cases hk4 : k < 4
    · have hc := HT.out.2.2 k hk4
      obtain ⟨x, hx⟩ : ∃ x, f k = x := ⟨_, rfl⟩
      rw [hx] at hc
      have hr := run_index Tryz.underlying23 hk4 hc
      have k1 : (k : Int) < 4 := by omega
      have k0 : (0 : Int) ≤ (k : Int) := by omega
      have HG := Lib.hid (show lwF f k = if wrap64 (x - 1) < 0 then 0 else wrap64 (x - 1) by rw [← hx]; unfold lwF; rw [wr64, max0])
      have c2 := HX.out.cell h0 k hk4
      have f2 := h0.frozen k
      clear h0 h1 hX hc hx hb
      go_wp2_with fail
      go_roundw
      case rel => exact ⟨k + 1, by omega, by go_num, Lib.hid ⟨HB.out.setCell (by dsimp only; omega) _, At.setCell_other H1.out (by dsimp only; omega), _, (HX.out.set (k := k) _ hk4).ext fun i _ => by rw [← mix_next _ _ k i, HG.out], At.setCell H0.out⟩⟩
      case measure => simp [intOf]; omega
    · clear h0 h1
      obtain rfl : k = 4 := by omega
      obtain rfl : X = rowL 4 (lwF f) 4 := hX.eq (isRow _ _) fun i hi => mix_all _ _ 4 i hi
      clear hX
      go_wp2_with (first
        | refine wpList_load_row rfl 23 _ rfl w.heap.size rfl _ _ (0, 0) _ H0.out Tryz.underlying23 rfl (HI.out _ (rowL_size _ _ _)) ?_
        | refine wpList_store_row rfl 23 _ _ rfl (w.heap.size + 1) (rowL 4 (lwF f) 4) rfl rfl _ _ H1.out (HI.out _ (rowL_size _ _ _)) (by rw [HZ.out.1, rowL_size]) (rowL_one _ _ _) ?_)
      exact bodyPost_ret (v := .agg (rowL 4 (lwF f) 4)) (results_cell_row rfl _ _ (w.heap.size + 1) 23 (rowL 4 (lwF f) 4) (0, 0) _ rfl H1.out.setRow Tryz.underlying23 rfl (HI.out _ (rowL_size _ _ _))) rfl ⟨rfl, below_setRow' HB.out (by omega) _⟩

set_option maxHeartbeats 1000000 in
theorem halved_any (T : Array Value) (f : Nat → Int) (l : Int) (w : World) (hT : IsRow 16 f T) :
    Calls Tryz.prog 72 #[.agg T, .int .i64 l] w fun e w' => e = .returned (.agg (rowL 16 (hvF f l) 16)) ∧ Below w.heap.size w w' := by
  obtain ⟨Z, hZ, _, hz, hi⟩ := zero_b
  obtain ⟨D, hD, bD⟩ := built_b
  have HT := Lib.hid hT
  have HZ := Lib.hid hZ
  have HI := Lib.hid hi
  have HBD := Lib.hid bD
  have hstart := Lib.hid (PaI.start (w := w) (t := 32) (Z := Z) (hvF f l) hT)
  have H0 := Lib.hid (((At.new w T 32).alloc (.cells Z 32)))
  by_cases hl : 8 ≤ l
  · obtain rfl : D = rowL 16 (hvF f l) 16 := hD.eq (isRow _ _) fun i hi => by unfold hvF; rw [if_pos hl]
    have hd : decide (l ≥ 8) = true := decide_eq_true hl
    clear hT hi hZ bD hD
    go_enter Tryz.func72, Tryz.ntmps72
    obtain ⟨hb, h1, _⟩ := hstart.out
    have H1 := Lib.hid h1
    have HB := Lib.hid hb
    clear h1 hb hstart
    go_wp2_with (first
      | refine wpList_build_parts (by rfl) 32 [] rfl _ rfl HBD.out ?_
      | refine wpList_store_row rfl 32 _ _ rfl (w.heap.size + 1) (rowL 16 (hvF f l) 16) rfl rfl _ _ H1.out (HI.out _ (rowL_size _ _ _)) (by rw [HZ.out.1, rowL_size]) (rowL_one _ _ _) ?_)
    exact bodyPost_ret (v := .agg (rowL 16 (hvF f l) 16)) (results_cell_row rfl _ _ (w.heap.size + 1) 32 (rowL 16 (hvF f l) 16) (0, 0) _ rfl H1.out.setRow Tryz.underlying32 rfl (HI.out _ (rowL_size _ _ _))) rfl ⟨rfl, below_setRow' HB.out (by omega) _⟩
  · have hd : decide (l ≥ 8) = false := decide_eq_false hl
    have HL := Lib.hid hl
    clear hT hi hZ bD hD HBD hl
    go_enter Tryz.func72, Tryz.ntmps72
    go_wp2_with (refine wpList_load_row rfl 32 _ rfl w.heap.size rfl _ _ (0, 0) _ H0.out Tryz.underlying32 rfl (HI.out _ HT.out.1) ?_)
    clear H0 hd
    go_loopw [11] (fun i w' => ∃ k : Nat, k ≤ 16 ∧ i = .int .i64 k ∧ Hid (PaI w 32 16 Z (hvF f l) f k w')) (fun i _ => 16 - (intOf i).toNat)
    case atStart => exact ⟨0, Nat.zero_le _, rfl, hstart⟩
    case round =>
      obtain ⟨k, hk, rfl, hI⟩ := hrel
      clear hstart
      obtain ⟨hb, h1, X, hX, h0⟩ := hI.out
      clear hI
      have H0 := Lib.hid h0
      have H1 := Lib.hid h1
      have HX := Lib.hid hX
      have HB := Lib.hid hb
      by_cases hk16 : k < 16
      · have hc := HT.out.2.2 k hk16
        obtain ⟨x, hx⟩ : ∃ x, f k = x := ⟨_, rfl⟩
        rw [hx] at hc
        have hr := run_index Tryz.underlying32 hk16 hc
        have k1 : (k : Int) < 16 := by omega
        have k0 : (0 : Int) ≤ (k : Int) := by omega
        have HG := Lib.hid (show hvF f l k = wrap64 (x.tdiv 2) by rw [← hx]; unfold hvF; rw [if_neg (Int.not_le.2 HL.out), wr64])
        have c2 := HX.out.cell h0 k hk16
        have f2 := h0.frozen k
        clear h0 h1 hX hc hx hb HL
        go_wp2_with fail
        go_roundw
        case rel => exact ⟨k + 1, by omega, by go_num, Lib.hid ⟨HB.out.setCell (by dsimp only; omega) _, At.setCell_other H1.out (by dsimp only; omega), _, (HX.out.set (k := k) _ hk16).ext fun i _ => by rw [← mix_next _ _ k i, HG.out], At.setCell H0.out⟩⟩
        case measure => simp [intOf]; omega
      · clear h0 h1
        obtain rfl : k = 16 := by omega
        obtain rfl : X = rowL 16 (hvF f l) 16 := hX.eq (isRow _ _) fun i hi => mix_all _ _ 16 i hi
        clear hX
        go_wp2_with (first
          | refine wpList_load_row rfl 32 _ rfl w.heap.size rfl _ _ (0, 0) _ H0.out Tryz.underlying32 rfl (HI.out _ (rowL_size _ _ _)) ?_
          | refine wpList_store_row rfl 32 _ _ rfl (w.heap.size + 1) (rowL 16 (hvF f l) 16) rfl rfl _ _ H1.out (HI.out _ (rowL_size _ _ _)) (by rw [HZ.out.1, rowL_size]) (rowL_one _ _ _) ?_)
        exact bodyPost_ret (v := .agg (rowL 16 (hvF f l) 16)) (results_cell_row rfl _ _ (w.heap.size + 1) 32 (rowL 16 (hvF f l) 16) (0, 0) _ rfl H1.out.setRow Tryz.underlying32 rfl (HI.out _ (rowL_size _ _ _))) rfl ⟨rfl, below_setRow' HB.out (by omega) _⟩
end Go.Proofs.YtfohinlldchdpaaGreatDoor.Lo
end

section
/- Contract: lost.Lose. Written by g36.py. -/
set_option maxRecDepth 100000
set_option linter.unusedVariables false
namespace Go.Proofs.YtfohinlldchdpaaGreatDoor.Lo
open Go.RowKit Go.Proofs.YtfohinlldchdpaaGreatDoor.Row Go.Proofs.YtfohinlldchdpaaGreatDoor.Md Go.Proofs.YtfohinlldchdpaaGreatDoor.Tl Go.Proofs.YtfohinlldchdpaaGreatDoor.Sta

theorem run_min2 (x y u : Int) (h : min x y = u) (w : World) : (Builtin.min_ #[3, 3] 3 #[.int .i64 x, .int .i64 y]).run Tryz.prog w = .ok (.int .i64 u) w := by
  have e : (if y < x then y else x) = u := by rw [← h]; split <;> omega
  rw [← e]
  simp [Builtin.min_, Builtin.min2]
theorem y_min {ops : Array Oper} {S : World → Prop} {a : Act} {oi : Oper} {y z : Operand} {m n r : Int} (hw : Region.wanted oi (yielded ops a.tmps) = true) (ho : oi.op = .call { callee := .builtin .min, args := #[y, z], argTypes := #[3, 3] }) (ht : oi.type = 3) (hy : a.eval y = .int .i64 m) (hz : a.eval z = .int .i64 n) (hr : min m n = r) : YieldsIf Tryz.prog ops S oi (.int .i64 r) a :=
  y_run hw fun w => by
    have h := run_min2 m n r hr w
    unfold execOp
    simp only [ho, ht, resolve, invoke, builtin, Sem.run_bind, Sem.run_pure, Result.andThen_ok, List.map_toArray, List.map_cons, List.map_nil, hy, hz, h]

theorem fld_p2 : FldAt 34 2 17 := fun b w => by
  unfold Instr.fieldAt
  simp [Sem.run_bind, run_underlying Tryz.underlying34, Instr.sureAddr, go_sem, Addr.add]
theorem fld_p3 : FldAt 34 3 21 := fun b w => by
  unfold Instr.fieldAt
  simp [Sem.run_bind, run_underlying Tryz.underlying34, Instr.sureAddr, go_sem, Addr.add]
theorem fld_p4 : FldAt 34 4 37 := fun b w => by
  unfold Instr.fieldAt
  simp [Sem.run_bind, run_underlying Tryz.underlying34, Instr.sureAddr, go_sem, Addr.add]
theorem enter_lowered (args : Array Value) (w : World) : (callFunc 71 args).run Tryz.prog w = .ok (.enter 71 args) w := run_enter Tryz.func71 (by kernel_rfl) rfl args w
theorem enter_halved (args : Array Value) (w : World) : (callFunc 72 args).run Tryz.prog w = .ok (.enter 72 args) w := run_enter Tryz.func72 (by kernel_rfl) rfl args w

/-- A state that came in, a block and a state of one's own behind it. -/
def Los (w : World) (T : Array Value) (w' : World) : Prop := ∃ A B : Array Value, A.size = 16 ∧ B.size = 38 ∧ Tri w T A B 34 32 34 w'
theorem Los.atT {w w' : World} {T : Array Value} (h : Los w T w') : At w' w.heap.size T 34 := by
  obtain ⟨_, _, _, _, h⟩ := h; exact h.2.1
theorem Los.next {w w1 w2 : World} {T : Array Value} (h : Los w T w1) (hb : Below w1.heap.size w1 w2) : Los w T w2 := by
  obtain ⟨A, B, h1, h2, h⟩ := h; exact ⟨A, B, h1, h2, h.next hb⟩
theorem Los.setA {w w1 : World} {T R : Array Value} (h : Los w T w1) (hR : R.size = 16) : Los w T (w1.setRow (w.heap.size + 1) R) := by
  obtain ⟨A, B, h1, h2, h3, h4, h5, h6⟩ := h
  exact ⟨R, B, hR, h2, below_setRow' h3 (by omega) _, h4.setRow_other (by omega), h5.setRow, h6.setRow_other (by omega)⟩
theorem Los.setB {w w1 : World} {T R : Array Value} (h : Los w T w1) (hR : R.size = 38) : Los w T (w1.setRow (w.heap.size + 1 + 1) R) := by
  obtain ⟨A, B, h1, h2, h3, h4, h5, h6⟩ := h
  exact ⟨A, R, h1, hR, below_setRow' h3 (by omega) _, h4.setRow_other (by omega), h5.setRow_other (by omega), h6.setRow⟩

set_option maxHeartbeats 2000000 in
theorem lose_of {T V U R Q : Array Value} {f h g : Nat → Int} {z : Int} (hT : IsRow 38 f T) (hV : rowL 4 (vF f) 4 = V) (hU : rowL 16 (uF f) 16 = U) (hz : min (IntKind.i64.wrap (f 37 + 1)) 255 = z)
    (hC : ∀ w, Calls Tryz.prog 37 #[.agg T, .agg V, .agg U, .int .i64 z] w fun e w' => e = .returned (.tuple #[.agg R, .agg Q]) ∧ Below w.heap.size w w') (hR : IsRow 16 h R) (hQ : IsRow 38 g Q) (w : World) :
    Calls Tryz.prog 26 #[.agg T] w fun e w' => e = .returned (.tuple #[.agg R, .agg Q]) ∧ Below w.heap.size w w' := by
  obtain ⟨Zp, hZp, _, hzp, hip⟩ := zero_p
  obtain ⟨Zb, hZb, _, hzb, hib⟩ := zero_b
  obtain ⟨_, _, _, _, hi4⟩ := zero_4
  obtain ⟨VV, hVV⟩ : ∃ X, T.extract 17 (17 + 4) = X := ⟨_, rfl⟩
  obtain ⟨UU, hUU⟩ : ∃ X, T.extract 21 (21 + 16) = X := ⟨_, rfl⟩
  have hVV' := hT.sub (show 17 + 4 ≤ 38 by omega)
  have hUU' := hT.sub (show 21 + 16 ≤ 38 by omega)
  rw [hVV] at hVV'
  rw [hUU] at hUU'
  obtain ⟨l, hl⟩ : ∃ l, f 37 = l := ⟨_, rfl⟩
  have hlw := fun w => lowered_any VV _ w hVV'
  have hhv := fun w => halved_any UU _ l w hUU'
  change ∀ w, Calls _ _ _ w fun e w' => e = .returned (.agg (rowL 4 (vF f) 4)) ∧ _ at hlw
  rw [hV] at hlw
  rw [← hl] at hhv
  change ∀ w, Calls _ _ _ w fun e w' => e = .returned (.agg (rowL 16 (uF f) 16)) ∧ _ at hhv
  rw [hU, hl] at hhv
  rw [hl] at hz
  have HLW := Lib.hid hlw
  have HHV := Lib.hid hhv
  have HC := Lib.hid hC
  have HL := Lib.hid hl
  have HZ := Lib.hid hz
  have HT := Lib.hid hT
  have HVV := Lib.hid hVV'
  have HUU := Lib.hid hUU'
  have HIP := Lib.hid hip
  have HIB := Lib.hid hib
  have HI4 := Lib.hid hi4
  have HR := Lib.hid hR
  have HQ := Lib.hid hQ
  have HW := Lib.hid (show Los w T _ from ⟨Zb, Zp, hZb.1, hZp.1, Tri.start w T Zb Zp 34 32 34⟩)
  clear hT hV hU hz hC hR hQ hip hib hi4 hVV hUU hVV' hUU' hl hlw hhv hZb hZp
  go_enter Tryz.func26, Tryz.ntmps26
  go_wp2_with fail
  revert HW
  generalize World.alloc _ _ = W
  intro HW
  refine mv_startS (Los w T) (HW.out.next ((Below.refl _ _).drew)) fun hS => ?_
  refine mv_yield (i := 1) (d := 5) (.pointer (some ⟨w.heap.size, 17, none⟩)) rfl rfl (by kernel_rfl) (by kernel_rfl) (by kernel_rfl) hS (y_field (by rfl) rfl rfl fld_p2) ?_
  simp only [Act.put, List.setIfInBounds_toArray, List.set_cons_zero, List.set_cons_succ]
  refine mv_yield (i := 2) (d := 6) (.agg VV) rfl rfl (by kernel_rfl) (by kernel_rfl) (by kernel_rfl) hS (y_load_part (l := 17) (by rfl) rfl rfl HT.out (fun w' h => h.atT) HVV.out (by omega) (fun i _ => rfl) Tryz.underlying23 rfl (HI4.out _ HVV.out.1)) ?_
  simp only [Act.put, List.setIfInBounds_toArray, List.set_cons_zero, List.set_cons_succ]
  refine mv_yield (i := 4) (d := 8) (.pointer (some ⟨w.heap.size, 21, none⟩)) rfl rfl (by kernel_rfl) (by kernel_rfl) (by kernel_rfl) hS (y_field (by rfl) rfl rfl fld_p3) ?_
  simp only [Act.put, List.setIfInBounds_toArray, List.set_cons_zero, List.set_cons_succ]
  refine mv_yield (i := 5) (d := 9) (.agg UU) rfl rfl (by kernel_rfl) (by kernel_rfl) (by kernel_rfl) hS (y_load_part (l := 21) (by rfl) rfl rfl HT.out (fun w' h => h.atT) HUU.out (by omega) (fun i _ => rfl) Tryz.underlying32 rfl (HIB.out _ HUU.out.1)) ?_
  simp only [Act.put, List.setIfInBounds_toArray, List.set_cons_zero, List.set_cons_succ]
  refine mv_yield (i := 6) (d := 10) (.pointer (some ⟨w.heap.size, 37, none⟩)) rfl rfl (by kernel_rfl) (by kernel_rfl) (by kernel_rfl) hS (y_field (by rfl) rfl rfl fld_p4) ?_
  simp only [Act.put, List.setIfInBounds_toArray, List.set_cons_zero, List.set_cons_succ]
  refine mv_yield (i := 7) (d := 11) (.int .i64 l) rfl rfl (by kernel_rfl) (by kernel_rfl) (by kernel_rfl) hS (y_cellS (by rfl) rfl rfl (fun w' h => by have := HT.out.cell h.atT 37 (by omega); rw [HL.out] at this; exact this)) ?_
  simp only [Act.put, List.setIfInBounds_toArray, List.set_cons_zero, List.set_cons_succ]
  refine mv_yield (i := 9) (d := 13) (.pointer (some ⟨w.heap.size, 37, none⟩)) rfl rfl (by kernel_rfl) (by kernel_rfl) (by kernel_rfl) hS (y_field (by rfl) rfl rfl fld_p4) ?_
  simp only [Act.put, List.setIfInBounds_toArray, List.set_cons_zero, List.set_cons_succ]
  refine mv_yield (i := 10) (d := 14) (.int .i64 l) rfl rfl (by kernel_rfl) (by kernel_rfl) (by kernel_rfl) hS (y_cellS (by rfl) rfl rfl (fun w' h => by have := HT.out.cell h.atT 37 (by omega); rw [HL.out] at this; exact this)) ?_
  simp only [Act.put, List.setIfInBounds_toArray, List.set_cons_zero, List.set_cons_succ]
  refine mv_yield (i := 11) (d := 15) (.int .i64 (IntKind.i64.wrap (l + 1))) rfl rfl (by kernel_rfl) (by kernel_rfl) (by kernel_rfl) hS (y_add (by rfl) rfl rfl rfl rfl) ?_
  simp only [Act.put, List.setIfInBounds_toArray, List.set_cons_zero, List.set_cons_succ]
  refine mv_yield (i := 12) (d := 16) (.int .i64 z) rfl rfl (by kernel_rfl) (by kernel_rfl) (by kernel_rfl) hS (y_min (by rfl) rfl rfl rfl rfl HZ.out) ?_
  simp only [Act.put, List.setIfInBounds_toArray, List.set_cons_zero, List.set_cons_succ]
  refine mv_yield (i := 0) (d := 4) (.agg T) rfl rfl (by kernel_rfl) (by kernel_rfl) (by kernel_rfl) hS (y_load_part (l := 0) (by rfl) rfl rfl HT.out (fun w' h => h.atT) HT.out (by omega) (fun i _ => by rw [Nat.zero_add]) Tryz.underlying34 rfl (HIP.out _ HT.out.1)) ?_
  simp only [Act.put, List.setIfInBounds_toArray, List.set_cons_zero, List.set_cons_succ]
  refine mv_ready [3] (by kernel_rfl) (by simp) (ar_callP (i := 3) (d := 7) (v := .agg V) #[.agg VV] rfl rfl (by rfl) rfl enter_lowered (by kernel_rfl) (HLW.out _) (fun w' h => hS.next h) ?_ AllReadyH.nil)
  clear hS
  rintro w' hb hS
  clear hb
  simp only [Act.put, List.setIfInBounds_toArray, List.set_cons_zero, List.set_cons_succ]
  refine mv_ready [8] (by kernel_rfl) (by simp) (ar_callP (i := 8) (d := 12) (v := .agg U) #[.agg UU, .int .i64 l] rfl rfl (by rfl) rfl enter_halved (by kernel_rfl) (HHV.out _) (fun w' h => hS.next h) ?_ AllReadyH.nil)
  clear hS
  rintro w' hb hS
  clear hb
  simp only [Act.put, List.setIfInBounds_toArray, List.set_cons_zero, List.set_cons_succ]
  refine mv_ready [13] (by kernel_rfl) (by simp) (ar_callP (i := 13) (d := 17) (v := .tuple #[.agg R, .agg Q]) #[.agg T, .agg V, .agg U, .int .i64 z] rfl rfl (by rfl) rfl enter_next (by kernel_rfl) (HC.out _) (fun w' h => hS.next h) ?_ AllReadyH.nil)
  clear hS
  rintro w' hb hS
  clear hb
  simp only [Act.put, List.setIfInBounds_toArray, List.set_cons_zero, List.set_cons_succ]
  refine mv_yield (i := 14) (d := 18) (.agg R) rfl rfl (by kernel_rfl) (by kernel_rfl) (by kernel_rfl) hS (y_run (by rfl) fun _ => by rfl) ?_
  simp only [Act.put, List.setIfInBounds_toArray, List.set_cons_zero, List.set_cons_succ]
  refine mv_yield (i := 15) (d := 19) (.agg Q) rfl rfl (by kernel_rfl) (by kernel_rfl) (by kernel_rfl) hS (y_run (by rfl) fun _ => by rfl) ?_
  simp only [Act.put, List.setIfInBounds_toArray, List.set_cons_zero, List.set_cons_succ]
  obtain ⟨A, B, hA, hB, hX⟩ := id hS
  refine mv_ready [16] (by kernel_rfl) (by simp) (ar_store (i := 16) (w.heap.size + 1) R A rfl rfl (by rfl) rfl rfl rfl hX.2.2.1 (by rw [hA, HR.out.1]) HR.out.2.1 (HIB.out _ HR.out.1) (hS.setA HR.out.1) (fun hS' => ?_) AllReadyH.nil)
  have a5 := hX.2.2.1.setRow (C := R)
  have a6 := hX.2.2.2.setRow_other (C := R) (show w.heap.size + 1 + 1 ≠ w.heap.size + 1 by omega)
  refine mv_ready [17] (by kernel_rfl) (by simp) (ar_store (i := 17) (w.heap.size + 1 + 1) Q B rfl rfl (by rfl) rfl rfl rfl a6 (by rw [hB, HQ.out.1]) HQ.out.2.1 (HIP.out _ HQ.out.1) (hS'.setB HQ.out.1) (fun hS2 => ?_) AllReadyH.nil)
  have PX := Lib.hid (a5.setRow_other (C := Q) (show w.heap.size + 1 ≠ w.heap.size + 1 + 1 by omega))
  have PY := Lib.hid (a6.setRow (C := Q))
  obtain ⟨_, _, _, _, hb, _⟩ := hS2
  refine mv_done (by kernel_rfl) ?_
  have HB := Lib.hid hb
  clear hb hS hS' a5 a6 hX
  go_wp2_with fail
  exact bodyPost_ret (v := .tuple #[.agg R, .agg Q]) (results_any_two rfl _ _ (w.heap.size + 1) (w.heap.size + 1 + 1) R Q _ _ rfl rfl PX.out PY.out Tryz.underlying32 rfl (HIB.out _ HR.out.1) Tryz.underlying34 rfl (HIP.out _ HQ.out.1)) rfl ⟨rfl, HB.out⟩

theorem mr_min {l z : Int} (h0 : 0 ≤ l) (h1 : l ≤ 255) (hz : mrZ l = z) : min (IntKind.i64.wrap (l + 1)) 255 = z := by rw [IntWalk.i64_in _ (by omega)]; exact hz
/-- Behind a right state. -/
theorem lose_yes {T R Q : Array Value} {f : Nat → Int} (hT : IsRow 38 f T) (h : Rt f) (hR : IsRow 16 (slF f) R) (hQ : IsRow 38 (nlF f) Q) (w : World) :
    Calls Tryz.prog 26 #[.agg T] w fun e w' => e = .returned (.tuple #[.agg R, .agg Q]) ∧ Below w.heap.size w w' :=
  lose_of hT rfl rfl (mr_min h.2.2.2.2.1 h.2.2.2.2.2 rfl) (next_as (next_yes T _ _ f _ _ _ hT (isRow _ _) (isRow _ _) h (th_lost h)) hR hQ) hR hQ w
/-- Behind any other. -/
theorem lose_no {T R Q : Array Value} {f : Nat → Int} (hT : IsRow 38 f T) (h : ¬ Rt f) (hR : IsRow 16 (fun _ => 0) R) (hQ : IsRow 38 (fun _ => 0) Q) (w : World) :
    Calls Tryz.prog 26 #[.agg T] w fun e w' => e = .returned (.tuple #[.agg R, .agg Q]) ∧ Below w.heap.size w w' :=
  lose_of hT rfl rfl rfl (next_as (next_no T _ _ f _ _ _ hT (isRow _ _) (isRow _ _) (.inl h)) hR hQ) hR hQ w
theorem enter_lose (args : Array Value) (w : World) : (callFunc 26 args).run Tryz.prog w = .ok (.enter 26 args) w := run_enter Tryz.func26 (by kernel_rfl) rfl args w
end Go.Proofs.YtfohinlldchdpaaGreatDoor.Lo
end

section
/- The laws' Of and Plain of encoders; the document's Right and Sound. Written by g43.py. -/
set_option maxRecDepth 100000
set_option linter.unusedVariables false
namespace Go.Proofs.YtfohinlldchdpaaGreatDoor.En
open Go.RowKit Go.Proofs.YtfohinlldchdpaaGreatDoor.Row Go.Proofs.YtfohinlldchdpaaGreatDoor.Md Go.Proofs.YtfohinlldchdpaaGreatDoor.Tl Go.Proofs.YtfohinlldchdpaaGreatDoor.Sta

/-- An encoder that came in, and one of one's own behind it. -/
def TwE (w : World) (T : Array Value) (t u : TypeId) (w' : World) : Prop := ∃ Z : Array Value, Z.size = 55 ∧ Below w.heap.size w w' ∧ At w' w.heap.size T t ∧ At w' (w.heap.size + 1) Z u
theorem TwE.start (w : World) (T : Array Value) (t u : TypeId) {Z : Array Value} (hZ : Z.size = 55) : TwE w T t u ((w.alloc (.cells T t)).alloc (.cells Z u)) := by
  have a1 := At.new (w.alloc (.cells T t)) Z u
  simp only [World.size_alloc] at a1
  exact ⟨Z, hZ, ((Below.refl _ _).alloc (Nat.le_refl _) _).alloc (by simp) _, (At.new _ _ _).alloc _, a1⟩
theorem TwE.atT {w w' : World} {T : Array Value} {t u : TypeId} (h : TwE w T t u w') : At w' w.heap.size T t := by
  obtain ⟨_, _, _, h, _⟩ := h; exact h
theorem TwE.next {w w1 w2 : World} {T : Array Value} {t u : TypeId} (h : TwE w T t u w1) (hb : Below w1.heap.size w1 w2) : TwE w T t u w2 := by
  obtain ⟨Z, hZ, h1, h2, h3⟩ := h
  exact ⟨Z, hZ, below_trans h1 hb h1.size, h2.below hb h2.lt, h3.below hb h3.lt⟩
theorem TwE.set {w w1 : World} {T R : Array Value} {t u : TypeId} (h : TwE w T t u w1) (hR : R.size = 55) : TwE w T t u (w1.setRow (w.heap.size + 1) R) := by
  obtain ⟨Z, hZ, h1, h2, h3⟩ := h
  exact ⟨R, hR, below_setRow' h1 (by omega) _, h2.setRow_other (by omega), h3.setRow⟩

set_option maxHeartbeats 1000000 in
theorem of_en (T : Array Value) (f : Nat → Int) (hT : IsRow 55 f T) (w : World) :
    Calls Tryz.prog 13 #[.agg T] w fun e w' => e = .returned (.agg T) ∧ Below w.heap.size w w' := by
  obtain ⟨Z, hZ, _, hz, hi⟩ := zero_ep
  obtain ⟨_, _, _, _, hib⟩ := zero_a
  obtain ⟨_, _, _, _, his⟩ := zero_r
  obtain ⟨z, hz16⟩ : ∃ z, f 16 = z := ⟨_, rfl⟩
  obtain ⟨M, hM⟩ : ∃ M, T.extract 0 (0 + 16) = M := ⟨_, rfl⟩
  obtain ⟨Q, hQ⟩ : ∃ M, T.extract 17 (17 + 38) = M := ⟨_, rfl⟩
  have hM' := hT.sub (show 0 + 16 ≤ 55 by omega)
  have hQ' := hT.sub (show 17 + 38 ≤ 55 by omega)
  rw [hM] at hM'
  rw [hQ] at hQ'
  obtain ⟨C, hC, hE⟩ := ebuilt_3 isEn_p hM' z hQ'
  obtain rfl : C = T := hC.eq hT fun k hk => by
    have h : enF (fun i => f (0 + i)) z (fun i => f (17 + i)) k = enF f (f 16) (fun i => f (17 + i)) k := by
      unfold enF
      rw [hz16]
      dsimp only
      rw [Nat.zero_add]
    rw [h, enF_self f hk]
  have HE := Lib.hid hE
  have HI := Lib.hid hi
  have HIB := Lib.hid hib
  have HIS := Lib.hid his
  have HT := Lib.hid hT
  have HM := Lib.hid hM'
  have HQ := Lib.hid hQ'
  have HZ16 := Lib.hid hz16
  have HW := Lib.hid (TwE.start w C 27 36 hZ.1)
  clear hT hZ hi hib his hz16 hM hQ hM' hQ' hC hE
  go_enter Tryz.func13, Tryz.ntmps13
  go_wp2_with fail
  revert HW
  generalize World.alloc _ _ = W
  intro HW
  refine mv_startS (TwE w C 27 36) (HW.out.next ((Below.refl _ _).drew)) fun hS => ?_
  refine mv_yield (i := 0) (d := 3) (.pointer (some ⟨w.heap.size, 0, none⟩)) rfl rfl (by kernel_rfl) (by kernel_rfl) (by kernel_rfl) hS (y_field (by rfl) rfl rfl fld_er0) ?_
  simp only [Act.put, List.setIfInBounds_toArray, List.set_cons_zero, List.set_cons_succ]
  refine mv_yield (i := 1) (d := 4) (.agg M) rfl rfl (by kernel_rfl) (by kernel_rfl) (by kernel_rfl) hS (y_load_part (l := 0) (by rfl) rfl rfl HT.out (fun w' h => h.atT) HM.out (by omega) (fun i _ => by first | rw [Nat.zero_add] | rfl) Tryz.underlying22 rfl (HIB.out _ HM.out.1)) ?_
  simp only [Act.put, List.setIfInBounds_toArray, List.set_cons_zero, List.set_cons_succ]
  refine mv_yield (i := 2) (d := 5) (.pointer (some ⟨w.heap.size, 16, none⟩)) rfl rfl (by kernel_rfl) (by kernel_rfl) (by kernel_rfl) hS (y_field (by rfl) rfl rfl fld_er1) ?_
  simp only [Act.put, List.setIfInBounds_toArray, List.set_cons_zero, List.set_cons_succ]
  refine mv_yield (i := 3) (d := 6) (.int .i64 z) rfl rfl (by kernel_rfl) (by kernel_rfl) (by kernel_rfl) hS (y_cellS (by rfl) rfl rfl (fun w' h => by have := HT.out.cell h.atT 16 (by omega); rw [HZ16.out] at this; exact this)) ?_
  simp only [Act.put, List.setIfInBounds_toArray, List.set_cons_zero, List.set_cons_succ]
  refine mv_yield (i := 4) (d := 7) (.pointer (some ⟨w.heap.size, 17, none⟩)) rfl rfl (by kernel_rfl) (by kernel_rfl) (by kernel_rfl) hS (y_field (by rfl) rfl rfl fld_er2) ?_
  simp only [Act.put, List.setIfInBounds_toArray, List.set_cons_zero, List.set_cons_succ]
  refine mv_yield (i := 5) (d := 8) (.agg Q) rfl rfl (by kernel_rfl) (by kernel_rfl) (by kernel_rfl) hS (y_load_part (l := 17) (by rfl) rfl rfl HT.out (fun w' h => h.atT) HQ.out (by omega) (fun i _ => by first | rw [Nat.zero_add] | rfl) Tryz.underlying25 rfl (HIS.out _ HQ.out.1)) ?_
  simp only [Act.put, List.setIfInBounds_toArray, List.set_cons_zero, List.set_cons_succ]
  refine mv_ready [6] (by kernel_rfl) (by simp) (ar_callP (i := 6) (d := 9) (v := .agg Q) #[.agg Q] rfl rfl (by rfl) rfl enter_of (by kernel_rfl) (of_as Q _ _ HQ.out) (fun w' h => hS.next h) ?_ AllReadyH.nil)
  clear hS
  rintro w' hb hS
  clear hb
  simp only [Act.put, List.setIfInBounds_toArray, List.set_cons_zero, List.set_cons_succ]
  refine mv_yield (i := 7) (d := 10) (.agg C) rfl rfl (by kernel_rfl) (by kernel_rfl) (by kernel_rfl) hS (y_build_parts (L := [(0, _), (1, _), (2, _)]) (by rfl) rfl _ rfl HE.out) ?_
  simp only [Act.put, List.setIfInBounds_toArray, List.set_cons_zero, List.set_cons_succ]
  obtain ⟨Y, hY, h0, h1, h2⟩ := id hS
  refine mv_ready [8] (by kernel_rfl) (by simp) (ar_store (i := 8) (w.heap.size + 1) C Y rfl rfl (by rfl) rfl rfl rfl h2 (by rw [hY, HT.out.1]) HT.out.2.1 (HI.out _ HT.out.1) (hS.set HT.out.1) (fun hS' => ?_) AllReadyH.nil)
  have PX := Lib.hid (h2.setRow (C := C))
  obtain ⟨_, _, hb, _⟩ := hS'
  refine mv_done (by kernel_rfl) ?_
  have HB := Lib.hid hb
  clear hb hS h0 h1 h2
  go_wp2_with fail
  exact bodyPost_ret (v := .agg C) (results_cell_row rfl _ _ (w.heap.size + 1) 36 C (0, 0) _ rfl PX.out Tryz.underlying36 rfl (HI.out _ HT.out.1)) rfl ⟨rfl, HB.out⟩

set_option maxHeartbeats 1000000 in
theorem plain_en (T : Array Value) (f : Nat → Int) (hT : IsRow 55 f T) (w : World) :
    Calls Tryz.prog 20 #[.agg T] w fun e w' => e = .returned (.agg T) ∧ Below w.heap.size w w' := by
  obtain ⟨Z, hZ, _, hz, hi⟩ := zero_er
  obtain ⟨_, _, _, _, hib⟩ := zero_b
  obtain ⟨_, _, _, _, his⟩ := zero_p
  obtain ⟨z, hz16⟩ : ∃ z, f 16 = z := ⟨_, rfl⟩
  obtain ⟨M, hM⟩ : ∃ M, T.extract 0 (0 + 16) = M := ⟨_, rfl⟩
  obtain ⟨Q, hQ⟩ : ∃ M, T.extract 17 (17 + 38) = M := ⟨_, rfl⟩
  have hM' := hT.sub (show 0 + 16 ≤ 55 by omega)
  have hQ' := hT.sub (show 17 + 38 ≤ 55 by omega)
  rw [hM] at hM'
  rw [hQ] at hQ'
  obtain ⟨C, hC, hE⟩ := ebuilt_3 isEn_r hM' z hQ'
  obtain rfl : C = T := hC.eq hT fun k hk => by
    have h : enF (fun i => f (0 + i)) z (fun i => f (17 + i)) k = enF f (f 16) (fun i => f (17 + i)) k := by
      unfold enF
      rw [hz16]
      dsimp only
      rw [Nat.zero_add]
    rw [h, enF_self f hk]
  have HE := Lib.hid hE
  have HI := Lib.hid hi
  have HIB := Lib.hid hib
  have HIS := Lib.hid his
  have HT := Lib.hid hT
  have HM := Lib.hid hM'
  have HQ := Lib.hid hQ'
  have HZ16 := Lib.hid hz16
  have HW := Lib.hid (TwE.start w C 36 27 hZ.1)
  clear hT hZ hi hib his hz16 hM hQ hM' hQ' hC hE
  go_enter Tryz.func20, Tryz.ntmps20
  go_wp2_with fail
  revert HW
  generalize World.alloc _ _ = W
  intro HW
  refine mv_startS (TwE w C 36 27) (HW.out.next ((Below.refl _ _).drew)) fun hS => ?_
  refine mv_yield (i := 0) (d := 3) (.pointer (some ⟨w.heap.size, 0, none⟩)) rfl rfl (by kernel_rfl) (by kernel_rfl) (by kernel_rfl) hS (y_field (by rfl) rfl rfl fld_ep0) ?_
  simp only [Act.put, List.setIfInBounds_toArray, List.set_cons_zero, List.set_cons_succ]
  refine mv_yield (i := 1) (d := 4) (.agg M) rfl rfl (by kernel_rfl) (by kernel_rfl) (by kernel_rfl) hS (y_load_part (l := 0) (by rfl) rfl rfl HT.out (fun w' h => h.atT) HM.out (by omega) (fun i _ => by first | rw [Nat.zero_add] | rfl) Tryz.underlying32 rfl (HIB.out _ HM.out.1)) ?_
  simp only [Act.put, List.setIfInBounds_toArray, List.set_cons_zero, List.set_cons_succ]
  refine mv_yield (i := 2) (d := 5) (.pointer (some ⟨w.heap.size, 16, none⟩)) rfl rfl (by kernel_rfl) (by kernel_rfl) (by kernel_rfl) hS (y_field (by rfl) rfl rfl fld_ep1) ?_
  simp only [Act.put, List.setIfInBounds_toArray, List.set_cons_zero, List.set_cons_succ]
  refine mv_yield (i := 3) (d := 6) (.int .i64 z) rfl rfl (by kernel_rfl) (by kernel_rfl) (by kernel_rfl) hS (y_cellS (by rfl) rfl rfl (fun w' h => by have := HT.out.cell h.atT 16 (by omega); rw [HZ16.out] at this; exact this)) ?_
  simp only [Act.put, List.setIfInBounds_toArray, List.set_cons_zero, List.set_cons_succ]
  refine mv_yield (i := 4) (d := 7) (.pointer (some ⟨w.heap.size, 17, none⟩)) rfl rfl (by kernel_rfl) (by kernel_rfl) (by kernel_rfl) hS (y_field (by rfl) rfl rfl fld_ep2) ?_
  simp only [Act.put, List.setIfInBounds_toArray, List.set_cons_zero, List.set_cons_succ]
  refine mv_yield (i := 5) (d := 8) (.agg Q) rfl rfl (by kernel_rfl) (by kernel_rfl) (by kernel_rfl) hS (y_load_part (l := 17) (by rfl) rfl rfl HT.out (fun w' h => h.atT) HQ.out (by omega) (fun i _ => by first | rw [Nat.zero_add] | rfl) Tryz.underlying34 rfl (HIS.out _ HQ.out.1)) ?_
  simp only [Act.put, List.setIfInBounds_toArray, List.set_cons_zero, List.set_cons_succ]
  refine mv_ready [6] (by kernel_rfl) (by simp) (ar_callP (i := 6) (d := 9) (v := .agg Q) #[.agg Q] rfl rfl (by rfl) rfl enter_plain (by kernel_rfl) (plain_as Q _ _ HQ.out) (fun w' h => hS.next h) ?_ AllReadyH.nil)
  clear hS
  rintro w' hb hS
  clear hb
  simp only [Act.put, List.setIfInBounds_toArray, List.set_cons_zero, List.set_cons_succ]
  refine mv_yield (i := 7) (d := 10) (.agg C) rfl rfl (by kernel_rfl) (by kernel_rfl) (by kernel_rfl) hS (y_build_parts (L := [(0, _), (1, _), (2, _)]) (by rfl) rfl _ rfl HE.out) ?_
  simp only [Act.put, List.setIfInBounds_toArray, List.set_cons_zero, List.set_cons_succ]
  obtain ⟨Y, hY, h0, h1, h2⟩ := id hS
  refine mv_ready [8] (by kernel_rfl) (by simp) (ar_store (i := 8) (w.heap.size + 1) C Y rfl rfl (by rfl) rfl rfl rfl h2 (by rw [hY, HT.out.1]) HT.out.2.1 (HI.out _ HT.out.1) (hS.set HT.out.1) (fun hS' => ?_) AllReadyH.nil)
  have PX := Lib.hid (h2.setRow (C := C))
  obtain ⟨_, _, hb, _⟩ := hS'
  refine mv_done (by kernel_rfl) ?_
  have HB := Lib.hid hb
  clear hb hS h0 h1 h2
  go_wp2_with fail
  exact bodyPost_ret (v := .agg C) (results_cell_row rfl _ _ (w.heap.size + 1) 27 C (0, 0) _ rfl PX.out Tryz.underlying27 rfl (HI.out _ HT.out.1)) rfl ⟨rfl, HB.out⟩

theorem enter_of_en (args : Array Value) (w : World) : (callFunc 13 args).run Tryz.prog w = .ok (.enter 13 args) w := run_enter Tryz.func13 (by kernel_rfl) rfl args w
theorem enter_plain_en (args : Array Value) (w : World) : (callFunc 20 args).run Tryz.prog w = .ok (.enter 20 args) w := run_enter Tryz.func20 (by kernel_rfl) rfl args w
end Go.Proofs.YtfohinlldchdpaaGreatDoor.En
end

section
/- What stands while lost.Run works; three rows changed. -/
set_option maxRecDepth 100000
set_option linter.unusedVariables false
namespace Go.Proofs.YtfohinlldchdpaaGreatDoor.Lo
open Go.RowKit Go.Proofs.YtfohinlldchdpaaGreatDoor.Row Go.Proofs.YtfohinlldchdpaaGreatDoor.Md Go.Proofs.YtfohinlldchdpaaGreatDoor.Tl Go.Proofs.YtfohinlldchdpaaGreatDoor.Sta

theorem Tri.other {w w1 : World} {T V U : Array Value} {t v u : TypeId} (h : Tri w T V U t v u w1) {b : Nat} (hb : w.heap.size + 1 + 1 < b) (R : Array Value) : Tri w T V U t v u (w1.setRow b R) :=
  ⟨below_setRow' h.1 (by omega) R, h.2.1.setRow_other (by omega), h.2.2.1.setRow_other (by omega), h.2.2.2.setRow_other (by omega)⟩
theorem Tri.setV {w w1 : World} {T V U : Array Value} {t v u : TypeId} (h : Tri w T V U t v u w1) (R : Array Value) : Tri w T R U t v u (w1.setRow (w.heap.size + 1) R) :=
  ⟨below_setRow' h.1 (by omega) R, h.2.1.setRow_other (by omega), h.2.2.1.setRow, h.2.2.2.setRow_other (by omega)⟩
theorem Tri.setU {w w1 : World} {T V U : Array Value} {t v u : TypeId} (h : Tri w T V U t v u w1) (R : Array Value) : Tri w T V R t v u (w1.setRow (w.heap.size + 1 + 1) R) :=
  ⟨below_setRow' h.1 (by omega) R, h.2.1.setRow_other (by omega), h.2.2.1.setRow_other (by omega), h.2.2.2.setRow⟩

/-- What stands while frames are lost: the state so far, one of one's own, the sounds so far. -/
def RuS (w : World) (Q : Array Value) (a : Option Addr) (k c : Nat) (so : Nat → Nat → Int) (w' : World) : Prop :=
  Below w.heap.size w w' ∧ w.heap.size + 1 + 1 ≤ w'.heap.size ∧ At w' w.heap.size Q 34 ∧ (∃ Z : Array Value, Z.size = 38 ∧ At w' (w.heap.size + 1) Z 34) ∧ Bks w' (w.heap.size + 1 + 1) a k c so
theorem RuS.start (w : World) {T Z : Array Value} (so : Nat → Nat → Int) (hZ : Z.size = 38) : RuS w T none 0 0 so ((w.alloc (.cells T 34)).alloc (.cells Z 34)) := by
  have a1 := At.new (w.alloc (.cells T 34)) Z 34
  simp only [World.size_alloc] at a1
  exact ⟨((Below.refl _ _).alloc (Nat.le_refl _) _).alloc (by simp) _, by simp, (At.new _ _ _).alloc _, ⟨Z, hZ, a1⟩, Bks.nil _ _ _⟩
theorem RuS.next {w w1 w2 : World} {Q : Array Value} {a : Option Addr} {k c : Nat} {so : Nat → Nat → Int} (h : RuS w Q a k c so w1) (hb : Below w1.heap.size w1 w2) : RuS w Q a k c so w2 := by
  obtain ⟨h1, h2, h3, ⟨Z, h4, h5⟩, h6⟩ := h
  exact ⟨below_trans h1 hb h1.size, Nat.le_trans h2 hb.size, h3.below hb h3.lt, ⟨Z, h4, h5.below hb h5.lt⟩, h6.below hb⟩
theorem RuS.setQ {w w1 : World} {Q R : Array Value} {a : Option Addr} {k c : Nat} {so : Nat → Nat → Int} (h : RuS w Q a k c so w1) : RuS w R a k c so (w1.setRow w.heap.size R) := by
  obtain ⟨h1, h2, h3, ⟨Z, h4, h5⟩, h6⟩ := h
  exact ⟨below_setRow' h1 (by omega) _, by rw [size_setRow]; exact h2, h3.setRow, ⟨Z, h4, h5.setRow_other (by omega)⟩, h6.setRow (by omega) _⟩
theorem RuS.setZ {w w1 : World} {Q R : Array Value} {a : Option Addr} {k c : Nat} {so : Nat → Nat → Int} (h : RuS w Q a k c so w1) (hR : R.size = 38) : RuS w Q a k c so (w1.setRow (w.heap.size + 1) R) := by
  obtain ⟨h1, h2, h3, ⟨Z, h4, h5⟩, h6⟩ := h
  exact ⟨below_setRow' h1 (by omega) _, by rw [size_setRow]; exact h2, h3.setRow_other (by omega), ⟨R, hR, h5.setRow⟩, h6.setRow (by omega) _⟩
theorem RuS.other {w w1 : World} {Q R : Array Value} {a : Option Addr} {k c b : Nat} {so : Nat → Nat → Int} (h : RuS w Q a k c so w1) (hb : w.heap.size + 1 + 1 ≤ b) (hd : ∀ g, (Value.slice a k c).ownBlock = some g → g ≠ b) : RuS w Q a k c so (w1.setRow b R) := by
  obtain ⟨h1, h2, h3, ⟨Z, h4, h5⟩, h6⟩ := h
  refine ⟨below_setRow' h1 (by omega) _, by rw [size_setRow]; exact h2, h3.setRow_other (by omega), ⟨Z, h4, h5.setRow_other (by omega)⟩, ?_⟩
  obtain ⟨e1, e2 | ⟨g, cap, cur, e, e3, e4, e5⟩⟩ := h6
  · exact ⟨e1, .inl e2⟩
  · refine ⟨e1, .inr ⟨g, cap, cur, e, e3, ?_, e5⟩⟩
    have hne : b ≠ g := fun e' => hd g (by rw [e]; rfl) e'.symm
    unfold World.setRow
    simp only [Array.getElem?_modify, hne, if_false]
    exact e4
theorem RuS.grown {w w1 w2 : World} {Q : Array Value} {a a' : Option Addr} {k c c' : Nat} {so : Nat → Nat → Int} (h : RuS w Q a k c so w1) (hg : w1.grownBy w2 (Value.slice a k c).ownBlock) (hB : Bks w2 (w.heap.size + 1 + 1) a' (k + 1) c' so) : RuS w Q a' (k + 1) c' so w2 := by
  obtain ⟨h1, h2, h3, ⟨Z, h4, h5⟩, h6⟩ := h
  have hb : Below w.heap.size w w2 := h1.grown hg (by have := h1.size; omega) fun g hg => by have := (h6.block g hg).1; omega
  exact ⟨hb, Nat.le_trans h2 hg.size, h3.grown hg fun e => by have := (h6.block _ e).1; omega, ⟨Z, h4, h5.grown hg fun e => by have := (h6.block _ e).1; omega⟩, hB⟩
end Go.Proofs.YtfohinlldchdpaaGreatDoor.Lo
end

section
/- Contract: lost.Run. -/
set_option maxRecDepth 100000
set_option linter.unusedVariables false
namespace Go.Proofs.YtfohinlldchdpaaGreatDoor.Lo
open Go.RowKit Go.Proofs.YtfohinlldchdpaaGreatDoor.Row Go.Proofs.YtfohinlldchdpaaGreatDoor.Md Go.Proofs.YtfohinlldchdpaaGreatDoor.Tl Go.Proofs.YtfohinlldchdpaaGreatDoor.Sta

/-- What Run answers: so many sounds of its own, and the state then. -/
def RetRun (w : World) (st so : Nat → Nat → Int) (N : Nat) (e : Ending) (w' : World) : Prop :=
  ∃ a c Q, e = .returned (.tuple #[.slice a N c, .agg Q]) ∧ IsRow 38 (st N) Q ∧ Bks w' w.heap.size a N c so ∧ Below w.heap.size w w'

theorem results_slice_row {fn : Func} {p q : Tmp} {t : TypeId} {z : Value} (h : fn.results = #[.tmp q, .cell p t]) (tmps : Array Value) (w : World) (g : Nat) (A : Array Value) {u : TypeId} (d : TypeDesc)
    (hq : tmps.getD q undef = z) (hp : tmps.getD p undef = .pointer (some ⟨g, 0, none⟩)) (hg : At w g A u)
    (hu : Tryz.prog.underlying t = some d) (hd : d.isRow = true) (hA : (Tryz.prog.info? t).map (·.size) = some A.size) :
    (results fn tmps).run Tryz.prog w = .ok (.tuple #[z, .agg A]) w := by
  have hp' : tmps[p]?.getD undef = .pointer (some ⟨g, 0, none⟩) := by simpa using hp
  have hq' : tmps[q]?.getD undef = z := by simpa using hq
  have h1 := run_loadVar_row w g u t A (0, 0) _ hg hu (by cases d <;> first | rfl | cases hd) hA
  simp [results, h, hp', hq', asAddr, h1]

set_option maxHeartbeats 4000000 in
theorem run_gen (T : Array Value) (st so : Nat → Nat → Int) (n m : Int) (N : Nat) (hm : min n 1000 = m) (hN : (N : Int) = max m 0) (hT : IsRow 38 (st 0) T)
    (hL : ∀ k, k < N → ∀ X, IsRow 38 (st k) X → ∃ R Q, IsRow 16 (so k) R ∧ IsRow 38 (st (k + 1)) Q ∧ ∀ w, Calls Tryz.prog 26 #[.agg X] w fun e w' => e = .returned (.tuple #[.agg R, .agg Q]) ∧ Below w.heap.size w w') (w : World) :
    Calls Tryz.prog 25 #[.agg T, .int .i64 n] w (RetRun w st so N) := by
  obtain ⟨Zp, hZp, _, hzp, hip⟩ := zero_p
  obtain ⟨Zb, hZb, _, hzb, hib⟩ := zero_b
  have rm := run_min2 n 1000 m hm
  have hN3 : N ≤ 1000 := by omega
  have HL := Lib.hid hL
  have HIP := Lib.hid hip
  have HIB := Lib.hid hib
  have HZB := Lib.hid hZb.1
  have HZP := Lib.hid hZp.1
  have HT := Lib.hid hT
  have HS := Lib.hid (RuS.start w (T := T) so hZp.1)
  have HN3 := Lib.hid hN3
  have HN := Lib.hid hN
  clear hip hib hL hT hZb hZp hm hN3 hN
  go_enter Tryz.func25, Tryz.ntmps25
  go_wp2_with fail
  clear rm
  go_loopw [6, 11] (fun s i w' => ∃ (k : Nat) (a : Option Addr) (c : Nat) (Q : Array Value), k ≤ N ∧ i = .int .i64 k ∧ s = .slice a k c ∧ Hid (RuS w Q a k c so w') ∧ Hid (IsRow 38 (st k) Q)) (fun _ i _ => N - (intOf i).toNat)
  case atStart => exact ⟨0, none, 0, T, Nat.zero_le _, rfl, rfl, HS, HT⟩
  case round =>
    obtain ⟨k, a, c, Q, hk, rfl, rfl, HS', HQ⟩ := hrel
    clear HS HT
    by_cases hlt : k < N
    · have k1 : (k : Int) < m := by have := HN.out; omega
      obtain ⟨R, Q2, hR, hQ2, hC⟩ := HL.out k hlt Q HQ.out
      have HR := Lib.hid hR
      have HQ2 := Lib.hid hQ2
      have HC := Lib.hid hC
      have hk3 : k + 1 ≤ 1000000 := by have := HN3.out; omega
      clear hR hQ2 hC
      go_wp2_with (refine wpList_load_all (by rfl) 34 _ rfl w.heap.size rfl HQ.out HS'.out.2.2.1 Tryz.underlying34 rfl HIP.out ?_)
      refine (HC.out wr).mono ?_
      rintro e W1 ⟨rfl, hb⟩
      have HS1 := Lib.hid (HS'.out.next hb)
      have HD := Lib.hid (fun g hg => (HS1.out.2.2.2.2.block g hg).2)
      have HGE := Lib.hid HS1.out.2.1
      have HU := Lib.hid (Duo.start (Below.refl W1.heap.size W1) Zb Zp 32 34)
      have HX := Lib.hid (HS1.out.next HU.out.1)
      clear hb HC HS' HS1
      go_wp2_with (first
        | (refine wpList_store_row rfl 32 _ _ rfl W1.heap.size R rfl rfl _ _ HU.out.2.2.1 (HIB.out _ HR.out.1) (by rw [HZB.out, HR.out.1]) HR.out.2.1 ?_
           replace HX := Lib.hid (RuS.other (R := R) HX.out HGE.out fun g hg => Nat.ne_of_lt (HD.out g hg))
           replace HU := Lib.hid (HU.out.set1 R)
           revert HX HU
           generalize World.setRow _ _ _ = W4
           intro HX HU)
        | (refine wpList_store_row rfl 34 _ _ rfl (W1.heap.size + 1) Q2 rfl rfl _ _ HU.out.2.2.2 (HIP.out _ HQ2.out.1) (by rw [HZP.out, HQ2.out.1]) HQ2.out.2.1 ?_
           replace HX := Lib.hid (RuS.other (R := Q2) HX.out (Nat.le_succ_of_le HGE.out) fun g hg => Nat.ne_of_lt (Nat.lt_succ_of_lt (HD.out g hg)))
           replace HU := Lib.hid (HU.out.set2 Q2)
           revert HX HU
           generalize World.setRow _ _ _ = W5
           intro HX HU)
        | refine wpList_load_all (by rfl) 32 _ rfl W1.heap.size rfl HR.out HU.out.2.2.1 Tryz.underlying32 rfl HIB.out ?_
        | (refine wpList_slice_one rfl _ rfl rfl HR.out ?_
           replace HX := Lib.hid (HX.out.next ((Below.refl _ _).alloc (Nat.le_refl _) (.cells R 32)))
           replace HU := Lib.hid (HU.out.next ((Below.refl _ _).alloc (Nat.le_refl _) (.cells R 32)))
           have HA := Lib.hid (At.new W5 R 32)
           revert HX HU HA
           generalize W5.alloc _ = W6
           intro HX HU HA)
        | (refine wpList_append_block rfl _ _ rfl (w.heap.size + 1 + 1) so a k c rfl HX.out.2.2.2.2 W5.heap.size rfl HA.out HR.out hk3 HX.out.2.1 ?_
           intro a' c' w7 hB hbel hg
           have HX7 := Lib.hid (HX.out.grown hg hB)
           have HQ7 := Lib.hid (HU.out.2.2.2.grown hg fun e => absurd (HD.out _ e) (by omega))
           clear hB hbel hg HX HA)
        | refine wpList_load_all (by rfl) 34 _ rfl (W1.heap.size + 1) rfl HQ2.out HQ7.out Tryz.underlying34 rfl HIP.out ?_
        | (refine wpList_store_row rfl 34 _ _ rfl w.heap.size Q2 rfl rfl _ _ HX7.out.2.2.1 (HIP.out _ HQ2.out.1) (by rw [HQ.out.1, HQ2.out.1]) HQ2.out.2.1 ?_
           have HX8 := Lib.hid (HX7.out.setQ (R := Q2))
           revert HX8
           generalize World.setRow _ _ _ = W8
           intro HX8))
      go_roundw
      case rel => exact ⟨k + 1, _, _, Q2, by omega, by go_num, rfl, HX8, HQ2⟩
      case measure => simp [intOf]; omega
    · have k1 : ¬ (k : Int) < m := by have := HN.out; omega
      obtain rfl : k = N := by omega
      clear hlt
      go_wp2_with fail
      refine mv_startS (RuS w Q a k c so) (HS'.out.next ((Below.refl _ _).drew)) fun hS => ?_
      refine mv_yield (i := 0) (d := 24) (.slice a k c) rfl rfl (by kernel_rfl) (by kernel_rfl) (by kernel_rfl) hS (y_run (by rfl) fun _ => by rfl) ?_
      simp only [Act.put, List.setIfInBounds_toArray, List.set_cons_zero, List.set_cons_succ]
      refine mv_yield (i := 1) (d := 25) (.agg Q) rfl rfl (by kernel_rfl) (by kernel_rfl) (by kernel_rfl) hS (y_load_part (l := 0) (by rfl) rfl rfl HQ.out (fun w' h => h.2.2.1) HQ.out (by omega) (fun i _ => by rw [Nat.zero_add]) Tryz.underlying34 rfl (HIP.out _ HQ.out.1)) ?_
      simp only [Act.put, List.setIfInBounds_toArray, List.set_cons_zero, List.set_cons_succ]
      refine mv_yield (i := 2) (d := 4) (.slice a k c) rfl rfl (by kernel_rfl) (by kernel_rfl) (by kernel_rfl) hS (y_run (by rfl) fun _ => by rfl) ?_
      simp only [Act.put, List.setIfInBounds_toArray, List.set_cons_zero, List.set_cons_succ]
      obtain ⟨Z, hZ, hz⟩ := hS.2.2.2.1
      refine mv_ready [3] (by kernel_rfl) (by simp) (ar_store (i := 3) (w.heap.size + 1) Q Z rfl rfl (by rfl) rfl rfl rfl hz (by rw [hZ, HQ.out.1]) HQ.out.2.1 (HIP.out _ HQ.out.1) (hS.setZ HQ.out.1) (fun hS' => ?_) AllReadyH.nil)
      have PX := Lib.hid (hz.setRow (C := Q))
      have PS := Lib.hid hS'
      refine mv_done (by kernel_rfl) ?_
      clear hS hS' hz HS'
      go_wp2_with fail
      exact bodyPost_ret (v := .tuple #[.slice a k c, .agg Q]) (results_slice_row rfl _ _ (w.heap.size + 1) Q _ rfl rfl PX.out Tryz.underlying34 rfl (HIP.out _ HQ.out.1)) rfl ⟨a, c, Q, rfl, HQ.out, PS.out.2.2.2.2.wide (by omega), PS.out.1⟩
theorem enter_run (args : Array Value) (w : World) : (callFunc 25 args).run Tryz.prog w = .ok (.enter 25 args) w := run_enter Tryz.func25 (by kernel_rfl) rfl args w
end Go.Proofs.YtfohinlldchdpaaGreatDoor.Lo
end

section
/- Runs of right states, of one frame, of none. -/
set_option maxRecDepth 100000
set_option linter.unusedVariables false
namespace Go.Proofs.YtfohinlldchdpaaGreatDoor.Lo
open Go.RowKit Go.Proofs.YtfohinlldchdpaaGreatDoor.Row Go.Proofs.YtfohinlldchdpaaGreatDoor.Md Go.Proofs.YtfohinlldchdpaaGreatDoor.Tl Go.Proofs.YtfohinlldchdpaaGreatDoor.Sta

/-- The sounds of lost frames behind f. -/
def soN (f : Nat → Int) (k : Nat) : Nat → Int := slF (stN f k)

/-- So many frames behind a right state. -/
theorem run_yes {T : Array Value} {f : Nat → Int} {n : Int} {N : Nat} (hn : n = N) (h1 : N ≤ 1000) (hT : IsRow 38 f T) (h : Rt f) (w : World) :
    Calls Tryz.prog 25 #[.agg T, .int .i64 n] w (RetRun w (stN f) (soN f) N) :=
  run_gen T (stN f) (soN f) n N N (by omega) (by omega) hT (fun k _ X hX => ⟨_, _, isRow _ _, isRow _ _, lose_yes hX (st_right h k) (isRow _ _) (isRow _ _)⟩) w
/-- None of n below 0, or 0. -/
theorem run_none {T : Array Value} {f : Nat → Int} {n : Int} (hn : n ≤ 0) (hT : IsRow 38 f T) (w : World) :
    Calls Tryz.prog 25 #[.agg T, .int .i64 n] w (RetRun w (fun _ => f) (fun _ _ => 0) 0) :=
  run_gen T (fun _ => f) (fun _ _ => 0) n n 0 (by omega) (by omega) hT (fun k hk => absurd hk (by omega)) w
/-- One frame behind whatever state. -/
theorem run_one {T R Q : Array Value} {f h g : Nat → Int} (hT : IsRow 38 f T) (hR : IsRow 16 h R) (hQ : IsRow 38 g Q)
    (hC : ∀ w, Calls Tryz.prog 26 #[.agg T] w fun e w' => e = .returned (.tuple #[.agg R, .agg Q]) ∧ Below w.heap.size w w') (w : World) :
    Calls Tryz.prog 25 #[.agg T, .int .i64 1] w (RetRun w (fun k => if k = 0 then f else g) (fun _ => h) 1) :=
  run_gen T (fun k => if k = 0 then f else g) (fun _ => h) 1 1 1 (by omega) (by omega) hT (fun k hk X hX => by
    obtain rfl : k = 0 := by omega
    obtain rfl := hX.eq hT fun _ _ => rfl
    exact ⟨R, Q, hR, hQ, hC⟩) w
/-- What Lose answers of any state. -/
theorem lose_any {T : Array Value} {f : Nat → Int} (hT : IsRow 38 f T) : ∃ R Q h g, IsRow 16 h R ∧ IsRow 38 g Q ∧ ∀ w, Calls Tryz.prog 26 #[.agg T] w fun e w' => e = .returned (.tuple #[.agg R, .agg Q]) ∧ Below w.heap.size w w' := by
  by_cases h : Rt f
  · exact ⟨_, _, slF f, nlF f, isRow _ _, isRow _ _, lose_yes hT h (isRow _ _) (isRow _ _)⟩
  · exact ⟨_, _, fun _ => 0, fun _ => 0, isRow _ _, isRow _ _, lose_no hT h (isRow _ _) (isRow _ _)⟩
end Go.Proofs.YtfohinlldchdpaaGreatDoor.Lo
end
