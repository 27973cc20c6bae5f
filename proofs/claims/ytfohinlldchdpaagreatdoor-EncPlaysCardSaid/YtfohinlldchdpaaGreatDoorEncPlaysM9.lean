/- Texts of the walk, one behind the other. -/
import Derived.Test.YtfohinlldchdpaaGreatDoorEncPlaysM6
import Derived.Test.YtfohinlldchdpaaGreatDoorEncPlaysM2
import Derived.Deep.DeepCutAuto
import Derived.Test.YtfohinlldchdpaaGreatDoorEncPlaysM1
import Derived.Test.YtfohinlldchdpaaGreatDoorEncPlaysM5
import Derived.Test.YtfohinlldchdpaaGreatDoorEncPlaysM8

section
/- Contracts: state.Next: what stands behind Back, and the moves through the regions that draw their order. -/
set_option maxRecDepth 100000
set_option linter.unusedVariables false
namespace Go.Proofs.YtfohinlldchdpaaGreatDoor.Sta
open Go.RowKit Go.Proofs.YtfohinlldchdpaaGreatDoor.Row Go.Proofs.YtfohinlldchdpaaGreatDoor.Md Go.Proofs.YtfohinlldchdpaaGreatDoor.Tl

/-- What stands behind Back: the first (F) and the last (L) 16 numbers, side by side. -/
def Ny (w : World) (T V U A B P : Array Value) (c : Nat) (F L : Array Value) (w' : World) : Prop := Nx w T V U A B P w' ∧ w.heap.size + 1 + 1 + 1 + 1 + 1 + 1 ≤ c ∧ At w' c F 32 ∧ At w' (c + 1) L 32
theorem Ny.start {w W : World} {T V U A B P : Array Value} (h : Nx w T V U A B P W) (Z : Array Value) : Ny w T V U A B P W.heap.size Z Z ((W.alloc (.cells Z 32)).alloc (.cells Z 32)) := by
  have a1 := At.new (W.alloc (.cells Z 32)) Z 32
  simp only [World.size_alloc] at a1
  exact ⟨(h.alloc _).alloc _, h.2.1, (At.new _ _ _).alloc _, a1⟩
section
variable {w w1 w2 : World} {T V U A B P F L : Array Value} {c : Nat}
theorem Ny.below {n : Nat} (h : Ny w T V U A B P c F L w1) (hb : Below n w1 w2) (hn : c + 1 + 1 ≤ n) : Ny w T V U A B P c F L w2 := by
  obtain ⟨h0, h1, h2, h3⟩ := h
  exact ⟨h0.below hb (by omega), h1, h2.below hb (by omega), h3.below hb (by omega)⟩
theorem Ny.next (h : Ny w T V U A B P c F L w1) (hb : Below w1.heap.size w1 w2) : Ny w T V U A B P c F L w2 := h.below hb (by have := h.2.2.2.lt; omega)
theorem Ny.alloc (h : Ny w T V U A B P c F L w1) (o : Obj) : Ny w T V U A B P c F L (w1.alloc o) := h.next ((Below.refl _ _).alloc (Nat.le_refl _) o)
theorem Ny.drew (h : Ny w T V U A B P c F L w1) : Ny w T V U A B P c F L w1.drew := ⟨h.1.drew, h.2⟩
theorem Nx.other {b : Nat} (h : Nx w T V U A B P w1) (hb : w.heap.size + 1 + 1 + 1 + 1 + 1 + 1 ≤ b) (R : Array Value) : Nx w T V U A B P (w1.setRow b R) := by
  obtain ⟨h0, h1, h2, h3, h4, h5, h6, h7⟩ := h
  exact ⟨below_setRow' h0 (by omega) _, by rw [size_setRow]; exact h1, h2.setRow_other (by omega), h3.setRow_other (by omega), h4.setRow_other (by omega), h5.setRow_other (by omega), h6.setRow_other (by omega), h7.setRow_other (by omega)⟩
theorem Ny.setF (h : Ny w T V U A B P c F L w1) (R : Array Value) : Ny w T V U A B P c R L (w1.setRow c R) := by
  obtain ⟨h0, h1, h2, h3⟩ := h
  exact ⟨h0.other h1 _, h1, h2.setRow, h3.setRow_other (by omega)⟩
theorem Ny.setL (h : Ny w T V U A B P c F L w1) (R : Array Value) : Ny w T V U A B P c F R (w1.setRow (c + 1) R) := by
  obtain ⟨h0, h1, h2, h3⟩ := h
  exact ⟨h0.other (by omega) _, h1, h2.setRow_other (by omega), h3.setRow⟩
theorem Ny.other {b : Nat} (h : Ny w T V U A B P c F L w1) (hb : c + 1 + 1 ≤ b) (R : Array Value) : Ny w T V U A B P c F L (w1.setRow b R) := by
  obtain ⟨h0, h1, h2, h3⟩ := h
  exact ⟨h0.other (by omega) _, h1, h2.setRow_other (by omega), h3.setRow_other (by omega)⟩
theorem Ny.setP (h : Ny w T V U A B P c F L w1) (i : Nat) (v : Value) : Ny w T V U A B (P.setIfInBounds i v) c F L (w1.setCell ⟨w.heap.size + 1 + 1 + 1 + 1 + 1, i, none⟩ v) := by
  obtain ⟨h0, h1, h2, h3⟩ := h
  exact ⟨h0.setP i v, h1, h2.setCell_other (by dsimp only; omega), h3.setCell_other (by dsimp only; omega)⟩
end

/-- The state then, k numbers of Mem laid. -/
def mmF (u g : Nat → Int) (k j : Nat) : Int := if j < k then ct (bS u (16 + j)) else g j
theorem mm_0 (u g : Nat → Int) (j : Nat) : mmF u g 0 j = g j := by unfold mmF; rw [if_neg (by omega)]
theorem mm_next (u g : Nat → Int) (k j : Nat) : (if j = k then ct (bS u (16 + k)) else mmF u g k j) = mmF u g (k + 1) j := by
  unfold mmF
  by_cases c : j = k
  · rw [if_pos c, if_pos (by omega), c]
  · rw [if_neg c]
    by_cases c2 : j < k
    · rw [if_pos c2, if_pos (by omega)]
    · rw [if_neg c2, if_neg (by omega)]
theorem mm_set {u g : Nat → Int} {k : Nat} {p : Int} {P : Array Value} (hP : IsRow 38 (mmF u g k) P) (hk : k < 38) (hp : ct (bS u (16 + k)) = p) : IsRow 38 (mmF u g (k + 1)) (P.setIfInBounds k (.int .i64 p)) :=
  (hP.set p hk).ext fun j _ => by rw [← hp]; exact mm_next u g k j

/-- What is laid down behind a state. -/
def lyF (f u : Nat → Int) : Nat → Int := laS (f 16) (ovS f (bS u))
/-- The sound. -/
def soF (f u : Nat → Int) (k : Nat) : Int := ct16 (lyF f u k)
/-- The state then. -/
def nxF (f v u : Nat → Int) (z : Int) : Nat → Int := stF (fun i => ct (bS u (16 + i))) (lyF f u 15) v u z
theorem mm_end (f v u : Nat → Int) (z : Int) (j : Nat) : (if j = 16 then lyF f u 15 else mmF u (thF v u z) 16 j) = nxF f v u z j := by
  unfold mmF nxF thF stF
  by_cases c1 : j = 16
  · subst c1; rfl
  · rw [if_neg c1]
    by_cases c2 : j < 16
    · rw [if_pos c2, if_pos c2]
    · rw [if_neg c2, if_neg c2, if_neg c1, if_neg c2, if_neg c1]
theorem mm_last {f v u : Nat → Int} {z q : Int} {P : Array Value} (hP : IsRow 38 (mmF u (thF v u z) 16) P) (hq : lyF f u 15 = q) : IsRow 38 (nxF f v u z) (P.setIfInBounds 16 (.int .i64 q)) :=
  (hP.set q (show 16 < 38 by omega)).ext fun j _ => by rw [← hq]; exact mm_end f v u z j
theorem th_le {v u : Nat → Int} {z : Int} (h : Rt (thF v u z)) : Le 1048576 u := fun i hi => by
  have := h.2.2.2.1 i hi
  unfold thF at this
  dsimp only at this
  rwa [stF_wav _ _ _ _ _ hi] at this

theorem enter_over (args : Array Value) (w : World) : (callFunc 90 args).run Tryz.prog w = .ok (.enter 90 args) w := run_enter Tryz.func90 (by kernel_rfl) rfl args w
theorem enter_lay (args : Array Value) (w : World) : (callFunc 89 args).run Tryz.prog w = .ok (.enter 89 args) w := run_enter Tryz.func89 (by kernel_rfl) rfl args w
theorem enter_sound (args : Array Value) (w : World) : (callFunc 91 args).run Tryz.prog w = .ok (.enter 91 args) w := run_enter Tryz.func91 (by kernel_rfl) rfl args w
end Go.Proofs.YtfohinlldchdpaaGreatDoor.Sta
end

section
/- Contracts: state.Next of right states. -/
set_option maxRecDepth 100000
set_option linter.unusedVariables false
namespace Go.Proofs.YtfohinlldchdpaaGreatDoor.Sta
open Go.RowKit Go.Proofs.YtfohinlldchdpaaGreatDoor.Row Go.Proofs.YtfohinlldchdpaaGreatDoor.Md Go.Proofs.YtfohinlldchdpaaGreatDoor.Tl

/-- What stands while the results are laid. -/
def Nz (w : World) (T V U P : Array Value) (b : Nat) (R : Array Value) (w' : World) : Prop := ∃ A B : Array Value, A.size = 16 ∧ B.size = 38 ∧ Nx w T V U A B P w' ∧ At w' b R 32 ∧ w.heap.size + 1 + 1 + 1 + 1 + 1 + 1 ≤ b
theorem Nz.atR {w w' : World} {T V U P R : Array Value} {b : Nat} (h : Nz w T V U P b R w') : At w' b R 32 := by
  obtain ⟨_, _, _, _, _, h, _⟩ := h; exact h
theorem Nz.atP {w w' : World} {T V U P R : Array Value} {b : Nat} (h : Nz w T V U P b R w') : At w' (w.heap.size + 1 + 1 + 1 + 1 + 1) P 34 := by
  obtain ⟨_, _, _, _, h, _, _⟩ := h; exact h.2.2.2.2.2.2.2
theorem Nz.next {w w1 w2 : World} {T V U P R : Array Value} {b : Nat} (h : Nz w T V U P b R w1) (hb : Below w1.heap.size w1 w2) : Nz w T V U P b R w2 := by
  obtain ⟨A, B, h1, h2, h3, h4, h5⟩ := h
  exact ⟨A, B, h1, h2, h3.next hb, h4.below hb h4.lt, h5⟩

set_option maxHeartbeats 2000000 in
theorem next_yes (T V U : Array Value) (f v u : Nat → Int) (z : Int) (hT : IsRow 38 f T) (hV : IsRow 4 v V) (hU : IsRow 16 u U) (hr : Rt f) (hr2 : Rt (thF v u z)) (w : World) :
    Calls Tryz.prog 37 #[.agg T, .agg V, .agg U, .int .i64 z] w (RetNx w (soF f u) (nxF f v u z)) := by
  obtain ⟨Zp, hZp, _, hzp, hip⟩ := zero_p
  obtain ⟨Zb, hZb, _, hzb, hib⟩ := zero_b
  obtain ⟨_, _, _, _, hi4⟩ := zero_4
  obtain ⟨P, hP, bP⟩ := built_3 isSt_p hV hU z
  obtain ⟨F, hF⟩ : ∃ F, rowL 16 (bS u) 16 = F := ⟨_, rfl⟩
  obtain ⟨L, hL⟩ : ∃ F, rowL 16 (fun i => bS u (16 + i)) 16 = F := ⟨_, rfl⟩
  have hF' : IsRow 16 (bS u) F := by rw [← hF]; exact isRow _ _
  have hL' : IsRow 16 (fun i => bS u (16 + i)) L := by rw [← hL]; exact isRow _ _
  have hCB := fun w => back_yes U u hU (th_le hr2) w
  rw [hF, hL] at hCB
  obtain ⟨O, hO⟩ : ∃ O, rowL 16 (ovS f (bS u)) 16 = O := ⟨_, rfl⟩
  obtain ⟨M, hM⟩ : ∃ M, T.extract 0 (0 + 16) = M := ⟨_, rfl⟩
  have hM' : IsRow 16 f M := by
    rw [← hM]
    exact (hT.sub (show 0 + 16 ≤ 38 by omega)).ext fun i _ => by rw [Nat.zero_add]
  have hCO := fun w => over_any M F f (bS u) hM' hF' w
  rw [hO] at hCO
  have hO' : IsRow 16 (ovS f (bS u)) O := by rw [← hO]; exact isRow _ _
  obtain ⟨R, hR⟩ : ∃ O, rowL 16 (lyF f u) 16 = O := ⟨_, rfl⟩
  have hR' : IsRow 16 (lyF f u) R := by rw [← hR]; exact isRow _ _
  have hCL := fun w => lay_any (f 16) O (ovS f (bS u)) w hO'
  change ∀ w, Calls _ _ _ w fun e w' => e = .returned (.tuple #[.agg (rowL 16 (lyF f u) 16), .int .i64 (lyF f u 15)]) ∧ _ at hCL
  obtain ⟨q, hq⟩ : ∃ q, lyF f u 15 = q := ⟨_, rfl⟩
  rw [hR, hq] at hCL
  obtain ⟨x16, hx16⟩ : ∃ q, f 16 = q := ⟨_, rfl⟩
  rw [hx16] at hCL
  obtain ⟨Q, hQ⟩ : ∃ O, rowL 16 (soF f u) 16 = O := ⟨_, rfl⟩
  have hQ' : IsRow 16 (soF f u) Q := by rw [← hQ]; exact isRow _ _
  have hCS := fun w => sound_any R (lyF f u) w hR'
  change ∀ w, Calls _ _ _ w fun e w' => e = .returned (.agg (rowL 16 (soF f u) 16)) ∧ _ at hCS
  rw [hQ] at hCS
  have HCB := Lib.hid hCB
  have HCO := Lib.hid hCO
  have HCL := Lib.hid hCL
  have HCS := Lib.hid hCS
  have HF := Lib.hid hF'
  have HL := Lib.hid hL'
  have HM := Lib.hid hM'
  have HO := Lib.hid hO'
  have HQ := Lib.hid hQ'
  have HR := Lib.hid hR'
  have Hq := Lib.hid hq
  have H16 := Lib.hid hx16
  have HIP := Lib.hid hip
  have HIB := Lib.hid hib
  have HI4 := Lib.hid hi4
  have HT := Lib.hid hT
  have HV := Lib.hid hV
  have HU := Lib.hid hU
  have HP := Lib.hid hP
  have HBP := Lib.hid bP
  have HZP := Lib.hid hZp
  have HZB := Lib.hid hZb
  have HZBs := Lib.hid hZb.1
  have HZPs := Lib.hid hZp.1
  have HN := Lib.hid (Nx.start w T V U Zb Zp Zp)
  have HFV := Lib.hid (Nx.five w T V U Zb Zp)
  have HR1 := Lib.hid hr
  have HR2 := Lib.hid hr2
  have hMT := Lib.hid (fun i (hi : i < 16) => show f (0 + i) = f i by rw [Nat.zero_add])
  clear hT hV hU hip hib hi4 hP bP hZp hZb hr hr2 hF hL hF' hL' hCB hO hM hM' hCO hO' hR hR' hCL hq hx16 hQ hQ' hCS
  go_enter Tryz.func37, Tryz.ntmps37
  go_wp2_with (first
    | refine wpList_load_all (by rfl) 23 _ rfl (w.heap.size + 1) rfl HV.out HFV.out.1 Tryz.underlying23 rfl HI4.out ?_
    | refine wpList_load_all (by rfl) 32 _ rfl (w.heap.size + 1 + 1) rfl HU.out HFV.out.2 Tryz.underlying32 rfl HIB.out ?_
    | refine wpList_build_parts (by rfl) 34 [(2, _), (3, _), (4, _)] rfl _ rfl HBP.out ?_
    | (refine wpList_store_row rfl 34 _ _ rfl (w.heap.size + 1 + 1 + 1 + 1 + 1) P rfl rfl _ _ HN.out.2.2.2.2.2.2.2 (HIP.out _ HP.out.1) (by rw [HZP.out.1, HP.out.1]) HP.out.2.1 ?_
       have HW := Lib.hid (HN.out.setR P)
       clear HN HFV HBP
       revert HW
       generalize World.setRow _ _ _ = W
       intro HW)
    | refine wpList_load_all (by rfl) 34 _ rfl w.heap.size rfl HT.out HW.out.2.2.1 Tryz.underlying34 rfl HIP.out ?_)
  refine (right_yes T f W HT.out HR1.out).mono ?_
  rintro e W1 ⟨rfl, hb⟩
  replace HW := Lib.hid (HW.out.next hb)
  clear hb HR1 W
  go_wp2_with (refine wpList_load_all (by rfl) 34 _ rfl (w.heap.size + 1 + 1 + 1 + 1 + 1) rfl HP.out HW.out.2.2.2.2.2.2.2 Tryz.underlying34 rfl HIP.out ?_)
  refine (right_yes P _ W1 HP.out HR2.out).mono ?_
  rintro e W ⟨rfl, hb⟩
  replace HW := Lib.hid (HW.out.next hb)
  clear hb HR2 W1
  go_wp2_with (refine wpList_load_all (by rfl) 32 _ rfl (w.heap.size + 1 + 1) rfl HU.out HW.out.2.2.2.2.1 Tryz.underlying32 rfl HIB.out ?_)
  refine (HCB.out W).mono ?_
  rintro e W1 ⟨rfl, hb⟩
  replace HW := Lib.hid (HW.out.next hb)
  have HY := Lib.hid (Ny.start HW.out Zb)
  clear hb HCB W
  go_wp2_with (first
    | (refine wpList_store_row rfl 32 _ _ rfl W1.heap.size F rfl rfl _ _ HY.out.2.2.1 (HIB.out _ HF.out.1) (by rw [HZB.out.1, HF.out.1]) HF.out.2.1 ?_
       replace HY := Lib.hid (HY.out.setF F)
       revert HY
       generalize World.setRow _ _ _ = W
       intro HY)
    | (refine wpList_store_row rfl 32 _ _ rfl (W1.heap.size + 1) L rfl rfl _ _ HY.out.2.2.2 (HIB.out _ HL.out.1) (by rw [HZB.out.1, HL.out.1]) HL.out.2.1 ?_
       replace HY := Lib.hid (HY.out.setL L)
       revert HY
       generalize World.setRow _ _ _ = W'
       intro HY)
    | refine wpList_load_all (by rfl) 32 _ rfl (W1.heap.size + 1) rfl HL.out HY.out.2.2.2 Tryz.underlying32 rfl HIB.out ?_)
  clear HW HZB
  revert HY
  generalize W1.heap.size = c
  intro HY
  clear W1 W
  have HPP := Lib.hid (show IsRow 38 (mmF u (thF v u z) 0) P from HP.out.ext fun j _ => (mm_0 u (thF v u z) j).symm)
  clear HP
  go_loopw [37] (fun i w' => ∃ (k : Nat) (P : Array Value), k ≤ 16 ∧ i = .int .i64 k ∧ Hid (Ny w T V U Zb Zp P c F L w') ∧ Hid (IsRow 38 (mmF u (thF v u z) k) P)) (fun i _ => 16 - (intOf i).toNat)
  case atStart => exact ⟨0, P, by omega, rfl, HY, HPP⟩
  case round =>
    obtain ⟨k, P', hk, rfl, HY', HP'⟩ := hrel
    clear HY HPP
    by_cases hlt : k < 16
    · have k1 : (k : Int) < 16 := by omega
      obtain ⟨x, hx⟩ : ∃ x, bS u (16 + k) = x := ⟨_, rfl⟩
      have hcell : L[k]? = some (.int .i64 (bS u (16 + k))) := HL.out.2.2 k hlt
      rw [hx] at hcell
      have hidx : ∀ w' : World, (Instr.index 32 (.agg L) (.int .i64 (k : Int))).run Tryz.prog w' = .ok (.int .i64 x) w' := fun w' => run_index Tryz.underlying32 hlt hcell w'
      obtain ⟨p, hp⟩ : ∃ p, ct x = p := ⟨_, rfl⟩
      have c2 := HP'.out.cell HY'.out.1.2.2.2.2.2.2.2 k (by omega)
      have f2 := HY'.out.1.2.2.2.2.2.2.2.frozen k
      have HY2 := Lib.hid (HY'.out.setP k (.int .i64 p))
      have HP2 := Lib.hid (mm_set HP'.out (show k < 38 by omega) (show ct (bS u (16 + k)) = p by rw [hx]; exact hp))
      have HPp := Lib.hid hp
      clear hx hp hcell
      go_wp2_with fail
      refine (cut_as x p _ HPp.out).mono ?_
      rintro e w1 ⟨rfl, rfl⟩
      go_wp2_with fail
      go_roundw
      case rel => exact ⟨k + 1, _, by omega, by go_num, HY2, HP2⟩
      case measure => simp [intOf]; omega
    · have e16 : k = 16 := by omega
      have hn16 : ¬ (k : Int) < 16 := by omega
      rw [e16] at HP'
      clear e16 hk hlt HL
      go_upto_region 10 with fail
      clear hn16
      go_cut [15, 16] (fun x y wx => ∃ b : Nat, x = .pointer (some ⟨b, 0, none⟩) ∧ y = .int .i64 q ∧ Hid (Ny w T V U Zb Zp P' c F L wx) ∧ c + 1 + 1 ≤ b ∧ Hid (At wx b R 32))
      case first =>
        have hge : c + 1 + 1 ≤ wr.heap.size := HY'.out.2.2.2.lt
        refine mv_startS (Ny w T V U Zb Zp P' c F L) HY'.out.drew fun hS => ?_
        refine mv_yield (i := 0) (d := 48) (.pointer (some ⟨w.heap.size, 16, none⟩)) rfl rfl (by kernel_rfl) (by kernel_rfl) (by kernel_rfl) hS (y_field (by rfl) rfl rfl fld_p1) ?_
        simp only [Act.put, List.setIfInBounds_toArray, List.set_cons_zero, List.set_cons_succ]
        refine mv_yield (i := 1) (d := 49) (.int .i64 x16) rfl rfl (by kernel_rfl) (by kernel_rfl) (by kernel_rfl) hS (y_cellS (by rfl) rfl rfl (fun w' h => by have := HT.out.cell h.1.2.2.1 16 (by omega); rw [H16.out] at this; exact this)) ?_
        simp only [Act.put, List.setIfInBounds_toArray, List.set_cons_zero, List.set_cons_succ]
        refine mv_yield (i := 2) (d := 50) (.pointer (some ⟨w.heap.size, 0, none⟩)) rfl rfl (by kernel_rfl) (by kernel_rfl) (by kernel_rfl) hS (y_field (by rfl) rfl rfl fld_p0) ?_
        simp only [Act.put, List.setIfInBounds_toArray, List.set_cons_zero, List.set_cons_succ]
        refine mv_yield (i := 3) (d := 51) (.agg M) rfl rfl (by kernel_rfl) (by kernel_rfl) (by kernel_rfl) hS (y_load_part (l := 0) (by rfl) rfl rfl HT.out (fun w' h => h.1.2.2.1) HM.out (by omega) hMT.out Tryz.underlying32 rfl (HIB.out _ HM.out.1)) ?_
        simp only [Act.put, List.setIfInBounds_toArray, List.set_cons_zero, List.set_cons_succ]
        refine mv_yield (i := 4) (d := 52) (.agg F) rfl rfl (by kernel_rfl) (by kernel_rfl) (by kernel_rfl) hS (y_load_part (l := 0) (by rfl) rfl rfl HF.out (fun w' h => h.2.2.1) HF.out (by omega) (fun i _ => by rw [Nat.zero_add]) Tryz.underlying32 rfl (HIB.out _ HF.out.1)) ?_
        simp only [Act.put, List.setIfInBounds_toArray, List.set_cons_zero, List.set_cons_succ]
        refine mv_ready [5, 10] (by kernel_rfl) (by simp) (ar_callP (i := 5) (d := 53) #[.agg M, .agg F] rfl rfl (by rfl) rfl enter_over (by kernel_rfl) (HCO.out _) (fun w' h => hS.next h) ?_ (ar_alloc (i := 10) (d := 15) rfl rfl (by rfl) rfl hzb (hS.alloc _) ?_ AllReadyH.nil))
        · rintro w1 h1 hS1
          have hge1 : c + 1 + 1 ≤ w1.heap.size := hS1.2.2.2.lt
          clear hS
          simp only [Act.put, List.setIfInBounds_toArray, List.set_cons_zero, List.set_cons_succ]
          refine mv_ready [6, 10] (by kernel_rfl) (by simp) (ar_callP (i := 6) (d := 54) #[.int .i64 x16, .agg O] rfl rfl (by rfl) rfl enter_lay (by kernel_rfl) (HCL.out _) (fun w' h => hS1.next h) ?_ (ar_alloc (i := 10) (d := 15) rfl rfl (by rfl) rfl hzb (hS1.alloc _) ?_ AllReadyH.nil))
          · rintro w2 h2 hS2
            have hge2 : c + 1 + 1 ≤ w2.heap.size := hS2.2.2.2.lt
            clear hS1
            simp only [Act.put, List.setIfInBounds_toArray, List.set_cons_zero, List.set_cons_succ]
            have hS := hS2
            refine mv_yield (i := 7) (d := 47) (.tuple #[.agg R, .int .i64 q]) rfl rfl (by kernel_rfl) (by kernel_rfl) (by kernel_rfl) hS (y_run (by rfl) fun _ => by rfl) ?_
            simp only [Act.put, List.setIfInBounds_toArray, List.set_cons_zero, List.set_cons_succ]
            refine mv_yield (i := 8) (d := 55) (.agg R) rfl rfl (by kernel_rfl) (by kernel_rfl) (by kernel_rfl) hS (y_run (by rfl) fun _ => by rfl) ?_
            simp only [Act.put, List.setIfInBounds_toArray, List.set_cons_zero, List.set_cons_succ]
            refine mv_yield (i := 9) (d := 56) (.int .i64 q) rfl rfl (by kernel_rfl) (by kernel_rfl) (by kernel_rfl) hS (y_run (by rfl) fun _ => by rfl) ?_
            simp only [Act.put, List.setIfInBounds_toArray, List.set_cons_zero, List.set_cons_succ]
            refine mv_ready [10] (by kernel_rfl) (by simp) (ar_alloc (i := 10) (d := 15) rfl rfl (by rfl) rfl hzb (hS.alloc _) (fun hS3 => ?_) AllReadyH.nil)
            simp only [Act.put, List.setIfInBounds_toArray, List.set_cons_zero, List.set_cons_succ]
            replace hS := hS3
            have a1 := At.new w2 Zb 32
            refine mv_ready [11] (by kernel_rfl) (by simp) (ar_store (i := 11) _ R Zb rfl rfl (by rfl) rfl rfl rfl a1 (by rw [HZBs.out, HR.out.1]) HR.out.2.1 (HIB.out _ HR.out.1) (hS.other hge2 _) (fun hS' => ?_) AllReadyH.nil)
            clear hS
            have hS := hS'
            refine mv_yield (i := 12) (d := 16) (.int .i64 q) rfl rfl (by kernel_rfl) (by kernel_rfl) (by kernel_rfl) hS (y_run (by rfl) fun _ => by rfl) ?_
            simp only [Act.put, List.setIfInBounds_toArray, List.set_cons_zero, List.set_cons_succ]
            refine mv_done (by kernel_rfl) ?_
            go_wp2_with fail
            go_meet
            exact ⟨_, rfl, rfl, Lib.hid hS', hge2, Lib.hid (a1).setRow⟩
          · intro hS2
            simp only [Act.put, List.setIfInBounds_toArray, List.set_cons_zero, List.set_cons_succ]
            have a1 := At.new w1 Zb 32
            have l1 : w1.heap.size < (w1.alloc (.cells Zb 32)).heap.size := a1.lt
            refine mv_ready [6] (by kernel_rfl) (by simp) (ar_callP (i := 6) (d := 54) #[.int .i64 x16, .agg O] rfl rfl (by rfl) rfl enter_lay (by kernel_rfl) (HCL.out _) (fun w' h => hS2.next h) ?_ AllReadyH.nil)
            rintro w3 h3 hS
            simp only [Act.put, List.setIfInBounds_toArray, List.set_cons_zero, List.set_cons_succ]
            have a2 := a1.below h3 l1
            refine mv_yield (i := 7) (d := 47) (.tuple #[.agg R, .int .i64 q]) rfl rfl (by kernel_rfl) (by kernel_rfl) (by kernel_rfl) hS (y_run (by rfl) fun _ => by rfl) ?_
            simp only [Act.put, List.setIfInBounds_toArray, List.set_cons_zero, List.set_cons_succ]
            refine mv_yield (i := 8) (d := 55) (.agg R) rfl rfl (by kernel_rfl) (by kernel_rfl) (by kernel_rfl) hS (y_run (by rfl) fun _ => by rfl) ?_
            simp only [Act.put, List.setIfInBounds_toArray, List.set_cons_zero, List.set_cons_succ]
            refine mv_yield (i := 9) (d := 56) (.int .i64 q) rfl rfl (by kernel_rfl) (by kernel_rfl) (by kernel_rfl) hS (y_run (by rfl) fun _ => by rfl) ?_
            simp only [Act.put, List.setIfInBounds_toArray, List.set_cons_zero, List.set_cons_succ]
            refine mv_ready [11] (by kernel_rfl) (by simp) (ar_store (i := 11) _ R Zb rfl rfl (by rfl) rfl rfl rfl a2 (by rw [HZBs.out, HR.out.1]) HR.out.2.1 (HIB.out _ HR.out.1) (hS.other hge1 _) (fun hS' => ?_) AllReadyH.nil)
            clear hS
            have hS := hS'
            refine mv_yield (i := 12) (d := 16) (.int .i64 q) rfl rfl (by kernel_rfl) (by kernel_rfl) (by kernel_rfl) hS (y_run (by rfl) fun _ => by rfl) ?_
            simp only [Act.put, List.setIfInBounds_toArray, List.set_cons_zero, List.set_cons_succ]
            refine mv_done (by kernel_rfl) ?_
            go_wp2_with fail
            go_meet
            exact ⟨_, rfl, rfl, Lib.hid hS', hge1, Lib.hid (a2).setRow⟩
        · intro hS1
          simp only [Act.put, List.setIfInBounds_toArray, List.set_cons_zero, List.set_cons_succ]
          have a1 := At.new wr.drew Zb 32
          have l1 : wr.drew.heap.size < (wr.drew.alloc (.cells Zb 32)).heap.size := a1.lt
          refine mv_ready [5] (by kernel_rfl) (by simp) (ar_callP (i := 5) (d := 53) #[.agg M, .agg F] rfl rfl (by rfl) rfl enter_over (by kernel_rfl) (HCO.out _) (fun w' h => hS1.next h) ?_ AllReadyH.nil)
          rintro w2 h2 hS2
          simp only [Act.put, List.setIfInBounds_toArray, List.set_cons_zero, List.set_cons_succ]
          have a2 := a1.below h2 l1
          refine mv_ready [6] (by kernel_rfl) (by simp) (ar_callP (i := 6) (d := 54) #[.int .i64 x16, .agg O] rfl rfl (by rfl) rfl enter_lay (by kernel_rfl) (HCL.out _) (fun w' h => hS2.next h) ?_ AllReadyH.nil)
          rintro w3 h3 hS3
          simp only [Act.put, List.setIfInBounds_toArray, List.set_cons_zero, List.set_cons_succ]
          have a3 := Sta.At.two a2 h3
          clear hS
          have hS := hS3
          refine mv_yield (i := 7) (d := 47) (.tuple #[.agg R, .int .i64 q]) rfl rfl (by kernel_rfl) (by kernel_rfl) (by kernel_rfl) hS (y_run (by rfl) fun _ => by rfl) ?_
          simp only [Act.put, List.setIfInBounds_toArray, List.set_cons_zero, List.set_cons_succ]
          refine mv_yield (i := 8) (d := 55) (.agg R) rfl rfl (by kernel_rfl) (by kernel_rfl) (by kernel_rfl) hS (y_run (by rfl) fun _ => by rfl) ?_
          simp only [Act.put, List.setIfInBounds_toArray, List.set_cons_zero, List.set_cons_succ]
          refine mv_yield (i := 9) (d := 56) (.int .i64 q) rfl rfl (by kernel_rfl) (by kernel_rfl) (by kernel_rfl) hS (y_run (by rfl) fun _ => by rfl) ?_
          simp only [Act.put, List.setIfInBounds_toArray, List.set_cons_zero, List.set_cons_succ]
          refine mv_ready [11] (by kernel_rfl) (by simp) (ar_store (i := 11) _ R Zb rfl rfl (by rfl) rfl rfl rfl a3 (by rw [HZBs.out, HR.out.1]) HR.out.2.1 (HIB.out _ HR.out.1) (hS.other hge _) (fun hS' => ?_) AllReadyH.nil)
          clear hS
          have hS := hS'
          refine mv_yield (i := 12) (d := 16) (.int .i64 q) rfl rfl (by kernel_rfl) (by kernel_rfl) (by kernel_rfl) hS (y_run (by rfl) fun _ => by rfl) ?_
          simp only [Act.put, List.setIfInBounds_toArray, List.set_cons_zero, List.set_cons_succ]
          refine mv_done (by kernel_rfl) ?_
          go_wp2_with fail
          go_meet
          exact ⟨_, rfl, rfl, Lib.hid hS', hge, Lib.hid (a3).setRow⟩
      case rest =>
        obtain ⟨b, rfl, rfl, HY, hb, HRb⟩ := hcut
        clear HY' HCO HCL
        have c2 := HP'.out.cell HY.out.1.2.2.2.2.2.2.2 16 (by omega)
        have f2 := HY.out.1.2.2.2.2.2.2.2.frozen 16
        have hcc := HY.out.2.1
        have HY2 := Lib.hid (HY.out.setP 16 (.int .i64 q)).1
        have HP2 := Lib.hid (mm_last HP'.out Hq.out)
        have HRb2 := Lib.hid (At.setCell_other (a := ⟨w.heap.size + 1 + 1 + 1 + 1 + 1, 16, none⟩) (v := .int .i64 q) HRb.out (by dsimp only; omega))
        obtain ⟨P2, hP2⟩ : ∃ P2, P'.setIfInBounds 16 (.int .i64 q) = P2 := ⟨_, rfl⟩
        rw [hP2] at HY2 HP2
        clear hP2 HY HRb
        go_wp2_with fail
        revert HRb2 HY2
        generalize World.setCell _ _ _ = W5
        intro HRb2 HY2
        clear c2 f2 wc
        refine mv_startS (Nz w T V U P2 b R) (show Nz w T V U P2 b R W5.drew from ⟨Zb, Zp, HZBs.out, HZPs.out, HY2.out.drew, HRb2.out, by omega⟩) fun hS => ?_
        refine mv_yield (i := 0) (d := 59) (.agg R) rfl rfl (by kernel_rfl) (by kernel_rfl) (by kernel_rfl) hS (y_load_part (l := 0) (by rfl) rfl rfl HR.out (fun w' h => h.atR) HR.out (by omega) (fun i _ => by rw [Nat.zero_add]) Tryz.underlying32 rfl (HIB.out _ HR.out.1)) ?_
        simp only [Act.put, List.setIfInBounds_toArray, List.set_cons_zero, List.set_cons_succ]
        refine mv_yield (i := 2) (d := 61) (.agg P2) rfl rfl (by kernel_rfl) (by kernel_rfl) (by kernel_rfl) hS (y_load_part (l := 0) (by rfl) rfl rfl HP2.out (fun w' h => h.atP) HP2.out (by omega) (fun i _ => by rw [Nat.zero_add]) Tryz.underlying34 rfl (HIP.out _ HP2.out.1)) ?_
        simp only [Act.put, List.setIfInBounds_toArray, List.set_cons_zero, List.set_cons_succ]
        have hbb : w.heap.size + 1 + 1 + 1 + 1 + 1 + 1 ≤ b := by omega
        refine mv_ready [1] (by kernel_rfl) (by simp) (ar_callP (i := 1) (d := 60) #[.agg R] rfl rfl (by rfl) rfl enter_sound (by kernel_rfl) (HCS.out _) (fun w' h => hS.next h) ?_ AllReadyH.nil)
        · rintro w1 h1 hS1
          simp only [Act.put, List.setIfInBounds_toArray, List.set_cons_zero, List.set_cons_succ]
          obtain ⟨A1, B1, s1, t1, n1, r1, _⟩ := hS1
          refine mv_ready [3] (by kernel_rfl) (by simp) (ar_store (i := 3) (w.heap.size + 1 + 1 + 1) Q A1 rfl rfl (by rfl) rfl rfl rfl n1.2.2.2.2.2.1 (by rw [s1, HQ.out.1]) HQ.out.2.1 (HIB.out _ HQ.out.1) (show Nz w T V U P2 b R _ from ⟨Q, _, HQ.out.1, t1, n1.setA Q, r1.setRow_other (by omega), hbb⟩) (fun _ => ?_) AllReadyH.nil)
          have n2 := n1.setA Q
          have r2 := r1.setRow_other (C := Q) (show b ≠ w.heap.size + 1 + 1 + 1 by omega)
          refine mv_ready [4] (by kernel_rfl) (by simp) (ar_store (i := 4) (w.heap.size + 1 + 1 + 1 + 1) P2 B1 rfl rfl (by rfl) rfl rfl rfl n2.2.2.2.2.2.2.1 (by rw [t1, HP2.out.1]) HP2.out.2.1 (HIP.out _ HP2.out.1) (show Nz w T V U P2 b R _ from ⟨_, P2, HQ.out.1, HP2.out.1, n2.setB P2, r2.setRow_other (by omega), hbb⟩) (fun _ => ?_) AllReadyH.nil)
          have HFN := Lib.hid (n2.setB P2)
          refine mv_done (by kernel_rfl) ?_
          go_wp2_with fail
          exact bodyPost_ret (v := .tuple #[.agg Q, .agg P2]) (results_any_two rfl _ _ (w.heap.size + 1 + 1 + 1) (w.heap.size + 1 + 1 + 1 + 1) Q P2 _ _ rfl rfl HFN.out.2.2.2.2.2.1 HFN.out.2.2.2.2.2.2.1 Tryz.underlying32 rfl (HIB.out _ HQ.out.1) Tryz.underlying34 rfl (HIP.out _ HP2.out.1)) rfl ⟨⟨Q, P2, rfl, HQ.out, HP2.out⟩, HFN.out.1⟩
end Go.Proofs.YtfohinlldchdpaaGreatDoor.Sta
end

section
/- What Next makes. -/
set_option maxRecDepth 100000
set_option linter.unusedVariables false
namespace Go.Proofs.YtfohinlldchdpaaGreatDoor.Sta
open Go.RowKit Go.Proofs.YtfohinlldchdpaaGreatDoor.Row Go.Proofs.YtfohinlldchdpaaGreatDoor.Md Go.Proofs.YtfohinlldchdpaaGreatDoor.Tl

theorem next_as {T V U R Q : Array Value} {z : Int} {h g : Nat → Int} (H : ∀ w, Calls Tryz.prog 37 #[.agg T, .agg V, .agg U, .int .i64 z] w (RetNx w h g)) (hR : IsRow 16 h R) (hQ : IsRow 38 g Q) (w : World) :
    Calls Tryz.prog 37 #[.agg T, .agg V, .agg U, .int .i64 z] w fun e w' => e = .returned (.tuple #[.agg R, .agg Q]) ∧ Below w.heap.size w w' := by
  refine (H w).mono ?_
  rintro e w' ⟨⟨R', Q', rfl, h1, h2⟩, hb⟩
  obtain rfl := h1.eq hR fun _ _ => rfl
  obtain rfl := h2.eq hQ fun _ _ => rfl
  exact ⟨rfl, hb⟩

theorem ct_zero : ct 0 = 0 := by unfold ct; omega
theorem bs_zero (i : Nat) (hi : i < 32) : bS (fun _ => 0) i = 0 := by
  have h : ∀ i : Fin 32, bS (fun _ => 0) i.val = 0 := by decide +kernel
  exact h ⟨i, hi⟩
/-! Of no waves behind no Mem. -/
theorem ly_die {f : Nat → Int} (hf : ∀ i, i < 16 → f i = 0) (hl : -2097152 ≤ f 16 ∧ f 16 ≤ 2097151) (k : Nat) (hk : k < 16) : lyF f (fun _ => 0) k = dieS (f 16) (k + 1) := by
  unfold lyF laS
  rw [← out_zero hl]
  refine out_ext (n := 16) (fun i hi => ?_) (k + 1) (by omega)
  unfold ovS
  rw [hf i hi, bs_zero i (by omega)]
  simp [ct_zero]
theorem die_zero : ∀ k, dieS 0 k = 0
  | 0 => rfl
  | k + 1 => by
    have := die_zero k
    unfold dieS
    rw [this]
    first | exact prt_zero | rfl
theorem ly_zero (k : Nat) (hk : k < 16) : lyF (fun _ => 0) (fun _ => 0) k = 0 := by
  rw [ly_die (fun _ _ => rfl) (by omega) k hk]
  exact die_zero _
theorem nx_zero (k : Nat) (hk : k < 38) : nxF (fun _ => 0) (fun _ => 0) (fun _ => 0) 0 k = 0 := by
  unfold nxF stF
  split
  · dsimp only
    rw [bs_zero _ (by omega), ct_zero]
  · split
    · exact ly_zero 15 (by omega)
    · split
      · rfl
      · split <;> rfl
/-- Three rows that came in, side by side, and all that stood. -/
def Tri (w : World) (T V U : Array Value) (t v u : TypeId) (w' : World) : Prop := Below w.heap.size w w' ∧ At w' w.heap.size T t ∧ At w' (w.heap.size + 1) V v ∧ At w' (w.heap.size + 1 + 1) U u
theorem Tri.start (w : World) (T V U : Array Value) (t v u : TypeId) : Tri w T V U t v u (((w.alloc (.cells T t)).alloc (.cells V v)).alloc (.cells U u)) := by
  have a1 := At.new (w.alloc (.cells T t)) V v
  have a2 := At.new ((w.alloc (.cells T t)).alloc (.cells V v)) U u
  simp only [World.size_alloc] at a1 a2
  exact ⟨(((Below.refl _ _).alloc (Nat.le_refl _) _).alloc (by simp) _).alloc (by simp; omega) _, ((At.new _ _ _).alloc _).alloc _, a1.alloc _, a2⟩
theorem Tri.next {w w1 w2 : World} {T V U : Array Value} {t v u : TypeId} (h : Tri w T V U t v u w1) (hb : Below w1.heap.size w1 w2) : Tri w T V U t v u w2 :=
  ⟨below_trans h.1 hb h.1.size, h.2.1.below hb h.2.1.lt, h.2.2.1.below hb h.2.2.1.lt, h.2.2.2.below hb h.2.2.2.lt⟩
theorem Tri.alloc {w w1 : World} {T V U : Array Value} {t v u : TypeId} (h : Tri w T V U t v u w1) (o : Obj) : Tri w T V U t v u (w1.alloc o) := h.next ((Below.refl _ _).alloc (Nat.le_refl _) o)

/-- Two rows, side by side, behind all that stood. -/
def Duo (w : World) (b : Nat) (A B : Array Value) (t u : TypeId) (w' : World) : Prop := Below w.heap.size w w' ∧ w.heap.size ≤ b ∧ At w' b A t ∧ At w' (b + 1) B u
theorem Duo.start {w w1 : World} (h : Below w.heap.size w w1) (A B : Array Value) (t u : TypeId) : Duo w w1.heap.size A B t u ((w1.alloc (.cells A t)).alloc (.cells B u)) := by
  have a1 := At.new (w1.alloc (.cells A t)) B u
  simp only [World.size_alloc] at a1
  have := h.size
  exact ⟨(h.alloc (by omega) _).alloc (by simp; omega) _, by omega, (At.new _ _ _).alloc _, a1⟩
theorem Duo.next {w w1 w2 : World} {b : Nat} {A B : Array Value} {t u : TypeId} (h : Duo w b A B t u w1) (hb : Below w1.heap.size w1 w2) : Duo w b A B t u w2 :=
  ⟨below_trans h.1 hb h.1.size, h.2.1, h.2.2.1.below hb h.2.2.1.lt, h.2.2.2.below hb h.2.2.2.lt⟩
theorem Duo.set1 {w w1 : World} {b : Nat} {A B : Array Value} {t u : TypeId} (h : Duo w b A B t u w1) (C : Array Value) : Duo w b C B t u (w1.setRow b C) :=
  ⟨below_setRow' h.1 h.2.1 _, h.2.1, h.2.2.1.setRow, h.2.2.2.setRow_other (by omega)⟩
theorem Duo.set2 {w w1 : World} {b : Nat} {A B : Array Value} {t u : TypeId} (h : Duo w b A B t u w1) (C : Array Value) : Duo w b A C t u (w1.setRow (b + 1) C) :=
  ⟨below_setRow' h.1 (by have := h.2.1; omega) _, h.2.1, h.2.2.1.setRow_other (by omega), h.2.2.2.setRow⟩
end Go.Proofs.YtfohinlldchdpaaGreatDoor.Sta
end

section
/- Encoders as rows of 55 numbers: Prev, Last, the state; zero ones, written out, compared, their fields, as arguments. -/
set_option maxRecDepth 100000
set_option linter.unusedVariables false
namespace Go.Proofs.YtfohinlldchdpaaGreatDoor.En
open Go.RowKit Go.Proofs.YtfohinlldchdpaaGreatDoor.Row Go.Proofs.YtfohinlldchdpaaGreatDoor.Md Go.Proofs.YtfohinlldchdpaaGreatDoor.Tl Go.Proofs.YtfohinlldchdpaaGreatDoor.Sta

/-- An encoder's numbers. -/
def enF (p : Nat → Int) (z : Int) (f : Nat → Int) (k : Nat) : Int := if k < 16 then p k else if k = 16 then z else f (k - 17)
theorem enF_self (f : Nat → Int) {k : Nat} (h : k < 55) : enF f (f 16) (fun i => f (17 + i)) k = f k := by
  unfold enF
  split
  · rfl
  · split
    · rename_i h; rw [h]
    · dsimp only; congr 1; omega
theorem zero_ep : ∃ Z, IsRow 55 (fun _ => 0) Z ∧ (∀ f, rowL 55 f 0 = Z) ∧ (∀ w, (zeroValue 36).run Tryz.prog w = .ok (.agg Z) w) ∧ ∀ A : Array Value, A.size = 55 → (Tryz.prog.info? 36).map (·.size) = some A.size := zero_row (by kernel_rfl)
theorem zero_er : ∃ Z, IsRow 55 (fun _ => 0) Z ∧ (∀ f, rowL 55 f 0 = Z) ∧ (∀ w, (zeroValue 27).run Tryz.prog w = .ok (.agg Z) w) ∧ ∀ A : Array Value, A.size = 55 → (Tryz.prog.info? 27).map (·.size) = some A.size := zero_row (by kernel_rfl)

def ple (i : Nat) : Option (Nat × Nat) := #[(0, 16), (16, 1), (17, 38)][i]?
/-- The types of encoders. -/
def IsEn (t : TypeId) : Prop := ∀ parts, Tryz.prog.built t parts = Instr.fill ple (Array.replicate 55 (.int .i64 0)) parts
theorem isEn_p : IsEn 36 := fun parts => by kernel_rfl
theorem isEn_r : IsEn 27 := fun parts => by kernel_rfl
theorem ebuilt_0 {t : TypeId} (ht : IsEn t) : ∃ T, IsRow 55 (fun _ => 0) T ∧ Tryz.prog.built t [] = some T := ⟨_, isRow_zero 55, by rw [ht]; rfl⟩
theorem ebuilt_3 {t : TypeId} (ht : IsEn t) {M Q : Array Value} {m f : Nat → Int} (hM : IsRow 16 m M) (z : Int) (hQ : IsRow 38 f Q) : ∃ T, IsRow 55 (enF m z f) T ∧ Tryz.prog.built t [(0, .agg M), (1, .int .i64 z), (2, .agg Q)] = some T := by
  obtain ⟨C, hC, e⟩ := fill_agg (place := ple) (i := 0) (rest := [(1, .int .i64 z), (2, .agg Q)]) rfl (isRow_zero 55) hM (show 0 + 16 ≤ 55 by omega)
  obtain ⟨D, hD, e1⟩ := fill_int (place := ple) (i := 1) (x := z) (rest := [(2, .agg Q)]) rfl hC (show 16 < 55 by omega)
  obtain ⟨E, hE, e2⟩ := fill_agg (place := ple) (i := 2) (rest := []) rfl hD hQ (show 17 + 38 ≤ 55 by omega)
  refine ⟨E, hE.ext fun k hk => ?_, by rw [ht, e, e1, e2]; rfl⟩
  unfold over enF
  dsimp only
  repeat' split
  all_goals first | rfl | omega | (congr 1; omega)

/-! Compared. -/
theorem st_eqd_p {d : Nat} {f : Nat → Int} {T : Array Value} (hT : IsRow 38 f T) (w : World) : (Op.equalIn (d + 4) 34 (.agg T) (.agg T)).run Tryz.prog w = .ok true w := by
  obtain ⟨_, _, _, _, hb⟩ := zero_b
  obtain ⟨_, _, _, _, h4⟩ := zero_4
  rw [run_equalIn_agg w (d + 3) _ T T (by unfold Program.fieldsOf; rw [Tryz.underlying34]) Tryz.stoodInHeld34]
  refine eq_fields _ ?_ w
  unfold Program.fieldsOf
  rw [Tryz.underlying34]
  intro x hx
  simp only [List.mem_cons, List.not_mem_nil, or_false] at hx
  rcases hx with rfl | rfl | rfl | rfl | rfl
  · exact fld_row (n := 16) hT (by omega) Tryz.underlying32 hb
  · exact fld_num hT (by omega)
  · exact fld_row (n := 4) hT (by omega) Tryz.underlying23 h4
  · exact fld_row (n := 16) hT (by omega) Tryz.underlying32 hb
  · exact fld_num hT (by omega)
theorem st_eqd_r {d : Nat} {f : Nat → Int} {T : Array Value} (hT : IsRow 38 f T) (w : World) : (Op.equalIn (d + 4) 25 (.agg T) (.agg T)).run Tryz.prog w = .ok true w := by
  obtain ⟨_, _, _, _, hb⟩ := zero_a
  obtain ⟨_, _, _, _, h4⟩ := zero_4
  rw [run_equalIn_agg w (d + 3) _ T T (by unfold Program.fieldsOf; rw [Tryz.underlying25]) Tryz.stoodInHeld25]
  refine eq_fields _ ?_ w
  unfold Program.fieldsOf
  rw [Tryz.underlying25]
  intro x hx
  simp only [List.mem_cons, List.not_mem_nil, or_false] at hx
  rcases hx with rfl | rfl | rfl | rfl | rfl
  · exact fld_row (n := 16) hT (by omega) Tryz.underlying22 hb
  · exact fld_num hT (by omega)
  · exact fld_row (n := 4) hT (by omega) Tryz.underlying23 h4
  · exact fld_row (n := 16) hT (by omega) Tryz.underlying22 hb
  · exact fld_num hT (by omega)
theorem en_eq_p {f g : Nat → Int} {T U : Array Value} (hT : IsRow 55 f T) (hU : IsRow 55 g U) (e : ∀ k, k < 55 → f k = g k) (w : World) : (Op.equalIn 10000 36 (.agg T) (.agg U)).run Tryz.prog w = .ok true w := by
  obtain rfl := hT.eq hU e
  obtain ⟨_, _, _, _, hb⟩ := zero_b
  obtain ⟨_, _, _, _, hp⟩ := zero_p
  rw [run_equalIn_agg w 9999 _ T T (by unfold Program.fieldsOf; rw [Tryz.underlying36]) Tryz.stoodInHeld36]
  refine eq_fields _ ?_ w
  unfold Program.fieldsOf
  rw [Tryz.underlying36]
  intro x hx
  simp only [List.mem_cons, List.not_mem_nil, or_false] at hx
  rcases hx with rfl | rfl | rfl
  · exact fld_row (n := 16) hT (by omega) Tryz.underlying32 hb
  · exact fld_num hT (by omega)
  · exact fun w => ⟨_, part_row (n := 38) Tryz.underlying34 rfl hp w, st_eqd_p (hT.sub (show 17 + 38 ≤ 55 by omega)) w⟩
theorem en_eq_r {f g : Nat → Int} {T U : Array Value} (hT : IsRow 55 f T) (hU : IsRow 55 g U) (e : ∀ k, k < 55 → f k = g k) (w : World) : (Op.equalIn 10000 27 (.agg T) (.agg U)).run Tryz.prog w = .ok true w := by
  obtain rfl := hT.eq hU e
  obtain ⟨_, _, _, _, hb⟩ := zero_a
  obtain ⟨_, _, _, _, hr⟩ := zero_r
  rw [run_equalIn_agg w 9999 _ T T (by unfold Program.fieldsOf; rw [Tryz.underlying27]) Tryz.stoodInHeld27]
  refine eq_fields _ ?_ w
  unfold Program.fieldsOf
  rw [Tryz.underlying27]
  intro x hx
  simp only [List.mem_cons, List.not_mem_nil, or_false] at hx
  rcases hx with rfl | rfl | rfl
  · exact fld_row (n := 16) hT (by omega) Tryz.underlying22 hb
  · exact fld_num hT (by omega)
  · exact fun w => ⟨_, part_row (n := 38) Tryz.underlying25 rfl hr w, st_eqd_r (hT.sub (show 17 + 38 ≤ 55 by omega)) w⟩

/-! Fields. -/
theorem fld_ep0 : FldAt 36 0 0 := fun b w => by
  unfold Instr.fieldAt
  simp [Sem.run_bind, run_underlying Tryz.underlying36, Instr.sureAddr, go_sem, Addr.add]
theorem fld_ep1 : FldAt 36 1 16 := fun b w => by
  unfold Instr.fieldAt
  simp [Sem.run_bind, run_underlying Tryz.underlying36, Instr.sureAddr, go_sem, Addr.add]
theorem fld_ep2 : FldAt 36 2 17 := fun b w => by
  unfold Instr.fieldAt
  simp [Sem.run_bind, run_underlying Tryz.underlying36, Instr.sureAddr, go_sem, Addr.add]
theorem fld_er0 : FldAt 27 0 0 := fun b w => by
  unfold Instr.fieldAt
  simp [Sem.run_bind, run_underlying Tryz.underlying27, Instr.sureAddr, go_sem, Addr.add]
theorem fld_er1 : FldAt 27 1 16 := fun b w => by
  unfold Instr.fieldAt
  simp [Sem.run_bind, run_underlying Tryz.underlying27, Instr.sureAddr, go_sem, Addr.add]
theorem fld_er2 : FldAt 27 2 17 := fun b w => by
  unfold Instr.fieldAt
  simp [Sem.run_bind, run_underlying Tryz.underlying27, Instr.sureAddr, go_sem, Addr.add]

/-- An encoder that comes in. -/
theorem open_en {H : Type} {enc : TypeId × Value → H} {W : World} {r : Reach} {base b0 : Nat} {sp : Nat → Bool} {held : Bool} {v : Value} {d : DataW H} {ps : List MemPlace}
    (hok : Value.okWide Tryz.prog W r b0 27 v) (h : DataW.Trod enc Tryz.prog W base sp held 27 v d ps) :
    ∃ T : Array Value, v = .agg T ∧ IsRow 55 (intsOf T) T ∧ ∀ k, k < 55 → (Lit.int .i64 (intsOf T k)).wf = true := by
  have fi : Flat enc W base sp held 3 := Flat.int Tryz.underlying3 (by kernel_rfl)
  have fb : Flat enc W base sp held 22 := Flat.array fi Tryz.underlying22 (by kernel_rfl)
  have f4 : Flat enc W base sp held 23 := Flat.array fi Tryz.underlying23 (by kernel_rfl)
  have c16 : Tryz.prog.cellsOf 22 = 16 := by kernel_rfl
  have c4 : Tryz.prog.cellsOf 23 = 4 := by kernel_rfl
  have c1 : Tryz.prog.cellsOf 3 = 1 := by kernel_rfl
  have c38 : Tryz.prog.cellsOf 25 = 38 := by kernel_rfl
  have c55 : Tryz.prog.cellsOf 27 = 55 := by kernel_rfl
  have fs : Flat enc W base sp held 25 := by
    refine Flat.struct Tryz.underlying25 ?_ ?_
    · intro i f hf
      match i, hf with
      | 0, hf => injection hf with hf; subst hf; exact fb
      | 1, hf => injection hf with hf; subst hf; exact fi
      | 2, hf => injection hf with hf; subst hf; exact f4
      | 3, hf => injection hf with hf; subst hf; exact fb
      | 4, hf => injection hf with hf; subst hf; exact fi
      | n + 5, hf => simp at hf
    · intro k hk
      rw [c38] at hk
      by_cases k1 : k < 16
      · exact ⟨0, _, rfl, Nat.zero_le _, by show k < 0 + Tryz.prog.cellsOf 22; rw [c16]; omega⟩
      · by_cases k2 : k < 17
        · exact ⟨1, _, rfl, by show 16 ≤ k; omega, by show k < 16 + Tryz.prog.cellsOf 3; rw [c1]; omega⟩
        · by_cases k3 : k < 21
          · exact ⟨2, _, rfl, by show 17 ≤ k; omega, by show k < 17 + Tryz.prog.cellsOf 23; rw [c4]; omega⟩
          · by_cases k4 : k < 37
            · exact ⟨3, _, rfl, by show 21 ≤ k; omega, by show k < 21 + Tryz.prog.cellsOf 22; rw [c16]; omega⟩
            · exact ⟨4, _, rfl, by show 37 ≤ k; omega, by show k < 37 + Tryz.prog.cellsOf 3; rw [c1]; omega⟩
  refine open_flat Tryz.underlying27 rfl (Flat.struct Tryz.underlying27 ?_ ?_) c55 hok h
  · intro i f hf
    match i, hf with
    | 0, hf => injection hf with hf; subst hf; exact fb
    | 1, hf => injection hf with hf; subst hf; exact fi
    | 2, hf => injection hf with hf; subst hf; exact fs
    | n + 3, hf => simp at hf
  · intro k hk
    rw [c55] at hk
    by_cases k1 : k < 16
    · exact ⟨0, _, rfl, Nat.zero_le _, by show k < 0 + Tryz.prog.cellsOf 22; rw [c16]; omega⟩
    · by_cases k2 : k < 17
      · exact ⟨1, _, rfl, by show 16 ≤ k; omega, by show k < 16 + Tryz.prog.cellsOf 3; rw [c1]; omega⟩
      · exact ⟨2, _, rfl, by show 17 ≤ k; omega, by show k < 17 + Tryz.prog.cellsOf 25; rw [c38]; omega⟩
end Go.Proofs.YtfohinlldchdpaaGreatDoor.En
end

section
/- The laws' Of and Plain of encoders; the document's Right and Sound. Written by g43.py. -/
set_option maxRecDepth 100000
set_option linter.unusedVariables false
namespace Go.Proofs.YtfohinlldchdpaaGreatDoor.En
open Go.RowKit Go.Proofs.YtfohinlldchdpaaGreatDoor.Row Go.Proofs.YtfohinlldchdpaaGreatDoor.Md Go.Proofs.YtfohinlldchdpaaGreatDoor.Tl Go.Proofs.YtfohinlldchdpaaGreatDoor.Sta

/-- An encoder that came in, and one of one's own behind it. -/
def TwE (w : World) (T : Array Value) (t u : TypeId) (w' : World) : Prop := ∃ Z : Array Value, Z.size = 55 ∧ Below w.heap.size w w' ∧ At w' w.heap.size T t ∧ At w' (w.heap.size + 1) Z u
theorem TwE.start (w : World) (T : Array Value) (t u : TypeId) {Z : Array Value} (hZ : Z.size = 55) : TwE w T t u ((w.alloc (.cells T t)).alloc (.cells Z u)) := by
  have a1 := At.new (w.alloc (.cells T t)) Z u
  simp only [World.size_alloc] at a1
  exact ⟨Z, hZ, ((Below.refl _ _).alloc (Nat.le_refl _) _).alloc (by simp) _, (At.new _ _ _).alloc _, a1⟩
theorem TwE.atT {w w' : World} {T : Array Value} {t u : TypeId} (h : TwE w T t u w') : At w' w.heap.size T t := by
  obtain ⟨_, _, _, h, _⟩ := h; exact h
theorem TwE.next {w w1 w2 : World} {T : Array Value} {t u : TypeId} (h : TwE w T t u w1) (hb : Below w1.heap.size w1 w2) : TwE w T t u w2 := by
  obtain ⟨Z, hZ, h1, h2, h3⟩ := h
  exact ⟨Z, hZ, below_trans h1 hb h1.size, h2.below hb h2.lt, h3.below hb h3.lt⟩
theorem TwE.set {w w1 : World} {T R : Array Value} {t u : TypeId} (h : TwE w T t u w1) (hR : R.size = 55) : TwE w T t u (w1.setRow (w.heap.size + 1) R) := by
  obtain ⟨Z, hZ, h1, h2, h3⟩ := h
  exact ⟨R, hR, below_setRow' h1 (by omega) _, h2.setRow_other (by omega), h3.setRow⟩

set_option maxHeartbeats 1000000 in
theorem of_en (T : Array Value) (f : Nat → Int) (hT : IsRow 55 f T) (w : World) :
    Calls Tryz.prog 13 #[.agg T] w fun e w' => e = .returned (.agg T) ∧ Below w.heap.size w w' := by
  obtain ⟨Z, hZ, _, hz, hi⟩ := zero_ep
  obtain ⟨_, _, _, _, hib⟩ := zero_a
  obtain ⟨_, _, _, _, his⟩ := zero_r
  obtain ⟨z, hz16⟩ : ∃ z, f 16 = z := ⟨_, rfl⟩
  obtain ⟨M, hM⟩ : ∃ M, T.extract 0 (0 + 16) = M := ⟨_, rfl⟩
  obtain ⟨Q, hQ⟩ : ∃ M, T.extract 17 (17 + 38) = M := ⟨_, rfl⟩
  have hM' := hT.sub (show 0 + 16 ≤ 55 by omega)
  have hQ' := hT.sub (show 17 + 38 ≤ 55 by omega)
  rw [hM] at hM'
  rw [hQ] at hQ'
  obtain ⟨C, hC, hE⟩ := ebuilt_3 isEn_p hM' z hQ'
  obtain rfl : C = T := hC.eq hT fun k hk => by
    have h : enF (fun i => f (0 + i)) z (fun i => f (17 + i)) k = enF f (f 16) (fun i => f (17 + i)) k := by
      unfold enF
      rw [hz16]
      dsimp only
      rw [Nat.zero_add]
    rw [h, enF_self f hk]
  have HE := Lib.hid hE
  have HI := Lib.hid hi
  have HIB := Lib.hid hib
  have HIS := Lib.hid his
  have HT := Lib.hid hT
  have HM := Lib.hid hM'
  have HQ := Lib.hid hQ'
  have HZ16 := Lib.hid hz16
  have HW := Lib.hid (TwE.start w C 27 36 hZ.1)
  clear hT hZ hi hib his hz16 hM hQ hM' hQ' hC hE
  go_enter Tryz.func13, Tryz.ntmps13
  go_wp2_with fail
  revert HW
  generalize World.alloc _ _ = W
  intro HW
  refine mv_startS (TwE w C 27 36) (HW.out.next ((Below.refl _ _).drew)) fun hS => ?_
  refine mv_yield (i := 0) (d := 3) (.pointer (some ⟨w.heap.size, 0, none⟩)) rfl rfl (by kernel_rfl) (by kernel_rfl) (by kernel_rfl) hS (y_field (by rfl) rfl rfl fld_er0) ?_
  simp only [Act.put, List.setIfInBounds_toArray, List.set_cons_zero, List.set_cons_succ]
  refine mv_yield (i := 1) (d := 4) (.agg M) rfl rfl (by kernel_rfl) (by kernel_rfl) (by kernel_rfl) hS (y_load_part (l := 0) (by rfl) rfl rfl HT.out (fun w' h => h.atT) HM.out (by omega) (fun i _ => by first | rw [Nat.zero_add] | rfl) Tryz.underlying22 rfl (HIB.out _ HM.out.1)) ?_
  simp only [Act.put, List.setIfInBounds_toArray, List.set_cons_zero, List.set_cons_succ]
  refine mv_yield (i := 2) (d := 5) (.pointer (some ⟨w.heap.size, 16, none⟩)) rfl rfl (by kernel_rfl) (by kernel_rfl) (by kernel_rfl) hS (y_field (by rfl) rfl rfl fld_er1) ?_
  simp only [Act.put, List.setIfInBounds_toArray, List.set_cons_zero, List.set_cons_succ]
  refine mv_yield (i := 3) (d := 6) (.int .i64 z) rfl rfl (by kernel_rfl) (by kernel_rfl) (by kernel_rfl) hS (y_cellS (by rfl) rfl rfl (fun w' h => by have := HT.out.cell h.atT 16 (by omega); rw [HZ16.out] at this; exact this)) ?_
  simp only [Act.put, List.setIfInBounds_toArray, List.set_cons_zero, List.set_cons_succ]
  refine mv_yield (i := 4) (d := 7) (.pointer (some ⟨w.heap.size, 17, none⟩)) rfl rfl (by kernel_rfl) (by kernel_rfl) (by kernel_rfl) hS (y_field (by rfl) rfl rfl fld_er2) ?_
  simp only [Act.put, List.setIfInBounds_toArray, List.set_cons_zero, List.set_cons_succ]
  refine mv_yield (i := 5) (d := 8) (.agg Q) rfl rfl (by kernel_rfl) (by kernel_rfl) (by kernel_rfl) hS (y_load_part (l := 17) (by rfl) rfl rfl HT.out (fun w' h => h.atT) HQ.out (by omega) (fun i _ => by first | rw [Nat.zero_add] | rfl) Tryz.underlying25 rfl (HIS.out _ HQ.out.1)) ?_
  simp only [Act.put, List.setIfInBounds_toArray, List.set_cons_zero, List.set_cons_succ]
  refine mv_ready [6] (by kernel_rfl) (by simp) (ar_callP (i := 6) (d := 9) (v := .agg Q) #[.agg Q] rfl rfl (by rfl) rfl enter_of (by kernel_rfl) (of_as Q _ _ HQ.out) (fun w' h => hS.next h) ?_ AllReadyH.nil)
  clear hS
  rintro w' hb hS
  clear hb
  simp only [Act.put, List.setIfInBounds_toArray, List.set_cons_zero, List.set_cons_succ]
  refine mv_yield (i := 7) (d := 10) (.agg C) rfl rfl (by kernel_rfl) (by kernel_rfl) (by kernel_rfl) hS (y_build_parts (L := [(0, _), (1, _), (2, _)]) (by rfl) rfl _ rfl HE.out) ?_
  simp only [Act.put, List.setIfInBounds_toArray, List.set_cons_zero, List.set_cons_succ]
  obtain ⟨Y, hY, h0, h1, h2⟩ := id hS
  refine mv_ready [8] (by kernel_rfl) (by simp) (ar_store (i := 8) (w.heap.size + 1) C Y rfl rfl (by rfl) rfl rfl rfl h2 (by rw [hY, HT.out.1]) HT.out.2.1 (HI.out _ HT.out.1) (hS.set HT.out.1) (fun hS' => ?_) AllReadyH.nil)
  have PX := Lib.hid (h2.setRow (C := C))
  obtain ⟨_, _, hb, _⟩ := hS'
  refine mv_done (by kernel_rfl) ?_
  have HB := Lib.hid hb
  clear hb hS h0 h1 h2
  go_wp2_with fail
  exact bodyPost_ret (v := .agg C) (results_cell_row rfl _ _ (w.heap.size + 1) 36 C (0, 0) _ rfl PX.out Tryz.underlying36 rfl (HI.out _ HT.out.1)) rfl ⟨rfl, HB.out⟩

set_option maxHeartbeats 1000000 in
theorem plain_en (T : Array Value) (f : Nat → Int) (hT : IsRow 55 f T) (w : World) :
    Calls Tryz.prog 20 #[.agg T] w fun e w' => e = .returned (.agg T) ∧ Below w.heap.size w w' := by
  obtain ⟨Z, hZ, _, hz, hi⟩ := zero_er
  obtain ⟨_, _, _, _, hib⟩ := zero_b
  obtain ⟨_, _, _, _, his⟩ := zero_p
  obtain ⟨z, hz16⟩ : ∃ z, f 16 = z := ⟨_, rfl⟩
  obtain ⟨M, hM⟩ : ∃ M, T.extract 0 (0 + 16) = M := ⟨_, rfl⟩
  obtain ⟨Q, hQ⟩ : ∃ M, T.extract 17 (17 + 38) = M := ⟨_, rfl⟩
  have hM' := hT.sub (show 0 + 16 ≤ 55 by omega)
  have hQ' := hT.sub (show 17 + 38 ≤ 55 by omega)
  rw [hM] at hM'
  rw [hQ] at hQ'
  obtain ⟨C, hC, hE⟩ := ebuilt_3 isEn_r hM' z hQ'
  obtain rfl : C = T := hC.eq hT fun k hk => by
    have h : enF (fun i => f (0 + i)) z (fun i => f (17 + i)) k = enF f (f 16) (fun i => f (17 + i)) k := by
      unfold enF
      rw [hz16]
      dsimp only
      rw [Nat.zero_add]
    rw [h, enF_self f hk]
  have HE := Lib.hid hE
  have HI := Lib.hid hi
  have HIB := Lib.hid hib
  have HIS := Lib.hid his
  have HT := Lib.hid hT
  have HM := Lib.hid hM'
  have HQ := Lib.hid hQ'
  have HZ16 := Lib.hid hz16
  have HW := Lib.hid (TwE.start w C 36 27 hZ.1)
  clear hT hZ hi hib his hz16 hM hQ hM' hQ' hC hE
  go_enter Tryz.func20, Tryz.ntmps20
  go_wp2_with fail
  revert HW
  generalize World.alloc _ _ = W
  intro HW
  refine mv_startS (TwE w C 36 27) (HW.out.next ((Below.refl _ _).drew)) fun hS => ?_
  refine mv_yield (i := 0) (d := 3) (.pointer (some ⟨w.heap.size, 0, none⟩)) rfl rfl (by kernel_rfl) (by kernel_rfl) (by kernel_rfl) hS (y_field (by rfl) rfl rfl fld_ep0) ?_
  simp only [Act.put, List.setIfInBounds_toArray, List.set_cons_zero, List.set_cons_succ]
  refine mv_yield (i := 1) (d := 4) (.agg M) rfl rfl (by kernel_rfl) (by kernel_rfl) (by kernel_rfl) hS (y_load_part (l := 0) (by rfl) rfl rfl HT.out (fun w' h => h.atT) HM.out (by omega) (fun i _ => by first | rw [Nat.zero_add] | rfl) Tryz.underlying32 rfl (HIB.out _ HM.out.1)) ?_
  simp only [Act.put, List.setIfInBounds_toArray, List.set_cons_zero, List.set_cons_succ]
  refine mv_yield (i := 2) (d := 5) (.pointer (some ⟨w.heap.size, 16, none⟩)) rfl rfl (by kernel_rfl) (by kernel_rfl) (by kernel_rfl) hS (y_field (by rfl) rfl rfl fld_ep1) ?_
  simp only [Act.put, List.setIfInBounds_toArray, List.set_cons_zero, List.set_cons_succ]
  refine mv_yield (i := 3) (d := 6) (.int .i64 z) rfl rfl (by kernel_rfl) (by kernel_rfl) (by kernel_rfl) hS (y_cellS (by rfl) rfl rfl (fun w' h => by have := HT.out.cell h.atT 16 (by omega); rw [HZ16.out] at this; exact this)) ?_
  simp only [Act.put, List.setIfInBounds_toArray, List.set_cons_zero, List.set_cons_succ]
  refine mv_yield (i := 4) (d := 7) (.pointer (some ⟨w.heap.size, 17, none⟩)) rfl rfl (by kernel_rfl) (by kernel_rfl) (by kernel_rfl) hS (y_field (by rfl) rfl rfl fld_ep2) ?_
  simp only [Act.put, List.setIfInBounds_toArray, List.set_cons_zero, List.set_cons_succ]
  refine mv_yield (i := 5) (d := 8) (.agg Q) rfl rfl (by kernel_rfl) (by kernel_rfl) (by kernel_rfl) hS (y_load_part (l := 17) (by rfl) rfl rfl HT.out (fun w' h => h.atT) HQ.out (by omega) (fun i _ => by first | rw [Nat.zero_add] | rfl) Tryz.underlying34 rfl (HIS.out _ HQ.out.1)) ?_
  simp only [Act.put, List.setIfInBounds_toArray, List.set_cons_zero, List.set_cons_succ]
  refine mv_ready [6] (by kernel_rfl) (by simp) (ar_callP (i := 6) (d := 9) (v := .agg Q) #[.agg Q] rfl rfl (by rfl) rfl enter_plain (by kernel_rfl) (plain_as Q _ _ HQ.out) (fun w' h => hS.next h) ?_ AllReadyH.nil)
  clear hS
  rintro w' hb hS
  clear hb
  simp only [Act.put, List.setIfInBounds_toArray, List.set_cons_zero, List.set_cons_succ]
  refine mv_yield (i := 7) (d := 10) (.agg C) rfl rfl (by kernel_rfl) (by kernel_rfl) (by kernel_rfl) hS (y_build_parts (L := [(0, _), (1, _), (2, _)]) (by rfl) rfl _ rfl HE.out) ?_
  simp only [Act.put, List.setIfInBounds_toArray, List.set_cons_zero, List.set_cons_succ]
  obtain ⟨Y, hY, h0, h1, h2⟩ := id hS
  refine mv_ready [8] (by kernel_rfl) (by simp) (ar_store (i := 8) (w.heap.size + 1) C Y rfl rfl (by rfl) rfl rfl rfl h2 (by rw [hY, HT.out.1]) HT.out.2.1 (HI.out _ HT.out.1) (hS.set HT.out.1) (fun hS' => ?_) AllReadyH.nil)
  have PX := Lib.hid (h2.setRow (C := C))
  obtain ⟨_, _, hb, _⟩ := hS'
  refine mv_done (by kernel_rfl) ?_
  have HB := Lib.hid hb
  clear hb hS h0 h1 h2
  go_wp2_with fail
  exact bodyPost_ret (v := .agg C) (results_cell_row rfl _ _ (w.heap.size + 1) 27 C (0, 0) _ rfl PX.out Tryz.underlying27 rfl (HI.out _ HT.out.1)) rfl ⟨rfl, HB.out⟩

theorem enter_of_en (args : Array Value) (w : World) : (callFunc 13 args).run Tryz.prog w = .ok (.enter 13 args) w := run_enter Tryz.func13 (by kernel_rfl) rfl args w
theorem enter_plain_en (args : Array Value) (w : World) : (callFunc 20 args).run Tryz.prog w = .ok (.enter 20 args) w := run_enter Tryz.func20 (by kernel_rfl) rfl args w
end Go.Proofs.YtfohinlldchdpaaGreatDoor.En
end

section
/- What is heard behind two states that are alike in Mem and Last. -/
set_option maxRecDepth 100000
set_option linter.unusedVariables false
namespace Go.Proofs.YtfohinlldchdpaaGreatDoor.Sta
open Go.RowKit Go.Proofs.YtfohinlldchdpaaGreatDoor.Row Go.Proofs.YtfohinlldchdpaaGreatDoor.Md Go.Proofs.YtfohinlldchdpaaGreatDoor.Tl

end Go.Proofs.YtfohinlldchdpaaGreatDoor.Sta
end

section
/- Contracts: the document's Next. -/
set_option maxRecDepth 100000
set_option linter.unusedVariables false
namespace Go.Proofs.YtfohinlldchdpaaGreatDoor.Sta
open Go.RowKit Go.Proofs.YtfohinlldchdpaaGreatDoor.Row Go.Proofs.YtfohinlldchdpaaGreatDoor.Md Go.Proofs.YtfohinlldchdpaaGreatDoor.Tl

/-- What stands while the document's Next works: what came in, and the results. -/
def Rn (w : World) (T V U A B : Array Value) (w' : World) : Prop :=
  Below w.heap.size w w' ∧ w.heap.size + 1 + 1 + 1 + 1 + 1 ≤ w'.heap.size ∧ At w' w.heap.size T 25 ∧ At w' (w.heap.size + 1) V 23 ∧ At w' (w.heap.size + 1 + 1) U 22 ∧
    At w' (w.heap.size + 1 + 1 + 1) A 22 ∧ At w' (w.heap.size + 1 + 1 + 1 + 1) B 25
theorem Rn.start (w : World) (T V U A B : Array Value) : Rn w T V U A B (((((w.alloc (.cells T 25)).alloc (.cells V 23)).alloc (.cells U 22)).alloc (.cells A 22)).alloc (.cells B 25)) := by
  have a1 := At.new (w.alloc (.cells T 25)) V 23
  have a2 := At.new ((w.alloc (.cells T 25)).alloc (.cells V 23)) U 22
  have a3 := At.new (((w.alloc (.cells T 25)).alloc (.cells V 23)).alloc (.cells U 22)) A 22
  have a4 := At.new ((((w.alloc (.cells T 25)).alloc (.cells V 23)).alloc (.cells U 22)).alloc (.cells A 22)) B 25
  simp only [World.size_alloc] at a1 a2 a3 a4
  exact ⟨((((((Below.refl _ _).alloc (Nat.le_refl _) _).alloc (by simp) _).alloc (by simp; omega) _).alloc (by simp; omega) _).alloc (by simp; omega) _), by simp, ((((At.new _ _ _).alloc _).alloc _).alloc _).alloc _, ((a1.alloc _).alloc _).alloc _, (a2.alloc _).alloc _, a3.alloc _, a4⟩
section
variable {w w1 w2 : World} {T V U A B : Array Value}
theorem Rn.next (h : Rn w T V U A B w1) (hb : Below w1.heap.size w1 w2) : Rn w T V U A B w2 := by
  obtain ⟨h0, hs, h1, h2, h3, h4, h5⟩ := h
  exact ⟨below_trans h0 hb h0.size, Nat.le_trans hs hb.size, h1.below hb h1.lt, h2.below hb h2.lt, h3.below hb h3.lt, h4.below hb h4.lt, h5.below hb h5.lt⟩
theorem Rn.alloc (h : Rn w T V U A B w1) (o : Obj) : Rn w T V U A B (w1.alloc o) := h.next ((Below.refl _ _).alloc (Nat.le_refl _) o)
theorem Rn.drew (h : Rn w T V U A B w1) : Rn w T V U A B w1.drew := ⟨h.1.drew, h.2⟩
theorem Rn.setCell (h : Rn w T V U A B w1) {b : Nat} (hb : w.heap.size + 1 + 1 + 1 + 1 < b) (i : Nat) (v : Value) : Rn w T V U A B (w1.setCell ⟨b, i, none⟩ v) := by
  obtain ⟨h0, hs, h1, h2, h3, h4, h5⟩ := h
  exact ⟨h0.setCell (by dsimp only; omega) _, by simpa using hs, h1.setCell_other (by dsimp only; omega), h2.setCell_other (by dsimp only; omega), h3.setCell_other (by dsimp only; omega), h4.setCell_other (by dsimp only; omega), h5.setCell_other (by dsimp only; omega)⟩
theorem Rn.setRow (h : Rn w T V U A B w1) {b : Nat} (hb : w.heap.size + 1 + 1 + 1 + 1 < b) (C : Array Value) : Rn w T V U A B (w1.setRow b C) := by
  obtain ⟨h0, hs, h1, h2, h3, h4, h5⟩ := h
  exact ⟨below_setRow' h0 (by omega) _, by simpa using hs, h1.setRow_other (by omega), h2.setRow_other (by omega), h3.setRow_other (by omega), h4.setRow_other (by omega), h5.setRow_other (by omega)⟩
theorem Rn.setA (h : Rn w T V U A B w1) (C : Array Value) : Rn w T V U C B (w1.setRow (w.heap.size + 1 + 1 + 1) C) := by
  obtain ⟨h0, hs, h1, h2, h3, h4, h5⟩ := h
  exact ⟨below_setRow' h0 (by omega) _, by simpa using hs, h1.setRow_other (by omega), h2.setRow_other (by omega), h3.setRow_other (by omega), h4.setRow, h5.setRow_other (by omega)⟩
theorem Rn.setB (h : Rn w T V U A B w1) (C : Array Value) : Rn w T V U A C (w1.setRow (w.heap.size + 1 + 1 + 1 + 1) C) := by
  obtain ⟨h0, hs, h1, h2, h3, h4, h5⟩ := h
  exact ⟨below_setRow' h0 (by omega) _, by simpa using hs, h1.setRow_other (by omega), h2.setRow_other (by omega), h3.setRow_other (by omega), h4.setRow_other (by omega), h5.setRow⟩
end

/-- What stands while the results are laid. -/
def Rz (w : World) (T V U D E : Array Value) (d : Nat) (w' : World) : Prop := ∃ A B : Array Value, A.size = 16 ∧ B.size = 38 ∧ Rn w T V U A B w' ∧ At w' d D 22 ∧ At w' (d + 1) E 25 ∧ w.heap.size + 1 + 1 + 1 + 1 < d
theorem Rz.atD {w w' : World} {T V U D E : Array Value} {d : Nat} (h : Rz w T V U D E d w') : At w' d D 22 := by
  obtain ⟨_, _, _, _, _, h, _⟩ := h; exact h
theorem Rz.atE {w w' : World} {T V U D E : Array Value} {d : Nat} (h : Rz w T V U D E d w') : At w' (d + 1) E 25 := by
  obtain ⟨_, _, _, _, _, _, h, _⟩ := h; exact h

/-- What is cut so far. -/
def cuF (g : Nat → Int) (k j : Nat) : Int := if j < k then ct16 (g j) else g j
theorem cu_set {g : Nat → Int} {k : Nat} {p : Int} {P : Array Value} (hP : IsRow 16 (cuF g k) P) (hk : k < 16) (hp : ct16 (g k) = p) : IsRow 16 (cuF g (k + 1)) (P.setIfInBounds k (.int .i64 p)) :=
  (hP.set p hk).ext fun j _ => by
    unfold cuF
    by_cases c : j = k
    · rw [if_pos c, if_pos (by omega), c, hp]
    · rw [if_neg c]
      by_cases c2 : j < k
      · rw [if_pos c2, if_pos (by omega)]
      · rw [if_neg c2, if_neg (by omega)]
theorem zero_32 : ∃ Z, IsRow 32 (fun _ => 0) Z ∧ (∀ f, rowL 32 f 0 = Z) ∧ (∀ w, (zeroValue 109).run Tryz.prog w = .ok (.agg Z) w) ∧ ∀ A : Array Value, A.size = 32 → (Tryz.prog.info? 109).map (·.size) = some A.size := zero_row (by kernel_rfl)

set_option maxHeartbeats 2000000 in
theorem refNext_as (T V U : Array Value) (f v u : Nat → Int) (z : Int) (hT : IsRow 38 f T) (hV : IsRow 4 v V) (hU : IsRow 16 u U) (hr : Rt f) (hu : Le 1048576 u) (w : World) :
    Calls Tryz.prog 104 #[.agg T, .agg V, .agg U, .int .i64 z] w (RetNx w (soF f u) (nxF f v u z)) := by
  obtain ⟨Zr, hZr, _, hzr, hir⟩ := zero_r
  obtain ⟨Za, hZa, hZa0, hza, hia⟩ := zero_a
  obtain ⟨_, _, _, _, hi4⟩ := zero_4
  obtain ⟨Zl, hZl, _, hzl, hil⟩ := zero_32
  obtain ⟨L, hL⟩ : ∃ F, rowL 32 (bS u) 32 = F := ⟨_, rfl⟩
  have hL' : IsRow 32 (bS u) L := by rw [← hL]; exact isRow _ _
  have hCB := fun w => refBack_any U u hU hu w
  rw [hL] at hCB
  obtain ⟨O, hO⟩ : ∃ O, rowL 16 (ovS f (bS u)) 16 = O := ⟨_, rfl⟩
  have hO' : IsRow 16 (ovS f (bS u)) O := by rw [← hO]; exact isRow _ _
  obtain ⟨R, hR⟩ : ∃ O, rowL 16 (lyF f u) 16 = O := ⟨_, rfl⟩
  have hR' : IsRow 16 (lyF f u) R := by rw [← hR]; exact isRow _ _
  have hCL := fun w => refLay_any (f 16) O (ovS f (bS u)) w hO'
  change ∀ w, Calls _ _ _ w fun e w' => e = .returned (.tuple #[.agg (rowL 16 (lyF f u) 16), .int .i64 (lyF f u 15)]) ∧ _ at hCL
  obtain ⟨q, hq⟩ : ∃ q, lyF f u 15 = q := ⟨_, rfl⟩
  rw [hR, hq] at hCL
  obtain ⟨x16, hx16⟩ : ∃ q, f 16 = q := ⟨_, rfl⟩
  rw [hx16] at hCL
  obtain ⟨P, hP, bP⟩ := built_4 isSt_r q hV hU z
  have HCB := Lib.hid hCB
  have HCL := Lib.hid hCL
  have HL := Lib.hid hL'
  have HR := Lib.hid hR'
  have HOe := Lib.hid hO
  have HO := Lib.hid hO'
  have Hq := Lib.hid hq
  have H16 := Lib.hid hx16
  have HIR := Lib.hid hir
  have HIA := Lib.hid hia
  have HI4 := Lib.hid hi4
  have HIL := Lib.hid hil
  have HT := Lib.hid hT
  have HV := Lib.hid hV
  have HU := Lib.hid hU
  have HP := Lib.hid hP
  have HBP := Lib.hid bP
  have HZR := Lib.hid hZr.1
  have HZA := Lib.hid hZa.1
  have HZL := Lib.hid hZl.1
  have HZ0 := Lib.hid hZa0
  have HN := Lib.hid (Rn.start w T V U Za Zr)
  have HR1 := Lib.hid hr
  clear hT hV hU hir hia hi4 hil hP bP hZr hZa hZa0 hZl hr hu hL hL' hCB hO hO' hR hR' hCL hq hx16
  go_enter Tryz.func104, Tryz.ntmps104
  go_wp2_with (first
    | refine wpList_load_all (by rfl) 22 _ rfl (w.heap.size + 1 + 1) rfl HU.out HN.out.2.2.2.2.1 Tryz.underlying22 rfl HIA.out ?_)
  revert HN
  generalize World.alloc _ _ = W
  intro HN
  refine (HCB.out W).mono ?_
  rintro e W1 ⟨rfl, hb⟩
  have HW := Lib.hid (HN.out.next hb)
  clear hb HCB HN W
  go_wp2_with (first
    | (refine wpList_store_row rfl 109 _ _ rfl W1.heap.size L rfl rfl _ _ (heap_alloc_new _ _) (HIL.out _ HL.out.1) (by rw [HZL.out, HL.out.1]) HL.out.2.1 ?_
       rw [World.setRow_alloc_new]))
  have hc := HW.out.2.1
  have HLA := Lib.hid ((At.new W1 L 109).alloc (.cells Za 22))
  have hOA := At.new (W1.alloc (.cells L 109)) Za 22
  simp only [World.size_alloc] at hOA
  rw [← HZ0.out (ovS f (bS u))] at hOA
  have HOA := Lib.hid hOA
  have HW2 := Lib.hid ((HW.out.alloc (.cells L 109)).alloc (.cells Za 22))
  clear hOA HW
  rw [← HZ0.out (ovS f (bS u))]
  rw [← HZ0.out (ovS f (bS u))] at HLA HW2
  revert HLA HOA HW2
  generalize World.alloc _ _ = W
  intro HLA HOA HW2
  obtain ⟨c, hcc⟩ : ∃ c, W1.heap.size = c := ⟨_, rfl⟩
  rw [hcc] at HLA HOA hc ⊢
  clear hcc W1
  rw [HZ0.out (ovS f (bS u))] at HW2
  go_loopw [12] (fun i wx => ∃ k : Nat, k ≤ 16 ∧ i = .int .i64 k ∧ Hid (Rn w T V U Za Zr wx) ∧ Hid (At wx c L 109) ∧ Hid (At wx (c + 1) (rowL 16 (ovS f (bS u)) k) 22)) (fun i _ => 16 - (intOf i).toNat)
  case atStart => exact ⟨0, Nat.zero_le _, rfl, HW2, HLA, HOA⟩
  case round =>
    obtain ⟨k, hk, rfl, HW, HLk, HOk⟩ := hrel
    clear HW2 HLA HOA
    by_cases hk16 : k < 16
    · have c0 := HT.out.cell HW.out.2.2.1 k (by omega)
      have c1 := HL.out.cell HLk.out k (by omega)
      have c3 := rowL_cell HOk.out k hk16
      have f3 := HOk.out.frozen k
      obtain ⟨p1, p2⟩ := HR1.out.1 k hk16
      obtain ⟨q1, q2⟩ := ct_bd (bS u k)
      obtain ⟨x, hx⟩ : ∃ x, f k = x := ⟨_, rfl⟩
      obtain ⟨y, hy⟩ : ∃ y, bS u k = y := ⟨_, rfl⟩
      rw [hx] at c0 p1 p2
      rw [hy] at c1 q1 q2
      obtain ⟨y', hy'⟩ : ∃ y', ct y = y' := ⟨_, rfl⟩
      rw [hy'] at q1 q2
      obtain ⟨r, hr⟩ : ∃ r, ct (x + y') = r := ⟨_, rfl⟩
      have HXk := Lib.hid (show ovS f (bS u) k = r by
        unfold ovS
        rw [hx, hy, hy', ← hr]
        congr 1
        congr 1
        unfold ct
        omega)
      have HY := Lib.hid hy'
      have HRr := Lib.hid hr
      have k1 : (k : Int) < 16 := by omega
      have k2 : (k : Int) < 32 := by omega
      have k0 : (0 : Int) ≤ (k : Int) := by omega
      have hs : IntKind.i64.wrap (x + y') = x + y' := IntWalk.i64_in _ (by omega)
      clear hx hy hy' hr
      go_wp2_with fail
      go_region_held3 (fun w' => w'.cell? ⟨w.heap.size, k, none⟩ = some (.int .i64 x) ∧ w'.cell? ⟨c, k, none⟩ = some (.int .i64 y)) (first | assumption | exact ⟨c0, c1⟩ | exact cells2 ⟨c0, c1⟩ (by dsimp only; omega) (by dsimp only; omega))
        (first
          | (go_at_call 54; (with_reducible refine (refCut_as y y' _ HY.out).mono ?_); rintro e w' ⟨rfl, rfl⟩)
          | (go_at_call 54; (with_reducible refine (refCut_as (x + y') r _ HRr.out).mono ?_); rintro e w' ⟨rfl, rfl⟩))
      have HW2 := Lib.hid (HW.out.setCell (b := c + 1) (by omega) k (.int .i64 r)).drew
      have HL2 := Lib.hid (At.setCell_other (a := ⟨c + 1, k, none⟩) (v := .int .i64 r) HLk.out (by dsimp only; omega))
      have HO2 := Lib.hid (show At _ (c + 1) (rowL 16 (ovS f (bS u)) (k + 1)) 22 by have := HOk.out.put hk16; rw [HXk.out] at this; exact this)
      go_wp2
      go_roundw
      case rel => exact ⟨k + 1, by omega, by go_num, HW2, HL2, HO2⟩
      case measure => simp [intOf]; omega
    · have e16 : k = 16 := by omega
      have hn16 : ¬ (k : Int) < 16 := by omega
      rw [e16, HOe.out] at HOk
      clear e16 hk hk16
      have c16 := HT.out.cell HW.out.2.2.1 16 (by omega)
      rw [H16.out] at c16
      go_wp2_with (first
        | refine wpList_load_all (by rfl) 22 _ rfl (c + 1) rfl HO.out HOk.out Tryz.underlying22 rfl HIA.out ?_)
      clear hn16 c16
      refine (HCL.out wr).mono ?_
      rintro e W1 ⟨rfl, hb⟩
      have HW1 := Lib.hid (HW.out.next hb)
      have HL1 := Lib.hid (HLk.out.below hb HLk.out.lt)
      have hcd := (HOk.out.below hb HOk.out.lt).lt
      clear hb HCL HW HLk HOk
      have HD1 := Lib.hid (At.new W1 R 22)
      have HW2 := Lib.hid (HW1.out.alloc (.cells R 22))
      have HL2 := Lib.hid (HL1.out.alloc (.cells R 22))
      clear HW1 HL1
      go_wp2_with (first
        | (refine wpList_store_row rfl 22 _ _ rfl W1.heap.size R rfl rfl _ _ (heap_alloc_new _ _) (HIA.out _ HR.out.1) (by rw [HZA.out, HR.out.1]) HR.out.2.1 ?_
           rw [World.setRow_alloc_new]
           revert HD1 HW2 HL2
           generalize hw5 : World.alloc W1 _ = W2
           have hsz := Lib.hid (show W2.heap.size = W1.heap.size + 1 by rw [← hw5]; simp)
           intro HD1 HW2 HL2
           obtain ⟨d, hd⟩ : ∃ d, W1.heap.size = d := ⟨_, rfl⟩
           rw [hd] at hcd HD1 hsz ⊢
           clear hd hw5 W1)
        | refine wpList_load_all (by rfl) 23 _ rfl (w.heap.size + 1) rfl HV.out HW2.out.2.2.2.1 Tryz.underlying23 rfl HI4.out ?_
        | refine wpList_load_all (by rfl) 22 _ rfl (w.heap.size + 1 + 1) rfl HU.out HW2.out.2.2.2.2.1 Tryz.underlying22 rfl HIA.out ?_
        | refine wpList_build_parts (by rfl) 25 [(1, _), (2, _), (3, _), (4, _)] rfl _ rfl HBP.out ?_
        | (refine wpList_store_row rfl 25 _ _ rfl W2.heap.size P rfl rfl _ _ (heap_alloc_new _ _) (HIR.out _ HP.out.1) (by rw [HZR.out, HP.out.1]) HP.out.2.1 ?_
           rw [World.setRow_alloc_new]
           have HE3 := Lib.hid (At.new W2 P 25)
           have HD3 := Lib.hid (HD1.out.alloc (.cells P 25))
           have HW3 := Lib.hid (HW2.out.alloc (.cells P 25))
           have HL3 := Lib.hid (HL2.out.alloc (.cells P 25))
           clear HD1 HW2 HL2
           rw [hsz.out] at HE3 ⊢
           revert HE3 HD3 HW3 HL3
           generalize World.alloc W2 _ = W3
           intro HE3 HD3 HW3 HL3
           clear hsz W2))
      have HR0 := Lib.hid (show IsRow 16 (cuF (lyF f u) 0) R from HR.out.ext fun j _ => by unfold cuF; rw [if_neg (by omega)])
      have HP0 := Lib.hid (show IsRow 38 (mmF u (stF (fun _ => 0) q v u z) 0) P from HP.out.ext fun j _ => (mm_0 u _ j).symm)
      clear HR HP HBP HO HOe
      go_loopw [16] (fun i wx => ∃ (k : Nat) (D E : Array Value), k ≤ 16 ∧ i = .int .i64 k ∧ Hid (Rn w T V U Za Zr wx) ∧ Hid (At wx c L 109) ∧ Hid (At wx d D 22) ∧ Hid (At wx (d + 1) E 25) ∧ Hid (IsRow 16 (cuF (lyF f u) k) D) ∧ Hid (IsRow 38 (mmF u (stF (fun _ => 0) q v u z) k) E)) (fun i _ => 16 - (intOf i).toNat)
      case atStart => exact ⟨0, R, P, Nat.zero_le _, rfl, HW3, HL3, HD3, HE3, HR0, HP0⟩
      case round =>
        obtain ⟨k, D, E, hk, rfl, HW, HLk, HDk, HEk, HDr, HEr⟩ := hrel
        clear HW3 HL3 HD3 HE3 HR0 HP0
        by_cases hk16 : k < 16
        · have c0 := HDr.out.cell HDk.out k hk16
          rw [show cuF (lyF f u) k k = lyF f u k by unfold cuF; rw [if_neg (by omega)]] at c0
          have f0 := HDk.out.frozen k
          obtain ⟨x, hx⟩ : ∃ x, lyF f u k = x := ⟨_, rfl⟩
          obtain ⟨p, hp⟩ : ∃ p, ct16 x = p := ⟨_, rfl⟩
          have HD2 := Lib.hid (cu_set HDr.out hk16 (show ct16 (lyF f u k) = p by rw [hx]; exact hp))
          rw [hx] at c0
          have HPp := Lib.hid hp
          have c1 := HL.out.cell (At.setCell_other (a := ⟨d, k, none⟩) (v := .int .i64 p) HLk.out (by dsimp only; omega)) (16 + k) (by omega)
          obtain ⟨y, hy⟩ : ∃ y, bS u (16 + k) = y := ⟨_, rfl⟩
          obtain ⟨r, hr⟩ : ∃ r, ct y = r := ⟨_, rfl⟩
          have HE2 := Lib.hid (mm_set HEr.out (show k < 38 by omega) (show ct (bS u (16 + k)) = r by rw [hy]; exact hr))
          rw [hy] at c1
          have HRr := Lib.hid hr
          have hE2 := At.setCell_other (a := ⟨d, k, none⟩) (v := .int .i64 p) HEk.out (by dsimp only; omega)
          have c3 := HEr.out.cell hE2 k (by omega)
          have f3 := hE2.frozen k
          have HEn := Lib.hid (hE2.setCell (i := k) (v := .int .i64 r))
          have HWn := Lib.hid ((HW.out.setCell (b := d) (by omega) k (.int .i64 p)).setCell (b := d + 1) (by omega) k (.int .i64 r))
          have HLn := Lib.hid (At.setCell_other (a := ⟨d + 1, k, none⟩) (v := .int .i64 r) (At.setCell_other (a := ⟨d, k, none⟩) (v := .int .i64 p) HLk.out (by dsimp only; omega)) (by dsimp only; omega))
          have HDn := Lib.hid (At.setCell_other (a := ⟨d + 1, k, none⟩) (v := .int .i64 r) (HDk.out.setCell (i := k) (v := .int .i64 p)) (by dsimp only; omega))
          have k1 : (k : Int) < 16 := by omega
          clear hx hp hy hr hE2 HW HLk HDk HEk HDr HEr
          go_wp2_with fail
          refine (Tl.refCut16 x p _ HPp.out).mono ?_
          rintro e w1 ⟨rfl, rfl⟩
          go_wp2_with fail
          refine (refCut_as y r _ HRr.out).mono ?_
          rintro e w1 ⟨rfl, rfl⟩
          go_wp2_with fail
          go_roundw
          case rel => exact ⟨k + 1, _, _, by omega, by go_num, HWn, HLn, HDn, HEn, HD2, HE2⟩
          case measure => simp [intOf]; omega
        · have e16 : k = 16 := by omega
          have hn16 : ¬ (k : Int) < 16 := by omega
          rw [e16] at HDr HEr
          clear e16 hk hk16 HL HIL
          have HDf := Lib.hid (HDr.out.ext (g := soF f u) fun j hj => by unfold cuF; rw [if_pos hj]; rfl)
          have HEf := Lib.hid (HEr.out.ext (g := nxF f v u z) fun j _ => by
            unfold mmF nxF
            by_cases c : j < 16
            · rw [if_pos c, stF_mem _ _ _ _ _ c]
            · rw [if_neg c]; unfold stF; rw [if_neg c, if_neg c, Hq.out])
          clear HDr HEr HLk
          go_wp2_with fail
          have hd5 : w.heap.size + 1 + 1 + 1 + 1 < d := by omega
          refine mv_startS (Rz w T V U D E d) (show Rz w T V U D E d wr.drew from ⟨Za, Zr, HZA.out, HZR.out, HW.out.drew, HDk.out, HEk.out, hd5⟩) fun hS => ?_
          refine mv_yield (i := 0) (d := 65) (.agg D) rfl rfl (by kernel_rfl) (by kernel_rfl) (by kernel_rfl) hS (y_load_part (l := 0) (by rfl) rfl rfl HDf.out (fun w' h => h.atD) HDf.out (by omega) (fun i _ => by rw [Nat.zero_add]) Tryz.underlying22 rfl (HIA.out _ HDf.out.1)) ?_
          simp only [Act.put, List.setIfInBounds_toArray, List.set_cons_zero, List.set_cons_succ]
          refine mv_yield (i := 1) (d := 66) (.agg E) rfl rfl (by kernel_rfl) (by kernel_rfl) (by kernel_rfl) hS (y_load_part (l := 0) (by rfl) rfl rfl HEf.out (fun w' h => h.atE) HEf.out (by omega) (fun i _ => by rw [Nat.zero_add]) Tryz.underlying25 rfl (HIR.out _ HEf.out.1)) ?_
          simp only [Act.put, List.setIfInBounds_toArray, List.set_cons_zero, List.set_cons_succ]
          have n1 := HW.out.drew
          refine mv_ready [2] (by kernel_rfl) (by simp) (ar_store (i := 2) (w.heap.size + 1 + 1 + 1) D Za rfl rfl (by rfl) rfl rfl rfl n1.2.2.2.2.2.1 (by rw [HZA.out, HDf.out.1]) HDf.out.2.1 (HIA.out _ HDf.out.1) (show Rz w T V U D E d _ from ⟨D, Zr, HDf.out.1, HZR.out, n1.setA D, (HDk.out : At wr.drew d D _).setRow_other (by omega), (HEk.out : At wr.drew (d + 1) E _).setRow_other (by omega), hd5⟩) (fun _ => ?_) AllReadyH.nil)
          have n2 := n1.setA D
          have r2 := (HDk.out : At wr.drew d D _).setRow_other (C := D) (show d ≠ w.heap.size + 1 + 1 + 1 by omega)
          have s2 := (HEk.out : At wr.drew (d + 1) E _).setRow_other (C := D) (show d + 1 ≠ w.heap.size + 1 + 1 + 1 by omega)
          refine mv_ready [3] (by kernel_rfl) (by simp) (ar_store (i := 3) (w.heap.size + 1 + 1 + 1 + 1) E Zr rfl rfl (by rfl) rfl rfl rfl n2.2.2.2.2.2.2 (by rw [HZR.out, HEf.out.1]) HEf.out.2.1 (HIR.out _ HEf.out.1) (show Rz w T V U D E d _ from ⟨D, E, HDf.out.1, HEf.out.1, n2.setB E, r2.setRow_other (by omega), s2.setRow_other (by omega), hd5⟩) (fun _ => ?_) AllReadyH.nil)
          have HFN := Lib.hid (n2.setB E)
          refine mv_done (by kernel_rfl) ?_
          go_wp2_with fail
          exact bodyPost_ret (v := .tuple #[.agg D, .agg E]) (results_any_two rfl _ _ (w.heap.size + 1 + 1 + 1) (w.heap.size + 1 + 1 + 1 + 1) D E _ _ rfl rfl HFN.out.2.2.2.2.2.1 HFN.out.2.2.2.2.2.2 Tryz.underlying22 rfl (HIA.out _ HDf.out.1) Tryz.underlying25 rfl (HIR.out _ HEf.out.1)) rfl ⟨⟨D, E, rfl, HDf.out, HEf.out⟩, HFN.out.1⟩
end Go.Proofs.YtfohinlldchdpaaGreatDoor.Sta
end
