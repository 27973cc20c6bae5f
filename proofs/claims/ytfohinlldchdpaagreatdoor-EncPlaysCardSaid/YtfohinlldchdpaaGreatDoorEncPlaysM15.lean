/- Texts of the walk, one behind the other. -/
import Derived.Test.YtfohinlldchdpaaGreatDoorEncPlaysM12
import Derived.Test.YtfohinlldchdpaaGreatDoorEncPlaysM13
import Derived.RangeFuncCalls
import Derived.RangeFuncBound
import Derived.Shelf.RegionOpen
import Derived.OwnWalkIn
import Derived.TacticsInMore
import Derived.LoopIn
import Derived.Deep.DeepCutAuto
import Derived.Test.YtfohinlldchdpaaGreatDoorEncPlaysM1
import Derived.Test.YtfohinlldchdpaaGreatDoorEncPlaysM14

section
/- Contract of lapl's cells: it hands over the numbers with their cells. -/
set_option maxRecDepth 100000
set_option linter.unusedVariables false
namespace Go.Proofs.YtfohinlldchdpaaGreatDoor.Lp
open Go.RowKit Go.Proofs.YtfohinlldchdpaaGreatDoor.Row Go.Proofs.YtfohinlldchdpaaGreatDoor.Rf Go.Shelf
attribute [local go_sem] Oper.semAt_some

/-- The number at place i of the order, with its cell, as it is handed over. -/
def cE (i : Nat) : Array Value := #[.int .i64 (vI i), .agg #[.int .i64 (sI i), .int .i64 (wI i)]]

theorem enter_wide : ∀ args w, (callFunc 195 args).run Tryz.prog w = .ok (.enter 195 args) w := fun args w => run_enter Tryz.func195 (by kernel_rfl) rfl args w

set_option maxHeartbeats 2000000 in
theorem cells_yields (n : Nat) : Hands n Tryz.prog 158 49 cE := fun l J Jx W hJ hJx hY h0 => by
  refine callsIn_of_wp Tryz.func158 rfl trivial ?_ rfl
  simp only [Tryz.ntmps158, List.size_toArray, List.length_cons, List.length_nil, Nat.reduceAdd, Nat.reduceSub, Array.replicate_succ, Array.replicate_zero, List.push_toArray, List.append_toArray, List.nil_append, List.cons_append]
  have hJ1 : J 0 (W.alloc (.cells #[.int .i64 0, .int .i64 12568] 193)) := (hJ 0).alloc _ h0
  have A1 : At (W.alloc (.cells #[.int .i64 0, .int .i64 12568] 193)) W.heap.size #[.int .i64 0, .int .i64 12568] 193 := At.new _ _ _
  have HA1 := Lib.hid A1
  have HY := Lib.hid hY
  have HJ := Lib.hid hJ
  obtain ⟨f1, t1, a1, b1, hy1, hR1⟩ := hY 0 _ (by omega) hJ1
  rw [show cE 0 = #[.int .i64 0, .agg #[.int .i64 0, .int .i64 12568]] from rfl] at hy1
  have HR1 := Lib.hid hR1
  clear hR1 hY A1 hJ hJ1 h0
  gi_wp2_with fail
  refine ⟨trivial, (fun h => nomatch h), (callsIn_wide.2 (left_as _)).mono ?_⟩
  rintro e w' ⟨rfl, rfl⟩
  gi_wp2_with fail
  refine ⟨(fun h => nomatch h), HR1.out.mono ?_⟩
  rintro e W2 (⟨rfl, hJ2, hk2⟩ | ⟨rfl, hx2⟩)
  · have A2 := Lib.hid (hk2.at HA1.out (Nat.le_refl _))
    have J2 := Lib.hid hJ2
    clear hk2 HA1 HR1 hy1 hJ2
    gi_wp2
    gi_loopw [3] (fun z wr => ∃ k : Nat, 1 ≤ k ∧ k ≤ 25 ∧ z = .int .i64 k ∧ Hid (J (2 * k - 1) wr ∧ At wr W.heap.size #[.int .i64 (sI (2 * k - 2)), .int .i64 (wI (2 * k - 2))] 193)) (fun z _ => 100 - (intOf z).toNat)
    case atStart => exact ⟨1, by omega, by omega, rfl, Lib.hid ⟨J2.out, A2.out⟩⟩
    case round =>
      obtain ⟨k, hk1, hk2, rfl, hK⟩ := hrel
      clear J2 A2
      by_cases hk : k ≤ 24
      · have hd : decide ((k : Int) ≤ 24) = true := by simp; omega
        gi_wp2
        clear hd
        gi_loopw [20] (fun z wr => ∃ j : Nat, j ≤ 2 ∧ z = .int .i64 j ∧ Hid (J (2 * k - 1 + j) wr ∧ At wr W.heap.size #[.int .i64 (sI (2 * k - 2 + j)), .int .i64 (wI (2 * k - 2 + j))] 193)) (fun z _ => 100 - (intOf z).toNat)
        case atStart => exact ⟨0, by omega, rfl, hK⟩
        case round =>
          obtain ⟨j, hj, rfl, hK2⟩ := hrel
          clear hK
          obtain rfl | rfl | rfl : j = 0 ∨ j = 1 ∨ j = 2 := by omega
          · obtain ⟨x, hx⟩ : ∃ x, sI (2 * k - 2 + 0) = x := ⟨_, rfl⟩
            obtain ⟨y, hy⟩ : ∃ y, wI (2 * k - 2 + 0) = y := ⟨_, rfl⟩
            obtain ⟨u, hu⟩ : ∃ u, wd k = u := ⟨_, rfl⟩
            have hxy : x + y ≤ 32768 := by rw [← hx, ← hy]; exact sw_le (by omega)
            have HN := Lib.hid (show cE (2 * k - 1 + 0) = #[.int .i64 (k), .agg #[.int .i64 (x + y : Int), .int .i64 u]] ∧ sI (2 * k - 2 + (0 + 1)) = x + y ∧ wI (2 * k - 2 + (0 + 1)) = u from by
              have e1 : 2 * k - 1 + 0 = 2 * k - 2 + 0 + 1 := by omega
              have e2 : nI (2 * k - 1 + 0) = k := by unfold nI; omega
              have e3 : vI (2 * k - 1 + 0) = k := by unfold vI; rw [e2]; rw [if_pos (by omega)]
              have e4 : sI (2 * k - 1 + 0) = x + y := by rw [e1]; show sI (2 * k - 2 + 0) + wI (2 * k - 2 + 0) = x + y; rw [hx, hy]
              have e5 : wI (2 * k - 1 + 0) = u := by unfold wI; rw [e2, hu]
              have e6 : 2 * k - 2 + (0 + 1) = 2 * k - 1 + 0 := by omega
              refine ⟨?_, by rw [e6, e4], by rw [e6, e5]⟩
              unfold cE
              rw [e3, e4, e5]
              simp)
            rw [hx, hy] at hK2
            have HU := Lib.hid hu
            have hidx : ∀ w, (Instr.index 225 (.agg #[.int .i64 (k : Int), .int .i64 (-(k : Int))]) (.int .i64 0)).run Tryz.prog w = .ok (.int .i64 (k)) w := fun w => Row.run_index (m := 2) (k := 0) Tryz.underlying225 (by omega) rfl w
            have CC := Lib.hid (And.intro (show wr.cell? ⟨W.heap.size, 0, none⟩ = some (.int .i64 x) by rw [hK2.out.2.cell]; rfl) (show wr.cell? ⟨W.heap.size, 1, none⟩ = some (.int .i64 y) by rw [hK2.out.2.cell]; rfl))
            have AD := Lib.hid (show At wr.drew W.heap.size #[.int .i64 x, .int .i64 y] 193 from hK2.out.2.below (Below.refl wr.heap.size wr).drew hK2.out.2.lt)
            have JD := Lib.hid (show J (2 * k - 1 + 0) wr.drew from HJ.out _ wr wr.drew none hK2.out.1 ⟨rfl, rfl, rfl, Nat.le_refl _, fun _ _ _ => rfl⟩ fun r e => by cases e)
            clear hx hy hu hK2
            gi_wp2
            refine wpIn_wide.2 ?_
            refine mf_start (fun w' => w' = wr.drew) (fun j => j == 8) rfl fun hS => ?_
            refine mf_yield (i := 0) (d := 23) (.pointer (some ⟨W.heap.size, 0, none⟩)) rfl rfl (by kernel_rfl) (by kernel_rfl) (by kernel_rfl) (by kernel_rfl) hS (y_run (by rfl) fun _ => by rfl) ?_
            simp only [Act.put, List.setIfInBounds_toArray, List.set_cons_zero, List.set_cons_succ]
            refine mf_yield (i := 1) (d := 24) (.int .i64 x) rfl rfl (by kernel_rfl) (by kernel_rfl) (by kernel_rfl) (by kernel_rfl) hS (y_cellS (by rfl) rfl rfl fun w h => by rw [h]; exact CC.out.1) ?_
            simp only [Act.put, List.setIfInBounds_toArray, List.set_cons_zero, List.set_cons_succ]
            refine mf_yield (i := 2) (d := 25) (.pointer (some ⟨W.heap.size, 1, none⟩)) rfl rfl (by kernel_rfl) (by kernel_rfl) (by kernel_rfl) (by kernel_rfl) hS (y_run (by rfl) fun _ => by rfl) ?_
            simp only [Act.put, List.setIfInBounds_toArray, List.set_cons_zero, List.set_cons_succ]
            refine mf_yield (i := 3) (d := 26) (.int .i64 y) rfl rfl (by kernel_rfl) (by kernel_rfl) (by kernel_rfl) (by kernel_rfl) hS (y_cellS (by rfl) rfl rfl fun w h => by rw [h]; exact CC.out.2) ?_
            simp only [Act.put, List.setIfInBounds_toArray, List.set_cons_zero, List.set_cons_succ]
            refine mf_yield (i := 4) (d := 27) (.int .i64 (x + y : Int)) rfl rfl (by kernel_rfl) (by kernel_rfl) (by kernel_rfl) (by kernel_rfl) hS (y_add (by rfl) rfl rfl rfl (IntWalk.i64_in _ (by omega))) ?_
            simp only [Act.put, List.setIfInBounds_toArray, List.set_cons_zero, List.set_cons_succ]
            refine mf_yield (i := 5) (d := 28) (.int .i64 k) rfl rfl (by kernel_rfl) (by kernel_rfl) (by kernel_rfl) (by kernel_rfl) hS (y_run (by rfl) fun _ => by rfl) ?_
            simp only [Act.put, List.setIfInBounds_toArray, List.set_cons_zero, List.set_cons_succ]
            refine mf_ready [6] (by kernel_rfl) (by simp) (af_call (i := 6) (d := 29) (R := fun v w' => v = .int .i64 u ∧ wr.drew = w') #[.int .i64 k] rfl rfl (by rfl) rfl enter_wide (by kernel_rfl) ((wide_as k _ u _ rfl hk1 hk HU.out).mono fun e w' h => ⟨_, h.1, rfl, h.2⟩) (fun v w' h => h.2.symm) ?_ AllReadyF.nil)
            rintro v w' ⟨rfl, rfl⟩ hS
            simp only [Act.put, List.setIfInBounds_toArray, List.set_cons_zero, List.set_cons_succ]
            refine mf_yield (i := 7) (d := 30) (.agg #[.int .i64 (x + y : Int), .int .i64 u]) rfl rfl (by kernel_rfl) (by kernel_rfl) (by kernel_rfl) (by kernel_rfl) hS (y_build (by rfl) rfl (by kernel_rfl)) ?_
            simp only [Act.put, List.setIfInBounds_toArray, List.set_cons_zero, List.set_cons_succ]
            refine mf_ready [8] (by kernel_rfl) (by simp) (af_store (i := 8) W.heap.size #[.int .i64 (x + y : Int), .int .i64 u] #[.int .i64 x, .int .i64 y] rfl rfl (by rfl) rfl rfl rfl rfl AD.out (by kernel_rfl) (by kernel_rfl) (by kernel_rfl) ?_ AllReadyF.nil)
            refine mf_done (by kernel_rfl) ?_
            clear hS hidx CC
            have hJ3 : J (2 * k - 1 + 0) (wr.drew.setRow W.heap.size #[.int .i64 (x + y : Int), .int .i64 u]) := (HJ.out _).setRow (Nat.le_refl _) _ JD.out
            have A3 : At (wr.drew.setRow W.heap.size #[.int .i64 (x + y : Int), .int .i64 u]) W.heap.size #[.int .i64 (x + y : Int), .int .i64 u] 193 := AD.out.setRow
            obtain ⟨W3, hW3⟩ : ∃ W3, wr.drew.setRow W.heap.size #[.int .i64 (x + y : Int), .int .i64 u] = W3 := ⟨_, rfl⟩
            rw [hW3] at hJ3 A3 ⊢
            obtain ⟨f1, t1, a1, b1, hy1, hR1⟩ := HY.out (2 * k - 1 + 0) W3 (by omega) hJ3
            rw [HN.out.1] at hy1
            have HR1 := Lib.hid hR1
            have HA3 := Lib.hid A3
            have l0 : W3.cell? ⟨W.heap.size, 0, none⟩ = some (.int .i64 (x + y : Int)) := by rw [A3.cell]; rfl
            have l1 : W3.cell? ⟨W.heap.size, 1, none⟩ = some (.int .i64 u) := by rw [A3.cell]; rfl
            clear hR1 A3 hJ3 hW3
            gi_wp2_with fail
            refine ⟨(fun h => nomatch h), HR1.out.mono ?_⟩
            rintro e W4 (⟨rfl, hJ4, hk4⟩ | ⟨rfl, hx4⟩)
            · have HK4 := Lib.hid (And.intro hJ4 (hk4.at HA3.out (Nat.le_refl _)))
              clear hJ4 hk4 HA3 HR1 hy1 l0 l1
              gi_wp2
              go_roundw
              case rel => exact ⟨0 + 1, by omega, by go_num, Lib.hid ⟨HK4.out.1, by rw [HN.out.2.1, HN.out.2.2]; exact HK4.out.2⟩⟩
              case measure => simp [intOf]
            · gi_wp2
              refine bodyPost_ret (results_none rfl _ _ _) rfl ?_
              exact ⟨⟨_, rfl⟩, .inr hx4⟩
          · obtain ⟨x, hx⟩ : ∃ x, sI (2 * k - 2 + 1) = x := ⟨_, rfl⟩
            obtain ⟨y, hy⟩ : ∃ y, wI (2 * k - 2 + 1) = y := ⟨_, rfl⟩
            obtain ⟨u, hu⟩ : ∃ u, wd k = u := ⟨_, rfl⟩
            have hxy : x + y ≤ 32768 := by rw [← hx, ← hy]; exact sw_le (by omega)
            have HN := Lib.hid (show cE (2 * k - 1 + 1) = #[.int .i64 (-k), .agg #[.int .i64 (x + y : Int), .int .i64 u]] ∧ sI (2 * k - 2 + (1 + 1)) = x + y ∧ wI (2 * k - 2 + (1 + 1)) = u from by
              have e1 : 2 * k - 1 + 1 = 2 * k - 2 + 1 + 1 := by omega
              have e2 : nI (2 * k - 1 + 1) = k := by unfold nI; omega
              have e3 : vI (2 * k - 1 + 1) = -k := by unfold vI; rw [e2]; rw [if_neg (by omega)]
              have e4 : sI (2 * k - 1 + 1) = x + y := by rw [e1]; show sI (2 * k - 2 + 1) + wI (2 * k - 2 + 1) = x + y; rw [hx, hy]
              have e5 : wI (2 * k - 1 + 1) = u := by unfold wI; rw [e2, hu]
              have e6 : 2 * k - 2 + (1 + 1) = 2 * k - 1 + 1 := by omega
              refine ⟨?_, by rw [e6, e4], by rw [e6, e5]⟩
              unfold cE
              rw [e3, e4, e5]
              simp)
            rw [hx, hy] at hK2
            have HU := Lib.hid hu
            have hidx : ∀ w, (Instr.index 225 (.agg #[.int .i64 (k : Int), .int .i64 (-(k : Int))]) (.int .i64 1)).run Tryz.prog w = .ok (.int .i64 (-k)) w := fun w => Row.run_index (m := 2) (k := 1) Tryz.underlying225 (by omega) rfl w
            have CC := Lib.hid (And.intro (show wr.cell? ⟨W.heap.size, 0, none⟩ = some (.int .i64 x) by rw [hK2.out.2.cell]; rfl) (show wr.cell? ⟨W.heap.size, 1, none⟩ = some (.int .i64 y) by rw [hK2.out.2.cell]; rfl))
            have AD := Lib.hid (show At wr.drew W.heap.size #[.int .i64 x, .int .i64 y] 193 from hK2.out.2.below (Below.refl wr.heap.size wr).drew hK2.out.2.lt)
            have JD := Lib.hid (show J (2 * k - 1 + 1) wr.drew from HJ.out _ wr wr.drew none hK2.out.1 ⟨rfl, rfl, rfl, Nat.le_refl _, fun _ _ _ => rfl⟩ fun r e => by cases e)
            clear hx hy hu hK2
            gi_wp2
            refine wpIn_wide.2 ?_
            refine mf_start (fun w' => w' = wr.drew) (fun j => j == 8) rfl fun hS => ?_
            refine mf_yield (i := 0) (d := 23) (.pointer (some ⟨W.heap.size, 0, none⟩)) rfl rfl (by kernel_rfl) (by kernel_rfl) (by kernel_rfl) (by kernel_rfl) hS (y_run (by rfl) fun _ => by rfl) ?_
            simp only [Act.put, List.setIfInBounds_toArray, List.set_cons_zero, List.set_cons_succ]
            refine mf_yield (i := 1) (d := 24) (.int .i64 x) rfl rfl (by kernel_rfl) (by kernel_rfl) (by kernel_rfl) (by kernel_rfl) hS (y_cellS (by rfl) rfl rfl fun w h => by rw [h]; exact CC.out.1) ?_
            simp only [Act.put, List.setIfInBounds_toArray, List.set_cons_zero, List.set_cons_succ]
            refine mf_yield (i := 2) (d := 25) (.pointer (some ⟨W.heap.size, 1, none⟩)) rfl rfl (by kernel_rfl) (by kernel_rfl) (by kernel_rfl) (by kernel_rfl) hS (y_run (by rfl) fun _ => by rfl) ?_
            simp only [Act.put, List.setIfInBounds_toArray, List.set_cons_zero, List.set_cons_succ]
            refine mf_yield (i := 3) (d := 26) (.int .i64 y) rfl rfl (by kernel_rfl) (by kernel_rfl) (by kernel_rfl) (by kernel_rfl) hS (y_cellS (by rfl) rfl rfl fun w h => by rw [h]; exact CC.out.2) ?_
            simp only [Act.put, List.setIfInBounds_toArray, List.set_cons_zero, List.set_cons_succ]
            refine mf_yield (i := 4) (d := 27) (.int .i64 (x + y : Int)) rfl rfl (by kernel_rfl) (by kernel_rfl) (by kernel_rfl) (by kernel_rfl) hS (y_add (by rfl) rfl rfl rfl (IntWalk.i64_in _ (by omega))) ?_
            simp only [Act.put, List.setIfInBounds_toArray, List.set_cons_zero, List.set_cons_succ]
            refine mf_yield (i := 5) (d := 28) (.int .i64 k) rfl rfl (by kernel_rfl) (by kernel_rfl) (by kernel_rfl) (by kernel_rfl) hS (y_run (by rfl) fun _ => by rfl) ?_
            simp only [Act.put, List.setIfInBounds_toArray, List.set_cons_zero, List.set_cons_succ]
            refine mf_ready [6] (by kernel_rfl) (by simp) (af_call (i := 6) (d := 29) (R := fun v w' => v = .int .i64 u ∧ wr.drew = w') #[.int .i64 k] rfl rfl (by rfl) rfl enter_wide (by kernel_rfl) ((wide_as k _ u _ rfl hk1 hk HU.out).mono fun e w' h => ⟨_, h.1, rfl, h.2⟩) (fun v w' h => h.2.symm) ?_ AllReadyF.nil)
            rintro v w' ⟨rfl, rfl⟩ hS
            simp only [Act.put, List.setIfInBounds_toArray, List.set_cons_zero, List.set_cons_succ]
            refine mf_yield (i := 7) (d := 30) (.agg #[.int .i64 (x + y : Int), .int .i64 u]) rfl rfl (by kernel_rfl) (by kernel_rfl) (by kernel_rfl) (by kernel_rfl) hS (y_build (by rfl) rfl (by kernel_rfl)) ?_
            simp only [Act.put, List.setIfInBounds_toArray, List.set_cons_zero, List.set_cons_succ]
            refine mf_ready [8] (by kernel_rfl) (by simp) (af_store (i := 8) W.heap.size #[.int .i64 (x + y : Int), .int .i64 u] #[.int .i64 x, .int .i64 y] rfl rfl (by rfl) rfl rfl rfl rfl AD.out (by kernel_rfl) (by kernel_rfl) (by kernel_rfl) ?_ AllReadyF.nil)
            refine mf_done (by kernel_rfl) ?_
            clear hS hidx CC
            have hJ3 : J (2 * k - 1 + 1) (wr.drew.setRow W.heap.size #[.int .i64 (x + y : Int), .int .i64 u]) := (HJ.out _).setRow (Nat.le_refl _) _ JD.out
            have A3 : At (wr.drew.setRow W.heap.size #[.int .i64 (x + y : Int), .int .i64 u]) W.heap.size #[.int .i64 (x + y : Int), .int .i64 u] 193 := AD.out.setRow
            obtain ⟨W3, hW3⟩ : ∃ W3, wr.drew.setRow W.heap.size #[.int .i64 (x + y : Int), .int .i64 u] = W3 := ⟨_, rfl⟩
            rw [hW3] at hJ3 A3 ⊢
            obtain ⟨f1, t1, a1, b1, hy1, hR1⟩ := HY.out (2 * k - 1 + 1) W3 (by omega) hJ3
            rw [HN.out.1] at hy1
            have HR1 := Lib.hid hR1
            have HA3 := Lib.hid A3
            have l0 : W3.cell? ⟨W.heap.size, 0, none⟩ = some (.int .i64 (x + y : Int)) := by rw [A3.cell]; rfl
            have l1 : W3.cell? ⟨W.heap.size, 1, none⟩ = some (.int .i64 u) := by rw [A3.cell]; rfl
            clear hR1 A3 hJ3 hW3
            gi_wp2_with fail
            refine ⟨(fun h => nomatch h), HR1.out.mono ?_⟩
            rintro e W4 (⟨rfl, hJ4, hk4⟩ | ⟨rfl, hx4⟩)
            · have HK4 := Lib.hid (And.intro hJ4 (hk4.at HA3.out (Nat.le_refl _)))
              clear hJ4 hk4 HA3 HR1 hy1 l0 l1
              gi_wp2
              go_roundw
              case rel => exact ⟨1 + 1, by omega, by go_num, Lib.hid ⟨HK4.out.1, by rw [HN.out.2.1, HN.out.2.2]; exact HK4.out.2⟩⟩
              case measure => simp [intOf]
            · gi_wp2
              refine bodyPost_ret (results_none rfl _ _ _) rfl ?_
              exact ⟨⟨_, rfl⟩, .inr hx4⟩
          · gi_wp2
            exact ⟨⟨k + 1, by omega, by omega, by go_num, by rw [show 2 * (k + 1) - 1 = 2 * k - 1 + 2 by omega, show 2 * (k + 1) - 2 = 2 * k - 2 + 2 by omega]; exact hK2⟩, by simp [intOf]; omega⟩
      · obtain rfl : k = 25 := by omega
        gi_wp2
        go_end0
        exact ⟨⟨_, rfl⟩, .inl hK.out.1⟩
  · gi_wp2
    refine bodyPost_ret (results_none rfl _ _ _) rfl ?_
    exact ⟨⟨_, rfl⟩, .inr hx2⟩
end Go.Proofs.YtfohinlldchdpaaGreatDoor.Lp
end

section
/- Contracts of lapl's Cell, Find. -/
set_option maxRecDepth 100000
set_option linter.unusedVariables false
namespace Go.Proofs.YtfohinlldchdpaaGreatDoor.Lp
open Go.RowKit Go.Proofs.YtfohinlldchdpaaGreatDoor.Row Go.Proofs.YtfohinlldchdpaaGreatDoor.Rf Go.Shelf
attribute [local go_sem] Oper.semAt_some

/-- What a number's cell is answered as. -/
def inB (v : Int) : Bool := decide (-24 ≤ v ∧ v ≤ 24)
def cS (v : Int) : Int := if -24 ≤ v ∧ v ≤ 24 then sI (iV v) else 0
def cW (v : Int) : Int := if -24 ≤ v ∧ v ≤ 24 then wI (iV v) else 0

theorem not_in {v : Int} (h : ∀ j, j < 49 → v ≠ vI j) : ¬ (-24 ≤ v ∧ v ≤ 24) := fun hv => h (iV v) (iV_lt.2 hv) (vI_iV v).symm
theorem is_in {v : Int} {i : Nat} (hi : i < 49) (h : v = vI i) : -24 ≤ v ∧ v ≤ 24 := iV_lt.1 (by rw [h, iV_vI]; exact hi)

/-- The boxes of Cell: its argument and its results. -/
def CBox (w : World) (v : Int) (a b : Int) (r : Bool) (W : World) : Prop :=
  At W w.heap.size #[.int .i64 v] 3 ∧ At W (w.heap.size + 1) #[.int .i64 a] 3 ∧ At W (w.heap.size + 2) #[.int .i64 b] 3 ∧ At W (w.heap.size + 3) #[.bool r] 4 ∧ Below w.heap.size w W
theorem CBox.deaf {w : World} {v a b : Int} {r : Bool} {B : Nat} (hB : w.heap.size + 4 ≤ B) : Deaf B (CBox w v a b r) :=
  (Deaf.at (by omega)).and ((Deaf.at (by omega)).and ((Deaf.at (by omega)).and ((Deaf.at (by omega)).and (Deaf.below (Nat.le_refl _) (by omega)))))

theorem CBox.put {w W : World} {v a b : Int} {r : Bool} (h : CBox w v a b r W) (x y : Int) (t : Bool) :
    CBox w v x y t (((W.setCell ⟨w.heap.size + 1, 0, none⟩ (.int .i64 x)).setCell ⟨w.heap.size + 2, 0, none⟩ (.int .i64 y)).setCell ⟨w.heap.size + 3, 0, none⟩ (.bool t)) := by
  obtain ⟨e0, e1, e2, e3, hb⟩ := h
  refine ⟨((e0.setCell_other ?_).setCell_other ?_).setCell_other ?_, ((e1.setCell).setCell_other ?_).setCell_other ?_, ((e2.setCell_other ?_).setCell).setCell_other ?_, ((e3.setCell_other ?_).setCell_other ?_).setCell, ?_⟩
  all_goals first | (dsimp only; omega) | skip
  exact ((((hb.setCell (p := ⟨w.heap.size + 1, 0, none⟩) (by dsimp only; omega) _).setCell (p := ⟨w.heap.size + 2, 0, none⟩) (by dsimp only; omega) _).setCell (p := ⟨w.heap.size + 3, 0, none⟩) (by dsimp only; omega) _))
theorem CBox.drew {w W : World} {v a b : Int} {r : Bool} (h : CBox w v a b r W) : CBox w v a b r W.drew := ⟨h.1, h.2.1, h.2.2.1, h.2.2.2.1, h.2.2.2.2.drew⟩
theorem CBox.cells {w W : World} {v a b : Int} {r : Bool} (h : CBox w v a b r W) : (W.cell? ⟨w.heap.size + 1, 0, none⟩ = some (.int .i64 a) ∧ W.cell? ⟨w.heap.size + 1 + 1, 0, none⟩ = some (.int .i64 b) ∧ W.cell? ⟨w.heap.size + 1 + 1 + 1, 0, none⟩ = some (.bool r)) ∧ W.frozen? ⟨w.heap.size + 1, 0, none⟩ = false ∧ W.frozen? ⟨w.heap.size + 1 + 1, 0, none⟩ = false ∧ W.frozen? ⟨w.heap.size + 1 + 1 + 1, 0, none⟩ = false :=
  ⟨⟨h.2.1.cell 0, h.2.2.1.cell 0, h.2.2.2.1.cell 0⟩, h.2.1.frozen 0, h.2.2.1.frozen 0, h.2.2.2.1.frozen 0⟩

set_option maxHeartbeats 2000000 in
theorem cell_any (v : Int) (w : World) :
    Calls Tryz.prog 114 #[.int .i64 v] w fun e w' => e = .returned (.tuple #[.int .i64 (cS v), .int .i64 (cW v), .bool (inB v)]) ∧ Below w.heap.size w w' := by
  refine (callsIn_wide (n := 9)).1 (callsIn_of_wp_marks Tryz.func114 rfl trivial ?_ rfl)
  simp only [Tryz.ntmps114, List.size_toArray, List.length_cons, List.length_nil, Nat.reduceAdd, Nat.reduceSub, Array.replicate_succ, Array.replicate_zero, List.push_toArray, List.append_toArray, List.nil_append, List.cons_append]
  gi_wp2
  have b0 : CBox w v 0 0 false ((((w.alloc (.cells #[.int .i64 v] 3)).alloc (.cells #[.int .i64 0] 3)).alloc (.cells #[.int .i64 0] 3)).alloc (.cells #[.bool false] 4)) := by
    have a0 := At.new w #[.int .i64 v] 3
    have a1 := At.new (w.alloc (.cells #[.int .i64 v] 3)) #[.int .i64 0] 3
    have a2 := At.new ((w.alloc (.cells #[.int .i64 v] 3)).alloc (.cells #[.int .i64 0] 3)) #[.int .i64 0] 3
    have a3 := At.new (((w.alloc (.cells #[.int .i64 v] 3)).alloc (.cells #[.int .i64 0] 3)).alloc (.cells #[.int .i64 0] 3)) #[.bool false] 4
    simp only [World.size_alloc] at a1 a2 a3
    exact ⟨((a0.alloc _).alloc _).alloc _, (a1.alloc _).alloc _, a2.alloc _, a3, (((((Below.refl _ w).alloc (Nat.le_refl _) _).alloc (by simp) _).alloc (by simp; omega) _).alloc (by simp; omega) _)⟩
  obtain ⟨W0, hW0⟩ : ∃ W0, (((w.alloc (.cells #[.int .i64 v] 3)).alloc (.cells #[.int .i64 0] 3)).alloc (.cells #[.int .i64 0] 3)).alloc (.cells #[.bool false] 4) = W0 := ⟨_, rfl⟩
  have hsz : W0.heap.size = w.heap.size + 4 := by rw [← hW0]; simp
  rw [hW0] at b0 ⊢
  clear hW0
  refine range_over (gf := 158) rfl (enters_of Tryz.func158 (by kernel_rfl) rfl) (cells_yields _) (fun _ => rfl)
    (fun i W => (∀ j, j < i → v ≠ vI j) ∧ CBox w v 0 0 false W) (fun W => (-24 ≤ v ∧ v ≤ 24) ∧ CBox w v (cS v) (cW v) true W)
    (fun i => (Deaf.const _ _).and (CBox.deaf (by omega))) ((Deaf.const _ _).and (CBox.deaf (by omega))) ⟨fun j hj => absurd hj (Nat.not_lt_zero j), b0⟩
    (fun i a' W => ∃ Bx, W0.heap.size + 2 ≤ Bx ∧ At W Bx #[.int .i64 (sI i), .int .i64 (wI i)] 193 ∧ a' = { tmps := #[.int .i64 v, .pointer (some ⟨w.heap.size, 0, none⟩), .pointer (some ⟨w.heap.size + 1, 0, none⟩), .pointer (some ⟨w.heap.size + 2, 0, none⟩), .pointer (some ⟨w.heap.size + 3, 0, none⟩), .int .i64 (vI i), .pointer (some ⟨Bx, 0, none⟩), .int .i64 (vI i), .agg #[.int .i64 (sI i), .int .i64 (wI i)], undef, undef, undef, undef, undef, undef, undef], defers := [] })
    (fun i a' W W' ⟨Bx, h1, h2, h3⟩ hk => ⟨Bx, h1, hk.at h2 h1, h3⟩) ?assign ?body ?done ?stop
  case assign =>
    rintro l i W K hi ⟨hj, hb⟩ hW hK
    unfold cE
    gi_wp2
    exact hK _ _ (Kept.alloc _ _ _) ⟨hj, (CBox.deaf (B := W0.heap.size) (by omega)).alloc _ hb⟩ ⟨W.heap.size, hW, At.new _ _ _, rfl⟩
  case body =>
    rintro l i a' W hi ⟨hj, hb⟩ ⟨Bx, hBx, hA, rfl⟩
    obtain ⟨x, hx⟩ : ∃ x : Int, (sI i : Int) = x := ⟨_, rfl⟩
    obtain ⟨y, hy⟩ : ∃ y : Int, (wI i : Int) = y := ⟨_, rfl⟩
    obtain ⟨z, hz⟩ : ∃ z : Int, vI i = z := ⟨_, rfl⟩
    rw [hx, hy] at hA
    rw [hx, hy, hz]
    have HB := Lib.hid hb
    have HA := Lib.hid hA
    have HJ := Lib.hid hj
    have HX := Lib.hid (And.intro hx (And.intro hy hz))
    obtain ⟨e0, e1, e2, e3, _⟩ := hb
    have c0 : W.cell? ⟨w.heap.size, 0, none⟩ = some (.int .i64 v) := by rw [e0.cell]; rfl
    have c1 : W.cell? ⟨w.heap.size + 1, 0, none⟩ = some (.int .i64 0) := by rw [e1.cell]; rfl
    have c2 : W.cell? ⟨w.heap.size + 2, 0, none⟩ = some (.int .i64 0) := by rw [e2.cell]; rfl
    have c3 : W.cell? ⟨w.heap.size + 3, 0, none⟩ = some (.bool false) := by rw [e3.cell]; rfl
    have f1 := e1.frozen 0
    have f2 := e2.frozen 0
    have f3 := e3.frozen 0
    have l0 : W.cell? ⟨Bx, 0, none⟩ = some (.int .i64 x) := by rw [hA.cell]; rfl
    have l1 : W.cell? ⟨Bx, 1, none⟩ = some (.int .i64 y) := by rw [hA.cell]; rfl
    clear e0 e1 e2 e3 hA hx hy hz hj
    by_cases hv : z = v
    · have hd : (z == v) = true := by simp [hv]
      subst hv
      obtain ⟨hx, hy, hz⟩ := HX.out
      have hin := is_in hi hz.symm
      have hi2 : iV z = i := by rw [← hz, iV_vI]
      have HF := Lib.hid (show Kept W0.heap.size W (((W.setCell ⟨w.heap.size + 1, 0, none⟩ (.int .i64 x)).setCell ⟨w.heap.size + 2, 0, none⟩ (.int .i64 y)).setCell ⟨w.heap.size + 3, 0, none⟩ (.bool true)).drew ∧ (-24 ≤ z ∧ z ≤ 24) ∧ CBox w z (cS z) (cW z) true (((W.setCell ⟨w.heap.size + 1, 0, none⟩ (.int .i64 x)).setCell ⟨w.heap.size + 2, 0, none⟩ (.int .i64 y)).setCell ⟨w.heap.size + 3, 0, none⟩ (.bool true)).drew from by
        refine ⟨(((Kept.setCell W (p := ⟨w.heap.size + 1, 0, none⟩) (by dsimp only; omega) _).trans (Kept.setCell _ (p := ⟨w.heap.size + 2, 0, none⟩) (by dsimp only; omega) _)).trans (Kept.setCell _ (p := ⟨w.heap.size + 3, 0, none⟩) (by dsimp only; omega) _)).trans (Kept.drew _ _), hin, ?_⟩
        rw [show cS z = x by unfold cS; rw [if_pos hin, hi2, hx], show cW z = y by unfold cW; rw [if_pos hin, hi2, hy]]
        exact (HB.out.put x y true).drew)
      clear hin hi2 hx hy hz
      gi_wp2
      gi_region
      all_goals
        gi_wp2
        exact HF.out
    · have hd : (z == v) = false := by simp [hv]
      gi_wp2
      refine ⟨Kept.refl _ _, fun j hj => ?_, HB.out⟩
      rcases Nat.lt_succ_iff_lt_or_eq.1 hj with h | rfl
      · exact HJ.out j h
      · rw [HX.out.2.2]; exact fun e => hv e.symm
  case done =>
    rintro D W hD ⟨hj, hb⟩ hK
    have hn := not_in hj
    obtain ⟨⟨c1, c2, c3⟩, f1, f2, f3⟩ := hb.cells
    have hp := hb.put 0 0 false
    obtain ⟨V, hV⟩ : ∃ V, ((W.setCell ⟨w.heap.size + 1, 0, none⟩ (.int .i64 0)).setCell ⟨w.heap.size + 1 + 1, 0, none⟩ (.int .i64 0)).setCell ⟨w.heap.size + 1 + 1 + 1, 0, none⟩ (.bool false) = V := ⟨_, rfl⟩
    have hKV : V.heap[D]? = some (.deferred (some [])) := by
      rw [← hV]
      exact (heap_setCell_other _ _ _ _ (by dsimp only; omega)).trans ((heap_setCell_other _ _ _ _ (by dsimp only; omega)).trans ((heap_setCell_other _ _ _ _ (by dsimp only; omega)).trans hK))
    have hpV : CBox w v 0 0 false V := by rw [← hV]; exact hp
    have HF := Lib.hid (And.intro hKV ((CBox.deaf (B := W0.heap.size) (by omega)).put hD (.deferred none) hpV))
    clear hp hKV hpV hj hK
    gi_wp2
    obtain ⟨hKV, hF⟩ := HF.out
    refine ⟨by simp, .inl ⟨_, _, rfl, run_takeDeferred hKV, ?_⟩⟩
    obtain ⟨⟨d1, d2, d3⟩, _⟩ := hF.cells
    refine ⟨.tuple #[.int .i64 0, .int .i64 0, .bool false], ?_, ?_, hF.2.2.2.2⟩
    · simp [results, Tryz.f114, go_sem, d1, d2, d3]
    · rw [show cS v = 0 by unfold cS; rw [if_neg hn], show cW v = 0 by unfold cW; rw [if_neg hn], show inB v = false by unfold inB; simpa using hn]
  case stop =>
    rintro D W hD ⟨hin, hb⟩ hK
    have hF := (CBox.deaf (B := W0.heap.size) (by omega)).put hD (.deferred none) hb
    gi_wp2
    refine ⟨by simp, .inl ⟨_, _, rfl, run_takeDeferred hK, ?_⟩⟩
    obtain ⟨⟨d1, d2, d3⟩, _⟩ := hF.cells
    refine ⟨.tuple #[.int .i64 (cS v), .int .i64 (cW v), .bool true], ?_, ?_, hF.2.2.2.2⟩
    · simp [results, Tryz.f114, go_sem, d1, d2, d3]
    · rw [show inB v = true by unfold inB; simpa using hin]

/-- Whose cell a place lies in, as it is answered. -/
def fB (p : Int) : Bool := decide (0 ≤ p ∧ p < 32768)
def fV (p : Int) : Int := if 0 ≤ p ∧ p < 32768 then vI (fI p.toNat) else 0
theorem find_end {p : Int} (h : ∀ j, j < 49 → ((sI j + wI j : Nat) : Int) ≤ p) : ¬ (0 ≤ p ∧ p < 32768) := by
  have h1 := h 48 (by omega)
  have h2 : sI 48 + wI 48 = 32768 := by decide +kernel
  rw [h2] at h1
  omega
theorem find_hit {p : Int} {i : Nat} (hi : i < 49) (h0 : 0 ≤ p) (h : ∀ j, j < i → ((sI j + wI j : Nat) : Int) ≤ p) (hp : p < ((sI i + wI i : Nat) : Int)) : (0 ≤ p ∧ p < 32768) ∧ fV p = vI i := by
  have h1 := sw_le hi
  have h2 : 0 ≤ p ∧ p < 32768 := by omega
  refine ⟨h2, ?_⟩
  unfold fV
  rw [if_pos h2, fI_eq hi ?_ (by omega)]
  cases i with
  | zero => exact Nat.zero_le _
  | succ j =>
    have h3 := h j (by omega)
    show sI j + wI j ≤ _
    omega

/-- The boxes of Find: its argument and its results. -/
def FBox (w : World) (p : Int) (a : Int) (r : Bool) (W : World) : Prop :=
  At W w.heap.size #[.int .i64 p] 3 ∧ At W (w.heap.size + 1) #[.int .i64 a] 3 ∧ At W (w.heap.size + 2) #[.bool r] 4 ∧ Below w.heap.size w W
theorem FBox.deaf {w : World} {p a : Int} {r : Bool} {B : Nat} (hB : w.heap.size + 3 ≤ B) : Deaf B (FBox w p a r) :=
  (Deaf.at (by omega)).and ((Deaf.at (by omega)).and ((Deaf.at (by omega)).and (Deaf.below (Nat.le_refl _) (by omega))))
theorem FBox.put {w W : World} {p a : Int} {r : Bool} (h : FBox w p a r W) (x : Int) (t : Bool) :
    FBox w p x t ((W.setCell ⟨w.heap.size + 1, 0, none⟩ (.int .i64 x)).setCell ⟨w.heap.size + 2, 0, none⟩ (.bool t)) := by
  obtain ⟨e0, e1, e2, hb⟩ := h
  refine ⟨(e0.setCell_other ?_).setCell_other ?_, (e1.setCell).setCell_other ?_, (e2.setCell_other ?_).setCell, ?_⟩
  all_goals first | (dsimp only; omega) | skip
  exact (hb.setCell (p := ⟨w.heap.size + 1, 0, none⟩) (by dsimp only; omega) _).setCell (p := ⟨w.heap.size + 2, 0, none⟩) (by dsimp only; omega) _
theorem FBox.cells {w W : World} {p a : Int} {r : Bool} (h : FBox w p a r W) : (W.cell? ⟨w.heap.size + 1, 0, none⟩ = some (.int .i64 a) ∧ W.cell? ⟨w.heap.size + 1 + 1, 0, none⟩ = some (.bool r)) ∧ W.frozen? ⟨w.heap.size + 1, 0, none⟩ = false ∧ W.frozen? ⟨w.heap.size + 1 + 1, 0, none⟩ = false :=
  ⟨⟨h.2.1.cell 0, h.2.2.1.cell 0⟩, h.2.1.frozen 0, h.2.2.1.frozen 0⟩

set_option maxHeartbeats 2000000 in
theorem find_any (p : Int) (w : World) :
    Calls Tryz.prog 184 #[.int .i64 p] w fun e w' => e = .returned (.tuple #[.int .i64 (fV p), .bool (fB p)]) ∧ Below w.heap.size w w' := by
  have b0 : FBox w p 0 false (((w.alloc (.cells #[.int .i64 p] 3)).alloc (.cells #[.int .i64 0] 3)).alloc (.cells #[.bool false] 4)) := by
    have a0 := At.new w #[.int .i64 p] 3
    have a1 := At.new (w.alloc (.cells #[.int .i64 p] 3)) #[.int .i64 0] 3
    have a2 := At.new ((w.alloc (.cells #[.int .i64 p] 3)).alloc (.cells #[.int .i64 0] 3)) #[.bool false] 4
    simp only [World.size_alloc] at a1 a2
    exact ⟨(a0.alloc _).alloc _, a1.alloc _, a2, ((((Below.refl _ w).alloc (Nat.le_refl _) _).alloc (by simp) _).alloc (by simp; omega) _)⟩
  by_cases hp0 : p < 0
  · have hn : ¬ (0 ≤ p ∧ p < 32768) := by omega
    have HF := Lib.hid b0
    clear b0
    go_enter Tryz.func184, Tryz.ntmps184
    go_wp2
    obtain ⟨⟨d1, d2⟩, _⟩ := HF.out.cells
    refine bodyPost_ret (v := .tuple #[.int .i64 0, .bool false]) ?_ rfl ⟨?_, HF.out.2.2.2⟩
    · simp [results, Tryz.f184, go_sem, d1, d2]
    · rw [show fV p = 0 by unfold fV; rw [if_neg hn], show fB p = false by unfold fB; simpa using hn]
  · refine (callsIn_wide (n := 9)).1 (callsIn_of_wp_marks Tryz.func184 rfl trivial ?_ rfl)
    have hp1 : decide (p < 0) = false := by simpa using hp0
    simp only [Tryz.ntmps184, List.size_toArray, List.length_cons, List.length_nil, Nat.reduceAdd, Nat.reduceSub, Array.replicate_succ, Array.replicate_zero, List.push_toArray, List.append_toArray, List.nil_append, List.cons_append]
    gi_wp2
    obtain ⟨W0, hW0⟩ : ∃ W0, ((w.alloc (.cells #[.int .i64 p] 3)).alloc (.cells #[.int .i64 0] 3)).alloc (.cells #[.bool false] 4) = W0 := ⟨_, rfl⟩
    have hsz : W0.heap.size = w.heap.size + 3 := by rw [← hW0]; simp
    rw [hW0] at b0 ⊢
    clear hW0
    refine range_over (gf := 158) rfl (enters_of Tryz.func158 (by kernel_rfl) rfl) (cells_yields _) (fun _ => rfl)
      (fun i W => (∀ j, j < i → ((sI j + wI j : Nat) : Int) ≤ p) ∧ FBox w p 0 false W) (fun W => (0 ≤ p ∧ p < 32768) ∧ FBox w p (fV p) true W)
      (fun i => (Deaf.const _ _).and (FBox.deaf (by omega))) ((Deaf.const _ _).and (FBox.deaf (by omega))) ⟨fun j hj => absurd hj (Nat.not_lt_zero j), b0⟩
      (fun i a' W => ∃ Bx, W0.heap.size + 2 ≤ Bx ∧ At W Bx #[.int .i64 (sI i), .int .i64 (wI i)] 193 ∧ a' = { tmps := #[.int .i64 p, .pointer (some ⟨w.heap.size, 0, none⟩), .pointer (some ⟨w.heap.size + 1, 0, none⟩), .pointer (some ⟨w.heap.size + 2, 0, none⟩), .int .i64 (vI i), .pointer (some ⟨Bx, 0, none⟩), .int .i64 p, .bool false, .int .i64 (vI i), .agg #[.int .i64 (sI i), .int .i64 (wI i)], undef, undef, undef, undef, undef, undef, undef, undef], defers := [] })
      (fun i a' W W' ⟨Bx, h1, h2, h3⟩ hk => ⟨Bx, h1, hk.at h2 h1, h3⟩) ?assign ?body ?done ?stop
    case assign =>
      rintro l i W K hi ⟨hj, hb⟩ hW hK
      unfold cE
      gi_wp2
      exact hK _ _ (Kept.alloc _ _ _) ⟨hj, (FBox.deaf (B := W0.heap.size) (by omega)).alloc _ hb⟩ ⟨W.heap.size, hW, At.new _ _ _, rfl⟩
    case body =>
      rintro l i a' W hi ⟨hj, hb⟩ ⟨Bx, hBx, hA, rfl⟩
      have hsw := sw_le hi
      obtain ⟨x, hx⟩ : ∃ x : Nat, sI i = x := ⟨_, rfl⟩
      obtain ⟨y, hy⟩ : ∃ y : Nat, wI i = y := ⟨_, rfl⟩
      obtain ⟨z, hz⟩ : ∃ z : Int, vI i = z := ⟨_, rfl⟩
      rw [hx, hy] at hA hsw
      rw [hx, hy, hz]
      have HB := Lib.hid hb
      have HA := Lib.hid hA
      have HJ := Lib.hid hj
      have HX := Lib.hid (And.intro hx (And.intro hy hz))
      obtain ⟨e0, e1, e2, _⟩ := hb
      have c0 : W.cell? ⟨w.heap.size, 0, none⟩ = some (.int .i64 p) := by rw [e0.cell]; rfl
      have c1 : W.cell? ⟨w.heap.size + 1, 0, none⟩ = some (.int .i64 0) := by rw [e1.cell]; rfl
      have c2 : W.cell? ⟨w.heap.size + 2, 0, none⟩ = some (.bool false) := by rw [e2.cell]; rfl
      have f1 := e1.frozen 0
      have f2 := e2.frozen 0
      have l0 : W.cell? ⟨Bx, 0, none⟩ = some (.int .i64 x) := by rw [hA.cell]; rfl
      have l1 : W.cell? ⟨Bx, 1, none⟩ = some (.int .i64 y) := by rw [hA.cell]; rfl
      clear e0 e1 e2 hA hx hy hz hj
      by_cases hv : p < (x : Int) + y
      · have hd : decide (p < (x : Int) + y) = true := by simpa using hv
        have HF := Lib.hid (show Kept W0.heap.size W ((W.setCell ⟨w.heap.size + 1, 0, none⟩ (.int .i64 z)).setCell ⟨w.heap.size + 2, 0, none⟩ (.bool true)) ∧ (0 ≤ p ∧ p < 32768) ∧ FBox w p (fV p) true ((W.setCell ⟨w.heap.size + 1, 0, none⟩ (.int .i64 z)).setCell ⟨w.heap.size + 2, 0, none⟩ (.bool true)) from by
          obtain ⟨hx, hy, hz⟩ := HX.out
          obtain ⟨g1, g2⟩ := find_hit hi (by omega) HJ.out (by rw [hx, hy]; exact_mod_cast hv)
          refine ⟨(Kept.setCell W (p := ⟨w.heap.size + 1, 0, none⟩) (by dsimp only; omega) _).trans (Kept.setCell _ (p := ⟨w.heap.size + 2, 0, none⟩) (by dsimp only; omega) _), g1, ?_⟩
          rw [g2, hz]
          exact HB.out.put z true)
        gi_wp2
        exact HF.out
      · have hd : decide (p < (x : Int) + y) = false := by simpa using hv
        gi_wp2
        refine ⟨Kept.refl _ _, fun j hj => ?_, HB.out⟩
        obtain ⟨hx, hy, _⟩ := HX.out
        rcases Nat.lt_succ_iff_lt_or_eq.1 hj with h | rfl
        · exact HJ.out j h
        · rw [hx, hy]; omega
    case done =>
      rintro D W hD ⟨hj, hb⟩ hK
      have hn := find_end hj
      obtain ⟨⟨c1, c2⟩, f1, f2⟩ := hb.cells
      have hp := hb.put 0 false
      obtain ⟨V, hV⟩ : ∃ V, (W.setCell ⟨w.heap.size + 1, 0, none⟩ (.int .i64 0)).setCell ⟨w.heap.size + 1 + 1, 0, none⟩ (.bool false) = V := ⟨_, rfl⟩
      have hKV : V.heap[D]? = some (.deferred (some [])) := by
        rw [← hV]
        exact (heap_setCell_other _ _ _ _ (by dsimp only; omega)).trans ((heap_setCell_other _ _ _ _ (by dsimp only; omega)).trans hK)
      have hpV : FBox w p 0 false V := by rw [← hV]; exact hp
      have HF := Lib.hid (And.intro hKV ((FBox.deaf (B := W0.heap.size) (by omega)).put hD (.deferred none) hpV))
      clear hp hKV hpV hj hK
      gi_wp2
      obtain ⟨hKV, hF⟩ := HF.out
      refine ⟨by simp, .inl ⟨_, _, rfl, run_takeDeferred hKV, ?_⟩⟩
      obtain ⟨⟨d1, d2⟩, _⟩ := hF.cells
      refine ⟨.tuple #[.int .i64 0, .bool false], ?_, ?_, hF.2.2.2⟩
      · simp [results, Tryz.f184, go_sem, d1, d2]
      · rw [show fV p = 0 by unfold fV; rw [if_neg hn], show fB p = false by unfold fB; simpa using hn]
    case stop =>
      rintro D W hD ⟨hin, hb⟩ hK
      have hF := (FBox.deaf (B := W0.heap.size) (by omega)).put hD (.deferred none) hb
      gi_wp2
      refine ⟨by simp, .inl ⟨_, _, rfl, run_takeDeferred hK, ?_⟩⟩
      obtain ⟨⟨d1, d2⟩, _⟩ := hF.cells
      refine ⟨.tuple #[.int .i64 (fV p), .bool true], ?_, ?_, hF.2.2.2⟩
      · simp [results, Tryz.f184, go_sem, d1, d2]
      · rw [show fB p = true by unfold fB; simpa using hin]
end Go.Proofs.YtfohinlldchdpaaGreatDoor.Lp
end
