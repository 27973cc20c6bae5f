/- Contract of lapl's cells: it hands over the numbers with their cells. -/
import Derived.Test.YtidbagkkkpfkbaaDoorLpA
import Derived.Test.YtidbagkkkpfkbaaDoorRf
import Derived.RangeFuncCalls
import Derived.RangeFuncBound
import Derived.Shelf.RegionOpen
import Derived.OwnWalkIn
import Derived.TacticsInMore
import Derived.LoopIn
import Derived.Deep.DeepCutAuto
import Derived.Test.YtidbagkkkpfkbaaDoorRowMvY
import Derived.Test.YtidbagkkkpfkbaaDoorFr
set_option maxRecDepth 100000
set_option linter.unusedVariables false
namespace Go.Proofs.YtidbagkkkpfkbaaDoor.Lp
open Go.RowKit Go.Proofs.YtidbagkkkpfkbaaDoor.Row Go.Proofs.YtidbagkkkpfkbaaDoor.Rf Go.Shelf
attribute [local go_sem] Oper.semAt_some

/-- The number at place i of the order, with its cell, as it is handed over. -/
def cE (i : Nat) : Array Value := #[.int .i64 (vI i), .agg #[.int .i64 (sI i), .int .i64 (wI i)]]

theorem enter_wide : ∀ args w, (callFunc 44 args).run Tryd.prog w = .ok (.enter 44 args) w := fun args w => run_enter Tryd.func44 (by kernel_rfl) rfl args w

set_option maxHeartbeats 2000000 in
theorem cells_yields (n : Nat) : Hands n Tryd.prog 24 49 cE := fun l J Jx W hJ hJx hY h0 => by
  refine callsIn_of_wp Tryd.func24 rfl trivial ?_ rfl
  simp only [Tryd.ntmps24, List.size_toArray, List.length_cons, List.length_nil, Nat.reduceAdd, Nat.reduceSub, Array.replicate_succ, Array.replicate_zero, List.push_toArray, List.append_toArray, List.nil_append, List.cons_append]
  have hJ1 : J 0 (W.alloc (.cells #[.int .i64 0, .int .i64 12568] 65)) := (hJ 0).alloc _ h0
  have A1 : At (W.alloc (.cells #[.int .i64 0, .int .i64 12568] 65)) W.heap.size #[.int .i64 0, .int .i64 12568] 65 := At.new _ _ _
  have HA1 := Lib.hid A1
  have HY := Lib.hid hY
  have HJ := Lib.hid hJ
  obtain ⟨f1, t1, a1, b1, hy1, hR1⟩ := hY 0 _ (by omega) hJ1
  rw [show cE 0 = #[.int .i64 0, .agg #[.int .i64 0, .int .i64 12568]] from rfl] at hy1
  have HR1 := Lib.hid hR1
  clear hR1 hY A1 hJ hJ1 h0
  gi_wp2_with fail
  refine ⟨trivial, (fun h => nomatch h), (callsIn_wide.2 (left_as _)).mono ?_⟩
  rintro e w' ⟨rfl, rfl⟩
  gi_wp2_with fail
  refine ⟨(fun h => nomatch h), HR1.out.mono ?_⟩
  rintro e W2 (⟨rfl, hJ2, hk2⟩ | ⟨rfl, hx2⟩)
  · have A2 := Lib.hid (hk2.at HA1.out (Nat.le_refl _))
    have J2 := Lib.hid hJ2
    clear hk2 HA1 HR1 hy1 hJ2
    gi_wp2
    gi_loopw [3] (fun z wr => ∃ k : Nat, 1 ≤ k ∧ k ≤ 25 ∧ z = .int .i64 k ∧ Hid (J (2 * k - 1) wr ∧ At wr W.heap.size #[.int .i64 (sI (2 * k - 2)), .int .i64 (wI (2 * k - 2))] 65)) (fun z _ => 100 - (intOf z).toNat)
    case atStart => exact ⟨1, by omega, by omega, rfl, Lib.hid ⟨J2.out, A2.out⟩⟩
    case round =>
      obtain ⟨k, hk1, hk2, rfl, hK⟩ := hrel
      clear J2 A2
      by_cases hk : k ≤ 24
      · have hd : decide ((k : Int) ≤ 24) = true := by simp; omega
        gi_wp2
        clear hd
        gi_loopw [20] (fun z wr => ∃ j : Nat, j ≤ 2 ∧ z = .int .i64 j ∧ Hid (J (2 * k - 1 + j) wr ∧ At wr W.heap.size #[.int .i64 (sI (2 * k - 2 + j)), .int .i64 (wI (2 * k - 2 + j))] 65)) (fun z _ => 100 - (intOf z).toNat)
        case atStart => exact ⟨0, by omega, rfl, hK⟩
        case round =>
          obtain ⟨j, hj, rfl, hK2⟩ := hrel
          clear hK
          obtain rfl | rfl | rfl : j = 0 ∨ j = 1 ∨ j = 2 := by omega
          · obtain ⟨x, hx⟩ : ∃ x, sI (2 * k - 2 + 0) = x := ⟨_, rfl⟩
            obtain ⟨y, hy⟩ : ∃ y, wI (2 * k - 2 + 0) = y := ⟨_, rfl⟩
            obtain ⟨u, hu⟩ : ∃ u, wd k = u := ⟨_, rfl⟩
            have hxy : x + y ≤ 32768 := by rw [← hx, ← hy]; exact sw_le (by omega)
            have HN := Lib.hid (show cE (2 * k - 1 + 0) = #[.int .i64 (k), .agg #[.int .i64 (x + y : Int), .int .i64 u]] ∧ sI (2 * k - 2 + (0 + 1)) = x + y ∧ wI (2 * k - 2 + (0 + 1)) = u from by
              have e1 : 2 * k - 1 + 0 = 2 * k - 2 + 0 + 1 := by omega
              have e2 : nI (2 * k - 1 + 0) = k := by unfold nI; omega
              have e3 : vI (2 * k - 1 + 0) = k := by unfold vI; rw [e2]; rw [if_pos (by omega)]
              have e4 : sI (2 * k - 1 + 0) = x + y := by rw [e1]; show sI (2 * k - 2 + 0) + wI (2 * k - 2 + 0) = x + y; rw [hx, hy]
              have e5 : wI (2 * k - 1 + 0) = u := by unfold wI; rw [e2, hu]
              have e6 : 2 * k - 2 + (0 + 1) = 2 * k - 1 + 0 := by omega
              refine ⟨?_, by rw [e6, e4], by rw [e6, e5]⟩
              unfold cE
              rw [e3, e4, e5]
              simp)
            rw [hx, hy] at hK2
            have HU := Lib.hid hu
            have hidx : ∀ w, (Instr.index 90 (.agg #[.int .i64 (k : Int), .int .i64 (-(k : Int))]) (.int .i64 0)).run Tryd.prog w = .ok (.int .i64 (k)) w := fun w => Row.run_index (m := 2) (k := 0) Tryd.underlying90 (by omega) rfl w
            have CC := Lib.hid (And.intro (show wr.cell? ⟨W.heap.size, 0, none⟩ = some (.int .i64 x) by rw [hK2.out.2.cell]; rfl) (show wr.cell? ⟨W.heap.size, 1, none⟩ = some (.int .i64 y) by rw [hK2.out.2.cell]; rfl))
            have AD := Lib.hid (show At wr.drew W.heap.size #[.int .i64 x, .int .i64 y] 65 from hK2.out.2.below (Below.refl wr.heap.size wr).drew hK2.out.2.lt)
            have JD := Lib.hid (show J (2 * k - 1 + 0) wr.drew from HJ.out _ wr wr.drew none hK2.out.1 ⟨rfl, rfl, rfl, Nat.le_refl _, fun _ _ _ => rfl⟩ fun r e => by cases e)
            clear hx hy hu hK2
            gi_wp2
            refine wpIn_wide.2 ?_
            refine mf_start (fun w' => w' = wr.drew) (fun j => j == 8) rfl fun hS => ?_
            refine mf_yield (i := 0) (d := 23) (.pointer (some ⟨W.heap.size, 0, none⟩)) rfl rfl (by kernel_rfl) (by kernel_rfl) (by kernel_rfl) (by kernel_rfl) hS (y_run (by rfl) fun _ => by rfl) ?_
            simp only [Act.put, List.setIfInBounds_toArray, List.set_cons_zero, List.set_cons_succ]
            refine mf_yield (i := 1) (d := 24) (.int .i64 x) rfl rfl (by kernel_rfl) (by kernel_rfl) (by kernel_rfl) (by kernel_rfl) hS (y_cellS (by rfl) rfl rfl fun w h => by rw [h]; exact CC.out.1) ?_
            simp only [Act.put, List.setIfInBounds_toArray, List.set_cons_zero, List.set_cons_succ]
            refine mf_yield (i := 2) (d := 25) (.pointer (some ⟨W.heap.size, 1, none⟩)) rfl rfl (by kernel_rfl) (by kernel_rfl) (by kernel_rfl) (by kernel_rfl) hS (y_run (by rfl) fun _ => by rfl) ?_
            simp only [Act.put, List.setIfInBounds_toArray, List.set_cons_zero, List.set_cons_succ]
            refine mf_yield (i := 3) (d := 26) (.int .i64 y) rfl rfl (by kernel_rfl) (by kernel_rfl) (by kernel_rfl) (by kernel_rfl) hS (y_cellS (by rfl) rfl rfl fun w h => by rw [h]; exact CC.out.2) ?_
            simp only [Act.put, List.setIfInBounds_toArray, List.set_cons_zero, List.set_cons_succ]
            refine mf_yield (i := 4) (d := 27) (.int .i64 (x + y : Int)) rfl rfl (by kernel_rfl) (by kernel_rfl) (by kernel_rfl) (by kernel_rfl) hS (y_add (by rfl) rfl rfl rfl (IntWalk.i64_in _ (by omega))) ?_
            simp only [Act.put, List.setIfInBounds_toArray, List.set_cons_zero, List.set_cons_succ]
            refine mf_yield (i := 5) (d := 28) (.int .i64 k) rfl rfl (by kernel_rfl) (by kernel_rfl) (by kernel_rfl) (by kernel_rfl) hS (y_run (by rfl) fun _ => by rfl) ?_
            simp only [Act.put, List.setIfInBounds_toArray, List.set_cons_zero, List.set_cons_succ]
            refine mf_ready [6] (by kernel_rfl) (by simp) (af_call (i := 6) (d := 29) (R := fun v w' => v = .int .i64 u ∧ wr.drew = w') #[.int .i64 k] rfl rfl (by rfl) rfl enter_wide (by kernel_rfl) ((wide_as k _ u _ rfl hk1 hk HU.out).mono fun e w' h => ⟨_, h.1, rfl, h.2⟩) (fun v w' h => h.2.symm) ?_ AllReadyF.nil)
            rintro v w' ⟨rfl, rfl⟩ hS
            simp only [Act.put, List.setIfInBounds_toArray, List.set_cons_zero, List.set_cons_succ]
            refine mf_yield (i := 7) (d := 30) (.agg #[.int .i64 (x + y : Int), .int .i64 u]) rfl rfl (by kernel_rfl) (by kernel_rfl) (by kernel_rfl) (by kernel_rfl) hS (y_build (by rfl) rfl (by kernel_rfl)) ?_
            simp only [Act.put, List.setIfInBounds_toArray, List.set_cons_zero, List.set_cons_succ]
            refine mf_ready [8] (by kernel_rfl) (by simp) (af_store (i := 8) W.heap.size #[.int .i64 (x + y : Int), .int .i64 u] #[.int .i64 x, .int .i64 y] rfl rfl (by rfl) rfl rfl rfl rfl AD.out (by kernel_rfl) (by kernel_rfl) (by kernel_rfl) ?_ AllReadyF.nil)
            refine mf_done (by kernel_rfl) ?_
            clear hS hidx CC
            have hJ3 : J (2 * k - 1 + 0) (wr.drew.setRow W.heap.size #[.int .i64 (x + y : Int), .int .i64 u]) := (HJ.out _).setRow (Nat.le_refl _) _ JD.out
            have A3 : At (wr.drew.setRow W.heap.size #[.int .i64 (x + y : Int), .int .i64 u]) W.heap.size #[.int .i64 (x + y : Int), .int .i64 u] 65 := AD.out.setRow
            obtain ⟨W3, hW3⟩ : ∃ W3, wr.drew.setRow W.heap.size #[.int .i64 (x + y : Int), .int .i64 u] = W3 := ⟨_, rfl⟩
            rw [hW3] at hJ3 A3 ⊢
            obtain ⟨f1, t1, a1, b1, hy1, hR1⟩ := HY.out (2 * k - 1 + 0) W3 (by omega) hJ3
            rw [HN.out.1] at hy1
            have HR1 := Lib.hid hR1
            have HA3 := Lib.hid A3
            have l0 : W3.cell? ⟨W.heap.size, 0, none⟩ = some (.int .i64 (x + y : Int)) := by rw [A3.cell]; rfl
            have l1 : W3.cell? ⟨W.heap.size, 1, none⟩ = some (.int .i64 u) := by rw [A3.cell]; rfl
            clear hR1 A3 hJ3 hW3
            gi_wp2_with fail
            refine ⟨(fun h => nomatch h), HR1.out.mono ?_⟩
            rintro e W4 (⟨rfl, hJ4, hk4⟩ | ⟨rfl, hx4⟩)
            · have HK4 := Lib.hid (And.intro hJ4 (hk4.at HA3.out (Nat.le_refl _)))
              clear hJ4 hk4 HA3 HR1 hy1 l0 l1
              gi_wp2
              go_roundw
              case rel => exact ⟨0 + 1, by omega, by go_num, Lib.hid ⟨HK4.out.1, by rw [HN.out.2.1, HN.out.2.2]; exact HK4.out.2⟩⟩
              case measure => simp [intOf]
            · gi_wp2
              refine bodyPost_ret (results_none rfl _ _ _) rfl ?_
              exact ⟨⟨_, rfl⟩, .inr hx4⟩
          · obtain ⟨x, hx⟩ : ∃ x, sI (2 * k - 2 + 1) = x := ⟨_, rfl⟩
            obtain ⟨y, hy⟩ : ∃ y, wI (2 * k - 2 + 1) = y := ⟨_, rfl⟩
            obtain ⟨u, hu⟩ : ∃ u, wd k = u := ⟨_, rfl⟩
            have hxy : x + y ≤ 32768 := by rw [← hx, ← hy]; exact sw_le (by omega)
            have HN := Lib.hid (show cE (2 * k - 1 + 1) = #[.int .i64 (-k), .agg #[.int .i64 (x + y : Int), .int .i64 u]] ∧ sI (2 * k - 2 + (1 + 1)) = x + y ∧ wI (2 * k - 2 + (1 + 1)) = u from by
              have e1 : 2 * k - 1 + 1 = 2 * k - 2 + 1 + 1 := by omega
              have e2 : nI (2 * k - 1 + 1) = k := by unfold nI; omega
              have e3 : vI (2 * k - 1 + 1) = -k := by unfold vI; rw [e2]; rw [if_neg (by omega)]
              have e4 : sI (2 * k - 1 + 1) = x + y := by rw [e1]; show sI (2 * k - 2 + 1) + wI (2 * k - 2 + 1) = x + y; rw [hx, hy]
              have e5 : wI (2 * k - 1 + 1) = u := by unfold wI; rw [e2, hu]
              have e6 : 2 * k - 2 + (1 + 1) = 2 * k - 1 + 1 := by omega
              refine ⟨?_, by rw [e6, e4], by rw [e6, e5]⟩
              unfold cE
              rw [e3, e4, e5]
              simp)
            rw [hx, hy] at hK2
            have HU := Lib.hid hu
            have hidx : ∀ w, (Instr.index 90 (.agg #[.int .i64 (k : Int), .int .i64 (-(k : Int))]) (.int .i64 1)).run Tryd.prog w = .ok (.int .i64 (-k)) w := fun w => Row.run_index (m := 2) (k := 1) Tryd.underlying90 (by omega) rfl w
            have CC := Lib.hid (And.intro (show wr.cell? ⟨W.heap.size, 0, none⟩ = some (.int .i64 x) by rw [hK2.out.2.cell]; rfl) (show wr.cell? ⟨W.heap.size, 1, none⟩ = some (.int .i64 y) by rw [hK2.out.2.cell]; rfl))
            have AD := Lib.hid (show At wr.drew W.heap.size #[.int .i64 x, .int .i64 y] 65 from hK2.out.2.below (Below.refl wr.heap.size wr).drew hK2.out.2.lt)
            have JD := Lib.hid (show J (2 * k - 1 + 1) wr.drew from HJ.out _ wr wr.drew none hK2.out.1 ⟨rfl, rfl, rfl, Nat.le_refl _, fun _ _ _ => rfl⟩ fun r e => by cases e)
            clear hx hy hu hK2
            gi_wp2
            refine wpIn_wide.2 ?_
            refine mf_start (fun w' => w' = wr.drew) (fun j => j == 8) rfl fun hS => ?_
            refine mf_yield (i := 0) (d := 23) (.pointer (some ⟨W.heap.size, 0, none⟩)) rfl rfl (by kernel_rfl) (by kernel_rfl) (by kernel_rfl) (by kernel_rfl) hS (y_run (by rfl) fun _ => by rfl) ?_
            simp only [Act.put, List.setIfInBounds_toArray, List.set_cons_zero, List.set_cons_succ]
            refine mf_yield (i := 1) (d := 24) (.int .i64 x) rfl rfl (by kernel_rfl) (by kernel_rfl) (by kernel_rfl) (by kernel_rfl) hS (y_cellS (by rfl) rfl rfl fun w h => by rw [h]; exact CC.out.1) ?_
            simp only [Act.put, List.setIfInBounds_toArray, List.set_cons_zero, List.set_cons_succ]
            refine mf_yield (i := 2) (d := 25) (.pointer (some ⟨W.heap.size, 1, none⟩)) rfl rfl (by kernel_rfl) (by kernel_rfl) (by kernel_rfl) (by kernel_rfl) hS (y_run (by rfl) fun _ => by rfl) ?_
            simp only [Act.put, List.setIfInBounds_toArray, List.set_cons_zero, List.set_cons_succ]
            refine mf_yield (i := 3) (d := 26) (.int .i64 y) rfl rfl (by kernel_rfl) (by kernel_rfl) (by kernel_rfl) (by kernel_rfl) hS (y_cellS (by rfl) rfl rfl fun w h => by rw [h]; exact CC.out.2) ?_
            simp only [Act.put, List.setIfInBounds_toArray, List.set_cons_zero, List.set_cons_succ]
            refine mf_yield (i := 4) (d := 27) (.int .i64 (x + y : Int)) rfl rfl (by kernel_rfl) (by kernel_rfl) (by kernel_rfl) (by kernel_rfl) hS (y_add (by rfl) rfl rfl rfl (IntWalk.i64_in _ (by omega))) ?_
            simp only [Act.put, List.setIfInBounds_toArray, List.set_cons_zero, List.set_cons_succ]
            refine mf_yield (i := 5) (d := 28) (.int .i64 k) rfl rfl (by kernel_rfl) (by kernel_rfl) (by kernel_rfl) (by kernel_rfl) hS (y_run (by rfl) fun _ => by rfl) ?_
            simp only [Act.put, List.setIfInBounds_toArray, List.set_cons_zero, List.set_cons_succ]
            refine mf_ready [6] (by kernel_rfl) (by simp) (af_call (i := 6) (d := 29) (R := fun v w' => v = .int .i64 u ∧ wr.drew = w') #[.int .i64 k] rfl rfl (by rfl) rfl enter_wide (by kernel_rfl) ((wide_as k _ u _ rfl hk1 hk HU.out).mono fun e w' h => ⟨_, h.1, rfl, h.2⟩) (fun v w' h => h.2.symm) ?_ AllReadyF.nil)
            rintro v w' ⟨rfl, rfl⟩ hS
            simp only [Act.put, List.setIfInBounds_toArray, List.set_cons_zero, List.set_cons_succ]
            refine mf_yield (i := 7) (d := 30) (.agg #[.int .i64 (x + y : Int), .int .i64 u]) rfl rfl (by kernel_rfl) (by kernel_rfl) (by kernel_rfl) (by kernel_rfl) hS (y_build (by rfl) rfl (by kernel_rfl)) ?_
            simp only [Act.put, List.setIfInBounds_toArray, List.set_cons_zero, List.set_cons_succ]
            refine mf_ready [8] (by kernel_rfl) (by simp) (af_store (i := 8) W.heap.size #[.int .i64 (x + y : Int), .int .i64 u] #[.int .i64 x, .int .i64 y] rfl rfl (by rfl) rfl rfl rfl rfl AD.out (by kernel_rfl) (by kernel_rfl) (by kernel_rfl) ?_ AllReadyF.nil)
            refine mf_done (by kernel_rfl) ?_
            clear hS hidx CC
            have hJ3 : J (2 * k - 1 + 1) (wr.drew.setRow W.heap.size #[.int .i64 (x + y : Int), .int .i64 u]) := (HJ.out _).setRow (Nat.le_refl _) _ JD.out
            have A3 : At (wr.drew.setRow W.heap.size #[.int .i64 (x + y : Int), .int .i64 u]) W.heap.size #[.int .i64 (x + y : Int), .int .i64 u] 65 := AD.out.setRow
            obtain ⟨W3, hW3⟩ : ∃ W3, wr.drew.setRow W.heap.size #[.int .i64 (x + y : Int), .int .i64 u] = W3 := ⟨_, rfl⟩
            rw [hW3] at hJ3 A3 ⊢
            obtain ⟨f1, t1, a1, b1, hy1, hR1⟩ := HY.out (2 * k - 1 + 1) W3 (by omega) hJ3
            rw [HN.out.1] at hy1
            have HR1 := Lib.hid hR1
            have HA3 := Lib.hid A3
            have l0 : W3.cell? ⟨W.heap.size, 0, none⟩ = some (.int .i64 (x + y : Int)) := by rw [A3.cell]; rfl
            have l1 : W3.cell? ⟨W.heap.size, 1, none⟩ = some (.int .i64 u) := by rw [A3.cell]; rfl
            clear hR1 A3 hJ3 hW3
            gi_wp2_with fail
            refine ⟨(fun h => nomatch h), HR1.out.mono ?_⟩
            rintro e W4 (⟨rfl, hJ4, hk4⟩ | ⟨rfl, hx4⟩)
            · have HK4 := Lib.hid (And.intro hJ4 (hk4.at HA3.out (Nat.le_refl _)))
              clear hJ4 hk4 HA3 HR1 hy1 l0 l1
              gi_wp2
              go_roundw
              case rel => exact ⟨1 + 1, by omega, by go_num, Lib.hid ⟨HK4.out.1, by rw [HN.out.2.1, HN.out.2.2]; exact HK4.out.2⟩⟩
              case measure => simp [intOf]
            · gi_wp2
              refine bodyPost_ret (results_none rfl _ _ _) rfl ?_
              exact ⟨⟨_, rfl⟩, .inr hx4⟩
          · gi_wp2
            exact ⟨⟨k + 1, by omega, by omega, by go_num, by rw [show 2 * (k + 1) - 1 = 2 * k - 1 + 2 by omega, show 2 * (k + 1) - 2 = 2 * k - 2 + 2 by omega]; exact hK2⟩, by simp [intOf]; omega⟩
      · obtain rfl : k = 25 := by omega
        gi_wp2
        go_end0
        exact ⟨⟨_, rfl⟩, .inl hK.out.1⟩
  · gi_wp2
    refine bodyPost_ret (results_none rfl _ _ _) rfl ?_
    exact ⟨⟨_, rfl⟩, .inr hx2⟩
end Go.Proofs.YtidbagkkkpfkbaaDoor.Lp
