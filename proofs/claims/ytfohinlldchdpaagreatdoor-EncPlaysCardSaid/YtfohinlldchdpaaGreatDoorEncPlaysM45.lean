/- Texts of the walk, one behind the other. -/
import Derived.Test.YtfohinlldchdpaaGreatDoorEncPlaysM1
import Derived.Test.YtfohinlldchdpaaGreatDoorEncPlaysM21
import Derived.Test.YtfohinlldchdpaaGreatDoorEncPlaysM2

section
/- Contract of the document's Count. -/
set_option maxRecDepth 100000
set_option linter.unusedVariables false
namespace Go.Proofs.YtfohinlldchdpaaGreatDoor.Ve
open Go.RowKit Go.Proofs.YtfohinlldchdpaaGreatDoor.Row Go.Maps Go.WideMaps

theorem enter_size (args : Array Value) (w : World) : (callFunc 96 args).run Tryz.prog w = .ok (.enter 96 args) w := run_enter Tryz.func96 (by kernel_rfl) rfl args w

/-- What is known of the next row of counts: all of them before a, at a a part of the sum. -/
def nx (i a j b : Nat) : Int := if b < a then V (i + 1) b else if b = a then S (gV i a) j else 0
theorem nx_zero (i b : Nat) : nx i 0 0 b = 0 := by
  unfold nx
  rw [if_neg (by omega)]
  split <;> rfl
theorem nx_at (i a j : Nat) : nx i a j a = S (gV i a) j := by unfold nx; rw [if_neg (by omega), if_pos rfl]
theorem nx_step (i a j b : Nat) : (if b = a then ((S (gV i a) j : Nat) : Int) + gV i a j else nx i a j b) = nx i a (j + 1) b := by
  unfold nx
  by_cases h : b = a
  · subst h
    rw [if_pos rfl, if_neg (by omega), if_pos rfl, ← Int.natCast_add]
    rfl
  · rw [if_neg h, if_neg h, if_neg h]
theorem nx_next (i a b : Nat) : nx i a (2 * a + 1) b = nx i (a + 1) 0 b := by
  unfold nx
  by_cases h : b < a
  · rw [if_pos h, if_pos (by omega)]
  · rw [if_neg h]
    by_cases e : b = a
    · subst e
      rw [if_pos rfl, if_pos (by omega), S_all]
    · rw [if_neg e, if_neg (by omega)]
      split <;> rfl

/-- What stands while counts are worked out: a row; two rows. -/
def CtS (W : World) (g : Nat) (R : Array Value) (w' : World) : Prop := Below W.heap.size W w' ∧ At w' g R 3 ∧ W.heap.size ≤ g
def C2S (W : World) (g : Nat) (R : Array Value) (h : Nat) (Q : Array Value) (w' : World) : Prop := Below W.heap.size W w' ∧ At w' g R 3 ∧ At w' h Q 3 ∧ W.heap.size ≤ g ∧ W.heap.size ≤ h ∧ g ≠ h
theorem CtS.set {W w : World} {g : Nat} {R : Array Value} (h : CtS W g R w) (i : Nat) (v : Value) : CtS W g (R.setIfInBounds i v) (w.setCell ⟨g, i, none⟩ v) := ⟨h.1.setCell h.2.2 _, h.2.1.setCell, h.2.2⟩
theorem CtS.more {W w : World} {g : Nat} {R : Array Value} (h : CtS W g R w) (Q : Array Value) : C2S W g R w.heap.size Q (w.alloc (.cells Q 3)) :=
  ⟨h.1.alloc h.1.size _, h.2.1.alloc _, At.new _ _ _, h.2.2, h.1.size, Nat.ne_of_lt h.2.1.lt⟩
theorem C2S.set {W w : World} {g h : Nat} {R Q : Array Value} (s : C2S W g R h Q w) (i : Nat) (v : Value) : C2S W g R h (Q.setIfInBounds i v) (w.setCell ⟨h, i, none⟩ v) :=
  ⟨s.1.setCell s.2.2.2.2.1 _, s.2.1.setCell_other s.2.2.2.2.2, s.2.2.1.setCell, s.2.2.2⟩
theorem C2S.drew {W w : World} {g h : Nat} {R Q : Array Value} (s : C2S W g R h Q w) : C2S W g R h Q w.drew := ⟨s.1.drew, s.2⟩

theorem V_row (b : Nat) : (if b = 0 then (1 : Int) else 0) = V 0 b := by
  unfold V
  split <;> rfl

set_option maxHeartbeats 800000 in
theorem refCount_as (n k : Nat) (W : World) (hn : n ≤ 8) (hk : k ≤ 8) :
    Calls Tryz.prog 101 #[.int .i64 n, .int .i64 k] W fun e w' => e = .returned (.int .i64 (V n k)) ∧ Below W.heap.size W w' := by
  obtain ⟨N, hN⟩ : ∃ N : Nat, (k : Int) + 1 = N := ⟨k + 1, by omega⟩
  have S0 := Lib.hid (show CtS W W.heap.size (rowL N (fun _ => 0) 0) (W.alloc (.cells (rowL N (fun _ => 0) 0) 3)) from ⟨(Below.refl _ _).alloc (Nat.le_refl _) _, At.new _ _ _, Nat.le_refl _⟩)
  have c0 := (rowL_is N (fun _ => 0)).cell S0.out.2.1 0 (by omega)
  have f0 := S0.out.2.1.frozen 0
  have S1 := Lib.hid (show CtS W W.heap.size ((rowL N (fun _ => 0) 0).setIfInBounds 0 (.int .i64 1)) (W.alloc (.cells ((rowL N (fun _ => 0) 0).setIfInBounds 0 (.int .i64 1)) 3)) from ⟨(Below.refl _ _).alloc (Nat.le_refl _) _, At.new _ _ _, Nat.le_refl _⟩)
  have R1 := Lib.hid (((rowL_is N (fun _ => 0)).set 1 (show 0 < N by omega)).ext fun b _ => V_row b)
  clear S0
  go_enter Tryz.func101, Tryz.ntmps101
  go_wp2_with (at_make; refine wpList_make_rowL (fun _ => 0) rfl _ _ rfl N _ _ rfl rfl (by omega) ?_)
  clear c0 f0
  go_loopw [5, 6] (fun s i w' => ∃ (i' g : Nat) (R : Array Value), i' ≤ n ∧ i = .int .i64 i' ∧ s = .slice (some ⟨g, 0, none⟩) N N ∧ Hid (IsRow N (fun b => V i' b) R) ∧ CtS W g R w') (fun _ i _ => n - (intOf i).toNat)
  case atStart => exact ⟨0, W.heap.size, _, Nat.zero_le _, rfl, rfl, R1, S1.out⟩
  case round =>
    obtain ⟨i, g, R, hi, rfl, rfl, HR, hs⟩ := hrel
    have HS := Lib.hid hs
    clear hs R1 S1
    by_cases hlt : i < n
    · have HM := Lib.hid (HS.out.more (rowL N (fun _ => 0) 0))
      have HQ := Lib.hid ((rowL_is N (fun _ => 0)).ext fun b _ => (nx_zero i b).symm)
      go_wp2_with (at_make; refine wpList_make_rowL (fun _ => 0) rfl _ _ rfl N _ _ rfl rfl (by omega) ?_)
      obtain ⟨h, hh⟩ : ∃ h, wr.heap.size = h := ⟨_, rfl⟩
      rw [hh] at HM ⊢
      clear hh HS
      go_loopw [8] (fun a w' => ∃ (a' : Nat) (Q : Array Value), a' ≤ N ∧ a = .int .i64 a' ∧ Hid (IsRow N (nx i a' 0) Q) ∧ C2S W g R h Q w') (fun a _ => N - (intOf a).toNat)
      case atStart => exact ⟨0, _, Nat.zero_le _, rfl, HQ, HM.out⟩
      case round =>
        obtain ⟨a, Q, ha, rfl, HQ2, hs⟩ := hrel
        have HS2 := Lib.hid hs
        clear hs HM HQ
        by_cases hlt2 : a < N
        · have hak : (a : Int) ≤ (k : Int) := by omega
          go_wp2_with fail
          go_loopw [9] (fun x w' => ∃ (j : Nat) (Q : Array Value), j ≤ 2 * a + 1 ∧ x = .int .i64 ((j : Int) - a) ∧ Hid (IsRow N (nx i a j) Q) ∧ C2S W g R h Q w') (fun x _ => ((a : Int) + 1 - intOf x).toNat)
          case atStart => exact ⟨0, Q, by omega, congrArg (Value.int .i64) (by omega), HQ2, HS2.out⟩
          case round =>
            obtain ⟨j, Q, hj, rfl, HQ3, hs⟩ := hrel
            have HS3 := Lib.hid hs
            clear hs HS2 HQ2
            by_cases hlt3 : (j : Int) - a ≤ a
            · have hj2 : j ≤ 2 * a := by omega
              obtain ⟨q, hq⟩ : ∃ q, a - ((j : Int) - a).natAbs = q := ⟨_, rfl⟩
              have hqN : q < N := by omega
              have HY := Lib.hid (show gV i a j = V i q by unfold gV; rw [hq])
              have hsb := S_step (n := i) hj2
              have hvb := V_le (n := i + 1) (k := a) (by omega) (by omega)
              have HT := Lib.hid (HQ3.out.set (((S (gV i a) j : Nat) : Int) + gV i a j) hlt2)
              have HT2 := Lib.hid (HT.out.ext fun b _ => nx_step i a j b)
              have CA := Lib.hid (HQ3.out.cell HS3.out.drew.2.2.1 a hlt2)
              have CB := Lib.hid (HR.out.cell HS3.out.drew.2.1 q hqN)
              have CF := Lib.hid (HS3.out.drew.2.2.1.frozen a)
              rw [nx_at] at CA
              rw [← HY.out] at CB
              obtain ⟨s, hs⟩ : ∃ s, S (gV i a) j = s := ⟨_, rfl⟩
              obtain ⟨y, hy⟩ : ∃ y, gV i a j = y := ⟨_, rfl⟩
              rw [hs] at hsb HT2 CA
              rw [hy] at hsb HT2 CB
              obtain ⟨z, hz⟩ : ∃ z, ((j : Int) - a).natAbs = z := ⟨_, rfl⟩
              have HZ := Lib.hid (show sz ((j : Int) - a) = z by rw [sz_small (by omega) (by omega), hz])
              have HSub := Lib.hid (show IntKind.i64.wrap ((a : Int) - z) = q by rw [IntWalk.i64_in _ (by omega)]; omega)
              have HAdd := Lib.hid (show IntKind.i64.wrap ((s : Int) + y) = (s : Int) + y from IntWalk.i64_in _ (by omega))
              have HS4 := Lib.hid (HS3.out.drew.set a (.int .i64 ((s : Int) + y)))
              clear hs hy hz hq HT HS3 HQ3
              go_wp2_with fail
              refine mf_start (fun w' => w' = wr.drew) (fun j => j == 15) rfl fun hS => ?_
              refine mf_yield (i := 0) (d := 35) (.slice (some ⟨h, 0, none⟩) N N) rfl rfl (by kernel_rfl) (by kernel_rfl) (by kernel_rfl) (by kernel_rfl) hS (y_run (by rfl) fun _ => by rfl) ?_
              simp only [Act.put, List.setIfInBounds_toArray, List.set_cons_zero, List.set_cons_succ]
              refine mf_yield (i := 1) (d := 36) (.int .i64 a) rfl rfl (by kernel_rfl) (by kernel_rfl) (by kernel_rfl) (by kernel_rfl) hS (y_run (by rfl) fun _ => by rfl) ?_
              simp only [Act.put, List.setIfInBounds_toArray, List.set_cons_zero, List.set_cons_succ]
              refine mf_yield (i := 2) (d := 37) (.slice (some ⟨h, 0, none⟩) N N) rfl rfl (by kernel_rfl) (by kernel_rfl) (by kernel_rfl) (by kernel_rfl) hS (y_run (by rfl) fun _ => by rfl) ?_
              simp only [Act.put, List.setIfInBounds_toArray, List.set_cons_zero, List.set_cons_succ]
              refine mf_yield (i := 3) (d := 38) (.int .i64 a) rfl rfl (by kernel_rfl) (by kernel_rfl) (by kernel_rfl) (by kernel_rfl) hS (y_run (by rfl) fun _ => by rfl) ?_
              simp only [Act.put, List.setIfInBounds_toArray, List.set_cons_zero, List.set_cons_succ]
              refine mf_yield (i := 4) (d := 39) (.pointer (some ⟨h, a, none⟩)) rfl rfl (by kernel_rfl) (by kernel_rfl) (by kernel_rfl) (by kernel_rfl) hS (y_ix (k := a) (by rfl) rfl rfl rfl rfl (Nat.zero_add _) hlt2) ?_
              simp only [Act.put, List.setIfInBounds_toArray, List.set_cons_zero, List.set_cons_succ]
              refine mf_yield (i := 5) (d := 40) (.int .i64 s) rfl rfl (by kernel_rfl) (by kernel_rfl) (by kernel_rfl) (by kernel_rfl) hS (y_cellS (by rfl) rfl rfl fun w hw => by rw [hw]; exact CA.out) ?_
              simp only [Act.put, List.setIfInBounds_toArray, List.set_cons_zero, List.set_cons_succ]
              refine mf_yield (i := 6) (d := 41) (.slice (some ⟨g, 0, none⟩) N N) rfl rfl (by kernel_rfl) (by kernel_rfl) (by kernel_rfl) (by kernel_rfl) hS (y_run (by rfl) fun _ => by rfl) ?_
              simp only [Act.put, List.setIfInBounds_toArray, List.set_cons_zero, List.set_cons_succ]
              refine mf_yield (i := 7) (d := 42) (.int .i64 a) rfl rfl (by kernel_rfl) (by kernel_rfl) (by kernel_rfl) (by kernel_rfl) hS (y_run (by rfl) fun _ => by rfl) ?_
              simp only [Act.put, List.setIfInBounds_toArray, List.set_cons_zero, List.set_cons_succ]
              refine mf_yield (i := 8) (d := 43) (.int .i64 ((j : Int) - a)) rfl rfl (by kernel_rfl) (by kernel_rfl) (by kernel_rfl) (by kernel_rfl) hS (y_run (by rfl) fun _ => by rfl) ?_
              simp only [Act.put, List.setIfInBounds_toArray, List.set_cons_zero, List.set_cons_succ]
              refine mf_ready [9] (by kernel_rfl) (by simp) (af_call (i := 9) (d := 44) (R := fun v w' => v = .int .i64 z ∧ wr.drew = w') #[.int .i64 ((j : Int) - a)] rfl rfl (by rfl) rfl enter_size (by kernel_rfl) ((refSize_as _ (z : Int) _ HZ.out).mono fun e w' h => ⟨_, h.1, rfl, h.2⟩) (fun v w' h => h.2.symm) ?_ AllReadyF.nil)
              rintro v w' ⟨rfl, rfl⟩ hS
              simp only [Act.put, List.setIfInBounds_toArray, List.set_cons_zero, List.set_cons_succ]
              refine mf_yield (i := 10) (d := 45) (.int .i64 q) rfl rfl (by kernel_rfl) (by kernel_rfl) (by kernel_rfl) (by kernel_rfl) hS (y_sub (by rfl) rfl rfl rfl HSub.out) ?_
              simp only [Act.put, List.setIfInBounds_toArray, List.set_cons_zero, List.set_cons_succ]
              refine mf_yield (i := 11) (d := 46) (.pointer (some ⟨g, q, none⟩)) rfl rfl (by kernel_rfl) (by kernel_rfl) (by kernel_rfl) (by kernel_rfl) hS (y_ix (k := q) (by rfl) rfl rfl rfl rfl (Nat.zero_add _) hqN) ?_
              simp only [Act.put, List.setIfInBounds_toArray, List.set_cons_zero, List.set_cons_succ]
              refine mf_yield (i := 12) (d := 47) (.int .i64 y) rfl rfl (by kernel_rfl) (by kernel_rfl) (by kernel_rfl) (by kernel_rfl) hS (y_cellS (by rfl) rfl rfl fun w hw => by rw [hw]; exact CB.out) ?_
              simp only [Act.put, List.setIfInBounds_toArray, List.set_cons_zero, List.set_cons_succ]
              refine mf_yield (i := 13) (d := 48) (.int .i64 ((s : Int) + y)) rfl rfl (by kernel_rfl) (by kernel_rfl) (by kernel_rfl) (by kernel_rfl) hS (y_add (by rfl) rfl rfl rfl HAdd.out) ?_
              simp only [Act.put, List.setIfInBounds_toArray, List.set_cons_zero, List.set_cons_succ]
              refine mf_yield (i := 14) (d := 49) (.pointer (some ⟨h, a, none⟩)) rfl rfl (by kernel_rfl) (by kernel_rfl) (by kernel_rfl) (by kernel_rfl) hS (y_ix (k := a) (by rfl) rfl rfl rfl rfl (Nat.zero_add _) hlt2) ?_
              simp only [Act.put, List.setIfInBounds_toArray, List.set_cons_zero, List.set_cons_succ]
              refine mf_ready [15] (by kernel_rfl) (by simp) (af_cell (i := 15) ⟨h, a, none⟩ ((s : Int) + y) rfl rfl (by rfl) rfl rfl rfl rfl CA.out CF.out ?_ AllReadyF.nil)
              refine mf_done (by kernel_rfl) ?_
              clear hS
              go_wp2_with fail
              go_roundw
              case rel => exact ⟨j + 1, _, by omega, congrArg (Value.int .i64) (by omega), HT2, HS4.out⟩
              case measure => simp [intOf]; omega
            · obtain rfl : j = 2 * a + 1 := by omega
              have HQ4 := Lib.hid (HQ3.out.ext fun b _ => nx_next i a b)
              go_wp2_with fail
              go_roundw
              case rel => exact ⟨a + 1, Q, by omega, by go_num, HQ4, HS3.out⟩
              case measure => simp [intOf]; omega
        · obtain rfl : a = N := by omega
          have hak : ¬ (a : Int) ≤ (k : Int) := by omega
          have HQ5 := Lib.hid (show IsRow a (fun b => ((V (i + 1) b : Nat) : Int)) Q from HQ2.out.ext fun b hb => by unfold nx; rw [if_pos hb])
          go_wp2_with fail
          go_roundw
          case rel => exact ⟨i + 1, h, Q, by omega, by go_num, rfl, HQ5, HS2.out.1, HS2.out.2.2.1, HS2.out.2.2.2.2.1⟩
          case measure => simp [intOf]; omega
    · obtain rfl : i = n := by omega
      have c1 := HR.out.cell HS.out.2.1 k (by omega)
      go_wp2_with fail
      go_ret
      exact ⟨rfl, HS.out.1⟩
end Go.Proofs.YtfohinlldchdpaaGreatDoor.Ve
end
