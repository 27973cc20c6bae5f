/- StateBack. Written by g26.py. -/
import Derived.Test.YtinbdkneakblfaaStL
import Derived.Test.YtinbdkneakblfaaRowMvE
set_option maxRecDepth 100000
set_option linter.unusedVariables false
namespace Go.Proofs.Ytinbdkneakblfaa.Sta
open Go.RowKit Go.Proofs.Ytinbdkneakblfaa.Row

set_option maxHeartbeats 1000000 in
theorem stateBack_walk (T : Array Value) (f : Nat → Int) (hT : IsRow 38 f T) (w : World) :
    Calls Try.prog 3 #[.agg T] w fun e w' => e = .returned (.bool true) ∧ Below w.heap.size w w' := by
  obtain ⟨Z, hZ, hZ0, hz, hi⟩ := zero_p
  obtain ⟨Y, hY, hY0, hy, hj⟩ := zero_r
  have HI := Lib.hid hi
  have HIR := Lib.hid hj
  have HZ := Lib.hid hZ.1
  have HT := Lib.hid hT
  have HA := Lib.hid (One.start w T 25)
  clear hT hZ0 hi hZ hY hY0 hy hj
  go_enter Try.func3, Try.ntmps3
  go_wp2_with fail
  revert HA
  generalize w.alloc _ = W
  intro HA
  refine (awake_as W).mono ?_
  rintro e W1 ⟨rfl, hb⟩
  replace HA := Lib.hid (HA.out.next hb)
  clear hb W
  go_wp2_with (refine wpList_load_all (by rfl) 25 _ rfl w.heap.size rfl HT.out HA.out.2 Try.underlying25 rfl HIR.out ?_)
  refine (of_as T f W1 HT.out).mono ?_
  rintro e W ⟨rfl, hb⟩
  replace HA := Lib.hid (HA.out.next hb)
  clear hb W1
  go_wp2_with fail
  by_cases hr : Rt f
  · have HR := Lib.hid hr
    have HZs := Lib.hid (stL_len f)
    clear hr
    refine (bytes_yes T f W HT.out HR.out).mono ?_
    rintro e W1 ⟨rfl, hb⟩
    replace HA := Lib.hid (HA.out.next hb)
    clear hb W
    have HC := Lib.hid (fun w => read_same HT.out HR.out w)
    obtain ⟨s, hs⟩ : ∃ s, (⟨(stL f).toArray⟩ : ByteArray) = s := ⟨_, rfl⟩
    have hsz : (s.size : Int) = 137 := by
      rw [← hs]
      have := HZs.out
      simp only [ByteArray.size, List.size_toArray]
      omega
    rw [hs] at HC
    rw [hs]
    clear hs HZs
    go_wp2_with fail
    refine (HC.out W1).mono ?_
    rintro e W ⟨rfl, hb⟩
    replace HA := Lib.hid (HA.out.next hb)
    clear hb W1 HC
    go_wp2_with (
      (refine wpList_store_row rfl 32 _ _ rfl W.heap.size T rfl rfl _ _ (heap_alloc_new _ _) (HI.out _ HT.out.1) (by rw [HZ.out, HT.out.1]) HT.out.2.1 ?_; rw [World.setRow_alloc_new]))
    have HP := Lib.hid (At.new W T 32)
    replace HA := Lib.hid (HA.out.alloc (.cells T 32))
    revert HA HP
    generalize W.heap.size = b
    generalize W.alloc _ = W1
    intro HP HA
    clear W
    refine mv_start fun hS => ?_
    refine mv_yield (i := 0) (d := 30) (.int .i64 0) rfl rfl (by kernel_rfl) (by kernel_rfl) (by kernel_rfl) hS (y_run (by rfl) fun _ => by rfl) ?_
    simp only [Act.put, List.setIfInBounds_toArray, List.set_cons_zero, List.set_cons_succ]
    refine mv_yield (i := 1) (d := 31) (.bool true) rfl rfl (by kernel_rfl) (by kernel_rfl) (by kernel_rfl) hS (y_eqe (by rfl) rfl rfl rfl rfl) ?_
    simp only [Act.put, List.setIfInBounds_toArray, List.set_cons_zero, List.set_cons_succ]
    refine mv_yield (i := 2) (d := 32) (.bool true) rfl rfl (by kernel_rfl) (by kernel_rfl) (by kernel_rfl) hS (y_run (by rfl) fun _ => by rfl) ?_
    simp only [Act.put, List.setIfInBounds_toArray, List.set_cons_zero, List.set_cons_succ]
    refine mv_yield (i := 3) (d := 33) (.agg T) rfl rfl (by kernel_rfl) (by kernel_rfl) (by kernel_rfl) hS (y_load_part (l := 0) (by rfl) rfl rfl HT.out (fun w' h => (HP.out).below h (HP.out).lt) HT.out (by omega) (fun i _ => by rw [Nat.zero_add]) Try.underlying32 rfl (HI.out _ HT.out.1)) ?_
    simp only [Act.put, List.setIfInBounds_toArray, List.set_cons_zero, List.set_cons_succ]
    refine mv_yield (i := 5) (d := 35) (.agg T) rfl rfl (by kernel_rfl) (by kernel_rfl) (by kernel_rfl) hS (y_load_part (l := 0) (by rfl) rfl rfl HT.out (fun w' h => (HA.out.2).below h (HA.out.2).lt) HT.out (by omega) (fun i _ => by rw [Nat.zero_add]) Try.underlying25 rfl (HIR.out _ HT.out.1)) ?_
    simp only [Act.put, List.setIfInBounds_toArray, List.set_cons_zero, List.set_cons_succ]
    refine mv_call (i := 4) (d := 34) (v := (.agg T)) #[.agg T] rfl rfl (by kernel_rfl) (by rfl) rfl hS enter_plain (by kernel_rfl) (plain_as T f _ HT.out) ?_
    clear hS
    rintro w' hS
    simp only [Act.put, List.setIfInBounds_toArray, List.set_cons_zero, List.set_cons_succ]
    refine mv_yield (i := 6) (d := 36) (.bool true) rfl rfl (by kernel_rfl) (by kernel_rfl) (by kernel_rfl) hS (y_eql (by rfl) rfl rfl rfl (by kernel_rfl) (fun w' => st_eq_r HT.out HT.out (fun _ _ => rfl) w')) ?_
    simp only [Act.put, List.setIfInBounds_toArray, List.set_cons_zero, List.set_cons_succ]
    refine mv_yield (i := 7) (d := 37) (.bool true) rfl rfl (by kernel_rfl) (by kernel_rfl) (by kernel_rfl) hS (y_run (by rfl) fun _ => by rfl) ?_
    simp only [Act.put, List.setIfInBounds_toArray, List.set_cons_zero, List.set_cons_succ]
    refine mv_yield (i := 8) (d := 38) (.bool true) rfl rfl (by kernel_rfl) (by kernel_rfl) (by kernel_rfl) hS (y_run (by rfl) fun _ => by rfl) ?_
    simp only [Act.put, List.setIfInBounds_toArray, List.set_cons_zero, List.set_cons_succ]
    refine mv_yield (i := 9) (d := 39) (.string s) rfl rfl (by kernel_rfl) (by kernel_rfl) (by kernel_rfl) hS (y_run (by rfl) fun _ => by rfl) ?_
    simp only [Act.put, List.setIfInBounds_toArray, List.set_cons_zero, List.set_cons_succ]
    refine mv_yield (i := 10) (d := 40) (.int .i64 137) rfl rfl (by kernel_rfl) (by kernel_rfl) (by kernel_rfl) hS (y_lens (by rfl) rfl rfl hsz) ?_
    simp only [Act.put, List.setIfInBounds_toArray, List.set_cons_zero, List.set_cons_succ]
    refine mv_yield (i := 11) (d := 41) (.bool true) rfl rfl (by kernel_rfl) (by kernel_rfl) (by kernel_rfl) hS (y_eqi2 (by rfl) rfl rfl rfl rfl) ?_
    simp only [Act.put, List.setIfInBounds_toArray, List.set_cons_zero, List.set_cons_succ]
    refine mv_yield (i := 12) (d := 42) (.bool true) rfl rfl (by kernel_rfl) (by kernel_rfl) (by kernel_rfl) hS (y_run (by rfl) fun _ => by rfl) ?_
    simp only [Act.put, List.setIfInBounds_toArray, List.set_cons_zero, List.set_cons_succ]
    refine mv_yield (i := 13) (d := 2) (.bool true) rfl rfl (by kernel_rfl) (by kernel_rfl) (by kernel_rfl) hS (y_run (by rfl) fun _ => by rfl) ?_
    simp only [Act.put, List.setIfInBounds_toArray, List.set_cons_zero, List.set_cons_succ]
    refine mv_done (by kernel_rfl) ?_
    have HB := Lib.hid (below_trans HA.out.1 hS HA.out.1.size)
    clear hS
    go_wp2_with fail
    go_ret
    exact ⟨rfl, HB.out⟩
  · have HR := Lib.hid hr
    clear hr
    refine (bytes_no T f W HT.out HR.out).mono ?_
    rintro e W1 ⟨rfl, hb⟩
    replace HA := Lib.hid (HA.out.next hb)
    clear hb W
    rw [show (⟨([] : List UInt8).toArray⟩ : ByteArray) = ⟨#[]⟩ from rfl]
    go_wp2_with (refine wpList_load_all (by rfl) 25 _ rfl w.heap.size rfl HT.out HA.out.2 Try.underlying25 rfl HIR.out ?_)
    refine (of_as T f W1 HT.out).mono ?_
    rintro e W ⟨rfl, hb⟩
    replace HA := Lib.hid (HA.out.next hb)
    clear hb W1
    go_wp2_with fail
    refine (right_no T f W HT.out HR.out).mono ?_
    rintro e W1 ⟨rfl, hb⟩
    replace HA := Lib.hid (HA.out.next hb)
    clear hb W
    go_wp2_with fail
    go_ret
    exact ⟨rfl, HA.out.1⟩
end Go.Proofs.Ytinbdkneakblfaa.Sta
