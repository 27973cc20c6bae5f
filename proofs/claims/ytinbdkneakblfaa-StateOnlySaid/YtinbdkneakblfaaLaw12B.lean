/- StateOnly. -/
import Derived.Test.YtinbdkneakblfaaStL
set_option maxRecDepth 100000
set_option linter.unusedVariables false
namespace Go.Proofs.Ytinbdkneakblfaa.Sta
open Go.RowKit Go.Proofs.Ytinbdkneakblfaa.Row

theorem stateOnly_long (s : ByteArray) (hs : s.size ≤ maxLen) (hn : 1000 < s.size) (w : World) :
    Calls Try.prog 4 #[.string s] w fun e w' => e = .returned (.bool true) ∧ Below w.heap.size w w' := by
  unfold maxLen at hs
  have hn1 : (1000 : Int) < s.size := by omega
  go_enter Try.func4, Try.ntmps4
  go_wp2_with fail
  refine (awake_as w).mono ?_
  rintro e W ⟨rfl, hb⟩
  have HB := Lib.hid hb
  clear hb
  go_wp2_with fail
  refine (awake_as W).mono ?_
  rintro e W1 ⟨rfl, hb⟩
  replace HB := Lib.hid (below_trans HB.out hb HB.out.size)
  clear hb
  go_wp2_with fail
  go_ret
  exact ⟨rfl, HB.out⟩

theorem stateOnly_size (s : ByteArray) (hn : s.size ≤ 1000) (hc : s.size ≠ 137) (hr : ∀ w, Calls Try.prog 13 #[.string s] w (RetSt w (fun _ => 0) 10)) (w : World) :
    Calls Try.prog 4 #[.string s] w fun e w' => e = .returned (.bool true) ∧ Below w.heap.size w w' := by
  obtain ⟨Z, hZ, hZ0, hz, hi⟩ := zero_p
  obtain ⟨E, hE, bE⟩ := built_0 isSt_p
  have HI := Lib.hid hi
  have HZ := Lib.hid hZ.1
  have HBE := Lib.hid bE
  have HE := Lib.hid hE
  have HR := Lib.hid hr
  have hn1 : ¬ (1000 : Int) < s.size := by omega
  have hc1 : ¬ (s.size : Int) = 137 := by omega
  clear hr hZ hZ0 hi hE bE hc
  go_enter Try.func4, Try.ntmps4
  go_wp2_with fail
  refine (awake_as w).mono ?_
  rintro e W ⟨rfl, hb⟩
  have HB := Lib.hid hb
  clear hb
  go_wp2_with fail
  refine (HR.out W).mono ?_
  rintro e W1 ⟨⟨T, rfl, hT⟩, hb⟩
  replace HB := Lib.hid (below_trans HB.out hb HB.out.size)
  have HT := Lib.hid hT
  clear hb HR W
  have heq := st_eq_p HT.out HE.out (fun _ _ => rfl)
  have HA := Lib.hid (At.new W1 T 32)
  have HB2 := Lib.hid (HB.out.alloc HB.out.size (.cells T 32))
  clear hT
  go_wp2_with (first
    | (refine wpList_store_row rfl 32 _ _ rfl W1.heap.size T rfl rfl _ _ (heap_alloc_new _ _) (HI.out _ HT.out.1) (by rw [HZ.out, HT.out.1]) HT.out.2.1 ?_; rw [World.setRow_alloc_new])
    | refine wpList_load_all (by rfl) 32 _ rfl W1.heap.size rfl HT.out HA.out Try.underlying32 rfl HI.out ?_
    | refine wpList_build_parts (by rfl) 32 [] rfl _ rfl HBE.out ?_)
  go_ret
  exact ⟨congrArg (fun b => Ending.returned (Value.bool b)) (bne_iff_ne.2 hc1), HB2.out⟩

theorem stateOnly_bad (s : ByteArray) (hn : s.size ≤ 1000) (hc : s.size = 137) (hr : ∀ w, Calls Try.prog 13 #[.string s] w (RetSt w (fun _ => 0) 4)) (w : World) :
    Calls Try.prog 4 #[.string s] w fun e w' => e = .returned (.bool true) ∧ Below w.heap.size w w' := by
  obtain ⟨Z, hZ, hZ0, hz, hi⟩ := zero_p
  obtain ⟨E, hE, bE⟩ := built_0 isSt_p
  have HI := Lib.hid hi
  have HZ := Lib.hid hZ.1
  have HBE := Lib.hid bE
  have HE := Lib.hid hE
  have HR := Lib.hid hr
  have hn1 : ¬ (1000 : Int) < s.size := by omega
  have hc1 : (s.size : Int) = 137 := by omega
  clear hr hZ hZ0 hi hE bE hc
  go_enter Try.func4, Try.ntmps4
  go_wp2_with fail
  refine (awake_as w).mono ?_
  rintro e W ⟨rfl, hb⟩
  have HB := Lib.hid hb
  clear hb
  go_wp2_with fail
  refine (HR.out W).mono ?_
  rintro e W1 ⟨⟨T, rfl, hT⟩, hb⟩
  replace HB := Lib.hid (below_trans HB.out hb HB.out.size)
  have HT := Lib.hid hT
  clear hb HR W
  have heq := st_eq_p HT.out HE.out (fun _ _ => rfl)
  have HA := Lib.hid (At.new W1 T 32)
  have HB2 := Lib.hid (HB.out.alloc HB.out.size (.cells T 32))
  clear hT
  go_wp2_with (first
    | (refine wpList_store_row rfl 32 _ _ rfl W1.heap.size T rfl rfl _ _ (heap_alloc_new _ _) (HI.out _ HT.out.1) (by rw [HZ.out, HT.out.1]) HT.out.2.1 ?_; rw [World.setRow_alloc_new])
    | refine wpList_load_all (by rfl) 32 _ rfl W1.heap.size rfl HT.out HA.out Try.underlying32 rfl HI.out ?_
    | refine wpList_build_parts (by rfl) 32 [] rfl _ rfl HBE.out ?_)
  go_ret
  exact ⟨rfl, HB2.out⟩

theorem stateOnly_right (l : List UInt8) (hl : l.length = 137) (hr : Rt (rdF l)) (w : World) :
    Calls Try.prog 4 #[.string ⟨l.toArray⟩] w fun e w' => e = .returned (.bool true) ∧ Below w.heap.size w w' := by
  obtain ⟨Z, hZ, hZ0, hz, hi⟩ := zero_p
  have HI := Lib.hid hi
  have HZ := Lib.hid hZ.1
  have HC := Lib.hid (fun w => read_ok l hl hr w)
  have HR := Lib.hid hr
  have HBY := Lib.hid (fun (T : Array Value) (hT : IsRow 38 (rdF l) T) w => bytes_yes T (rdF l) w hT hr)
  rw [bytes_back hl] at HBY
  unfold RetTx at HBY
  obtain ⟨s, hs⟩ : ∃ s, (⟨l.toArray⟩ : ByteArray) = s := ⟨_, rfl⟩
  have hsz : (s.size : Int) = 137 := by
    rw [← hs]
    simp only [ByteArray.size, List.size_toArray]
    omega
  rw [hs] at HC HBY ⊢
  clear hZ hZ0 hi hr hs hl
  go_enter Try.func4, Try.ntmps4
  go_wp2_with fail
  refine (awake_as w).mono ?_
  rintro e W ⟨rfl, hb⟩
  have HB := Lib.hid hb
  clear hb
  go_wp2_with fail
  refine (HC.out W).mono ?_
  rintro e W1 ⟨⟨T, rfl, hT⟩, hb⟩
  replace HB := Lib.hid (below_trans HB.out hb HB.out.size)
  have HT := Lib.hid hT
  clear hb HC W
  have HA := Lib.hid (At.new W1 T 32)
  have HB2 := Lib.hid (HB.out.alloc HB.out.size (.cells T 32))
  clear hT
  go_wp2_with (first
    | (refine wpList_store_row rfl 32 _ _ rfl W1.heap.size T rfl rfl _ _ (heap_alloc_new _ _) (HI.out _ HT.out.1) (by rw [HZ.out, HT.out.1]) HT.out.2.1 ?_; rw [World.setRow_alloc_new])
    | refine wpList_load_all (by rfl) 32 _ rfl W1.heap.size rfl HT.out HA.out Try.underlying32 rfl HI.out ?_)
  revert HA HB2
  generalize W1.heap.size = b
  generalize W1.alloc _ = W
  intro HA HB
  refine (HBY.out T HT.out W).mono ?_
  rintro e W2 ⟨rfl, hb⟩
  replace HA := Lib.hid (At.two HA.out hb)
  replace HB := Lib.hid (below_trans HB.out hb HB.out.size)
  clear hb HBY
  go_wp2_with (refine wpList_load_all (by rfl) 32 _ rfl b rfl HT.out HA.out Try.underlying32 rfl HI.out ?_)
  refine (right_yes T (rdF l) W2 HT.out HR.out).mono ?_
  rintro e W3 ⟨rfl, hb⟩
  replace HB := Lib.hid (below_trans HB.out hb HB.out.size)
  clear hb
  go_wp2_with fail
  go_ret
  exact ⟨rfl, HB.out⟩

theorem stateOnly_walk (s : ByteArray) (hs : s.size ≤ maxLen) (w : World) :
    Calls Try.prog 4 #[.string s] w fun e w' => e = .returned (.bool true) ∧ Below w.heap.size w w' := by
  by_cases c1 : 1000 < s.size
  · exact stateOnly_long s hs c1 w
  · by_cases c2 : s.size = 137
    · obtain ⟨l, hl⟩ : ∃ l : List UInt8, s = ⟨l.toArray⟩ := ⟨s.data.toList, by simp⟩
      subst hl
      have hl : l.length = 137 := by simpa [ByteArray.size] using c2
      by_cases c3 : Rt (rdF l)
      · exact stateOnly_right l hl c3 w
      · exact stateOnly_bad _ (by omega) c2 (fun w => read_bad l hl c3 w) w
    · exact stateOnly_size s (by omega) c2 (fun w => read_size s w hs c2) w
end Go.Proofs.Ytinbdkneakblfaa.Sta
