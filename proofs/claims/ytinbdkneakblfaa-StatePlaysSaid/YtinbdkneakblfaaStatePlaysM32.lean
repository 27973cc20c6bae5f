/- Texts of the walk, one behind the other. -/
import Derived.Test.YtinbdkneakblfaaStatePlaysM31

section
/- Contracts: state.Read. -/
set_option maxRecDepth 100000
set_option linter.unusedVariables false
namespace Go.Proofs.Ytinbdkneakblfaa.Sta
open Go.RowKit Go.Proofs.Ytinbdkneakblfaa.Row

/-- A state and a number by value. -/
def RetSt (w : World) (g : Nat → Int) (n : Int) (e : Ending) (w' : World) : Prop := (∃ T, e = .returned (.tuple #[.agg T, .int .i64 n]) ∧ IsRow 38 g T) ∧ Below w.heap.size w w'

theorem read_size (s : ByteArray) (w : World) (hs : s.size ≤ maxLen) (hn : s.size ≠ 137) : Calls Try.prog 13 #[.string s] w (RetSt w (fun _ => 0) 10) := by
  obtain ⟨Z, hZ, hZ0, hz, hi⟩ := zero_p
  obtain ⟨E, hE, bE⟩ := built_0 isSt_p
  have HI := Lib.hid hi
  have HZ := Lib.hid hZ.1
  have HE := Lib.hid hE
  have HBE := Lib.hid bE
  have HA := Lib.hid (At.new w Z 32)
  have HB := Lib.hid ((Below.refl w.heap.size w).alloc (Nat.le_refl _) (.cells Z 32))
  unfold maxLen at hs
  have hn' : ¬ (s.size : Int) = 137 := by omega
  clear hZ hZ0 hi hE bE hn
  go_enter Try.func13, Try.ntmps13
  go_wp2_with (first
    | refine wpList_build_parts (by rfl) 32 [] rfl _ rfl HBE.out ?_
    | refine wpList_store_row rfl 32 _ _ rfl w.heap.size E rfl rfl _ _ HA.out (HI.out _ HE.out.1) (by rw [HZ.out, HE.out.1]) HE.out.2.1 ?_)
  exact bodyPost_ret (v := .tuple #[.agg E, .int .i64 10]) (results_any_int rfl _ _ w.heap.size E _ rfl rfl HA.out.setRow Try.underlying32 rfl (HI.out _ HE.out.1)) rfl ⟨⟨E, rfl, HE.out⟩, below_setRow' HB.out (by omega) _⟩

/-- What stands behind parse. -/
def RdS (w : World) (Z T : Array Value) (b : Nat) (w' : World) : Prop := Below w.heap.size w w' ∧ w.heap.size < b ∧ At w' w.heap.size Z 32 ∧ At w' b T 32
theorem RdS.start {w w1 : World} {Z : Array Value} (T : Array Value) (h : Below (w.heap.size + 1) (w.alloc (.cells Z 32)) w1) : RdS w Z T w1.heap.size (w1.alloc (.cells T 32)) := by
  have hs := h.size
  rw [World.size_alloc] at hs
  have hb : Below w.heap.size w w1 := ((Below.refl w.heap.size w).alloc (Nat.le_refl _) _).trans (h.mono (by omega))
  exact ⟨hb.alloc hb.size _, by omega, ((At.new w Z _).below h (by omega)).alloc _, At.new _ _ _⟩
theorem RdS.next {w w1 w2 : World} {Z T : Array Value} {b : Nat} (h : RdS w Z T b w1) (hb : Below w1.heap.size w1 w2) : RdS w Z T b w2 :=
  ⟨below_trans h.1 hb h.1.size, h.2.1, h.2.2.1.below hb h.2.2.1.lt, h.2.2.2.below hb h.2.2.2.lt⟩

set_option maxHeartbeats 400000 in
theorem read_ok (l : List UInt8) (hl : l.length = 137) (hr : Rt (rdF l)) (w : World) : Calls Try.prog 13 #[.string ⟨l.toArray⟩] w (RetSt w (rdF l) 0) := by
  obtain ⟨Z, hZ, hZ0, hz, hi⟩ := zero_p
  have HI := Lib.hid hi
  have HZ := Lib.hid hZ.1
  have HR := Lib.hid hr
  have HP := Lib.hid (parse_as l hl)
  obtain ⟨s, hs⟩ : ∃ s, (⟨l.toArray⟩ : ByteArray) = s := ⟨_, rfl⟩
  have hsz : s.size = 137 := by rw [← hs]; simpa [ByteArray.size] using hl
  rw [hs] at HP
  rw [hs]
  clear hZ hZ0 hi hr hs hl
  go_enter Try.func13, Try.ntmps13
  go_wp2_with fail
  refine (HP.out _).mono ?_
  rintro e w1 ⟨⟨T, rfl, hT⟩, hw⟩
  rw [World.size_alloc] at hw
  have HT := Lib.hid hT
  have HS := Lib.hid (RdS.start T hw)
  clear hT hw HP
  go_wp2_with (first
    | (refine wpList_store_row rfl 32 _ _ rfl w1.heap.size T rfl rfl _ _ (heap_alloc_new _ _) (HI.out _ HT.out.1) (by rw [HZ.out, HT.out.1]) HT.out.2.1 ?_; rw [World.setRow_alloc_new])
    | refine wpList_load_all (by rfl) 32 _ rfl w1.heap.size rfl HT.out HS.out.2.2.2 Try.underlying32 rfl HI.out ?_)
  revert HS
  generalize w1.alloc (.cells T 32) = W
  generalize w1.heap.size = b
  intro HS
  refine (right_yes T _ _ HT.out HR.out).mono ?_
  rintro e W1 ⟨rfl, hw⟩
  have HS1 := Lib.hid (HS.out.next hw)
  clear HS hw
  go_wp2_with (first
    | refine wpList_load_all (by rfl) 32 _ rfl b rfl HT.out HS1.out.2.2.2 Try.underlying32 rfl HI.out ?_
    | refine wpList_store_row rfl 32 _ _ rfl w.heap.size T rfl rfl _ _ HS1.out.2.2.1 (HI.out _ HT.out.1) (by rw [HZ.out, HT.out.1]) HT.out.2.1 ?_)
  exact bodyPost_ret (v := .tuple #[.agg T, .int .i64 0]) (results_any_int rfl _ _ w.heap.size T _ rfl rfl HS1.out.2.2.1.setRow Try.underlying32 rfl (HI.out _ HT.out.1)) rfl ⟨⟨T, rfl, HT.out⟩, below_setRow' HS1.out.1 (by omega) _⟩

set_option maxHeartbeats 400000 in
theorem read_bad (l : List UInt8) (hl : l.length = 137) (hr : ¬ Rt (rdF l)) (w : World) : Calls Try.prog 13 #[.string ⟨l.toArray⟩] w (RetSt w (fun _ => 0) 4) := by
  obtain ⟨Z, hZ, hZ0, hz, hi⟩ := zero_p
  obtain ⟨E, hE, bE⟩ := built_0 isSt_p
  have HI := Lib.hid hi
  have HZ := Lib.hid hZ.1
  have HR := Lib.hid hr
  have HE := Lib.hid hE
  have HBE := Lib.hid bE
  have HP := Lib.hid (parse_as l hl)
  obtain ⟨s, hs⟩ : ∃ s, (⟨l.toArray⟩ : ByteArray) = s := ⟨_, rfl⟩
  have hsz : s.size = 137 := by rw [← hs]; simpa [ByteArray.size] using hl
  rw [hs] at HP
  rw [hs]
  clear hZ hZ0 hi hr hs hl hE bE
  go_enter Try.func13, Try.ntmps13
  go_wp2_with fail
  refine (HP.out _).mono ?_
  rintro e w1 ⟨⟨T, rfl, hT⟩, hw⟩
  rw [World.size_alloc] at hw
  have HT := Lib.hid hT
  have HS := Lib.hid (RdS.start T hw)
  clear hT hw HP
  go_wp2_with (first
    | (refine wpList_store_row rfl 32 _ _ rfl w1.heap.size T rfl rfl _ _ (heap_alloc_new _ _) (HI.out _ HT.out.1) (by rw [HZ.out, HT.out.1]) HT.out.2.1 ?_; rw [World.setRow_alloc_new])
    | refine wpList_load_all (by rfl) 32 _ rfl w1.heap.size rfl HT.out HS.out.2.2.2 Try.underlying32 rfl HI.out ?_)
  revert HS
  generalize w1.alloc (.cells T 32) = W
  generalize w1.heap.size = b
  intro HS
  refine (right_no T _ _ HT.out HR.out).mono ?_
  rintro e W1 ⟨rfl, hw⟩
  have HS1 := Lib.hid (HS.out.next hw)
  clear HS hw
  go_wp2_with (first
    | refine wpList_build_parts (by rfl) 32 [] rfl _ rfl HBE.out ?_
    | refine wpList_store_row rfl 32 _ _ rfl w.heap.size E rfl rfl _ _ HS1.out.2.2.1 (HI.out _ HE.out.1) (by rw [HZ.out, HE.out.1]) HE.out.2.1 ?_)
  exact bodyPost_ret (v := .tuple #[.agg E, .int .i64 4]) (results_any_int rfl _ _ w.heap.size E _ rfl rfl HS1.out.2.2.1.setRow Try.underlying32 rfl (HI.out _ HE.out.1)) rfl ⟨⟨E, rfl, HE.out⟩, below_setRow' HS1.out.1 (by omega) _⟩
end Go.Proofs.Ytinbdkneakblfaa.Sta
end
