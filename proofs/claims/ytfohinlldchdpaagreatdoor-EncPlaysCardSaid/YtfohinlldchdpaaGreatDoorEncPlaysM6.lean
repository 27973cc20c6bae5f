/- Texts of the walk, one behind the other. -/
import Derived.Test.YtfohinlldchdpaaGreatDoorEncPlaysM2
import Derived.Test.YtfohinlldchdpaaGreatDoorEncPlaysM5
import Derived.Test.YtfohinlldchdpaaGreatDoorEncPlaysM1
import Derived.Test.YtfohinlldchdpaaGreatDoorEncPlaysM8

section
/- Contracts: state.within, state.Right. -/
set_option maxRecDepth 100000
set_option linter.unusedVariables false
namespace Go.Proofs.YtfohinlldchdpaaGreatDoor.Sta
open Go.RowKit Go.Proofs.YtfohinlldchdpaaGreatDoor.Row Go.Proofs.YtfohinlldchdpaaGreatDoor.Md

theorem within_yes (lo hi : Int) (a : Option Addr) (n c : Nat) (h : Nat → Int) (w : World) (hS : Sl .i64 w a n c h) (hn : n ≤ 16) (hh : ∀ i, i < n → lo ≤ h i ∧ h i ≤ hi) :
    Calls Tryz.prog 81 #[.int .i64 lo, .int .i64 hi, .slice a n c] w fun e w' => e = .returned (.bool true) ∧ w = w' := by
  have HS := Lib.hid hS.2.2
  have HF := Lib.hid hh
  clear hS hh
  go_enter Tryz.func81, Tryz.ntmps81
  go_wp2_with fail
  go_loop [11] (fun i => ∃ k : Nat, k ≤ n ∧ i = .int .i64 k) (fun i => n - (intOf i).toNat)
  case atStart => exact ⟨0, Nat.zero_le _, rfl⟩
  case round =>
    obtain ⟨k, hk, rfl⟩ := hrel
    by_cases hlt : k < n
    · obtain ⟨b, o, rfl, hc⟩ := HS.out (by omega)
      have c0 := hc k hlt
      clear hc
      obtain ⟨x0, x1⟩ := HF.out k hlt
      obtain ⟨x, hx⟩ : ∃ x, h k = x := ⟨_, rfl⟩
      rw [hx] at c0 x0 x1
      clear hx
      go_wp2_with fail
      go_round
      case rel => exact ⟨k + 1, by omega, by go_num⟩
      case measure => simp [intOf]; omega
    · obtain rfl : k = n := by omega
      go_wp2_with fail
      go_ret
      exact ⟨rfl, rfl⟩

theorem within_no (lo hi : Int) (a : Option Addr) (n c : Nat) (h : Nat → Int) (w : World) (hS : Sl .i64 w a n c h) (hn : n ≤ 16) (hh : ¬ ∀ i, i < n → lo ≤ h i ∧ h i ≤ hi) :
    Calls Tryz.prog 81 #[.int .i64 lo, .int .i64 hi, .slice a n c] w fun e w' => e = .returned (.bool false) ∧ w = w' := by
  obtain ⟨j, hj, hbad, hpre⟩ := first_bad hh
  have HS := Lib.hid hS.2.2
  have HF := Lib.hid hpre
  have HB := Lib.hid hbad
  clear hS hh hpre hbad
  go_enter Tryz.func81, Tryz.ntmps81
  go_wp2_with fail
  go_loop [11] (fun i => ∃ k : Nat, k ≤ j ∧ i = .int .i64 k) (fun i => n - (intOf i).toNat)
  case atStart => exact ⟨0, Nat.zero_le _, rfl⟩
  case round =>
    obtain ⟨k, hk, rfl⟩ := hrel
    have hlt : k < n := by omega
    obtain ⟨b, o, rfl, hc⟩ := HS.out (by omega)
    have c0 := hc k hlt
    clear hc
    obtain ⟨x, hx⟩ : ∃ x, h k = x := ⟨_, rfl⟩
    rw [hx] at c0
    by_cases hkj : k < j
    · obtain ⟨x0, x1⟩ := HF.out k hkj
      rw [hx] at x0 x1
      clear hx
      go_wp2_with fail
      go_round
      case rel => exact ⟨k + 1, by omega, by go_num⟩
      case measure => simp [intOf]; omega
    · obtain rfl : k = j := by omega
      have hb := HB.out
      rw [hx] at hb
      clear hx
      by_cases c1 : x < lo
      · go_wp2_with fail
        go_ret
        exact ⟨rfl, rfl⟩
      · have c2 : hi < x := by omega
        go_wp2_with fail
        go_ret
        exact ⟨rfl, rfl⟩
end Go.Proofs.YtfohinlldchdpaaGreatDoor.Sta
end

section
/- Contracts: state.Right. Written by g25.py. -/
set_option maxRecDepth 100000
set_option linter.unusedVariables false
namespace Go.Proofs.YtfohinlldchdpaaGreatDoor.Sta
open Go.RowKit Go.Proofs.YtfohinlldchdpaaGreatDoor.Row Go.Proofs.YtfohinlldchdpaaGreatDoor.Md

theorem isRow_one (x : Int) : IsRow 1 (fun _ => x) #[.int .i64 x] := isRow_of rfl fun k hk => by
  obtain rfl : k = 0 := by omega
  rfl
theorem Sl.one (W : World) (x : Int) : Sl .i64 (W.alloc (.cells #[.int .i64 x] 3)) (some ⟨W.heap.size, 0, none⟩) 1 1 (fun _ => x) := Sl.of_isRow (isRow_one x) (At.new _ _ _) (by unfold maxLen; omega)
theorem Sl.part {w : World} {g m l n : Nat} {f h : Nat → Int} {T : Array Value} {t : TypeId} (hT : IsRow m f T) (hA : At w g T t) (hm : l + n ≤ m) (hc : n ≤ maxLen) (e : ∀ i, i < n → f (l + i) = h i) : Sl .i64 w (some ⟨g, l, none⟩) n n h := (Sl.of_part hT hA l n hm hc).ext e

set_option maxHeartbeats 400000 in
theorem right_0 (T : Array Value) (f : Nat → Int) (w : World) (hT : IsRow 38 f T) (h0 : ¬ (∀ i, i < 16 → -2147483648 ≤ f i ∧ f i ≤ 2147483647)) :
    Calls Tryz.prog 32 #[.agg T] w fun e w' => e = .returned (.bool false) ∧ Below w.heap.size w w' := by
  obtain ⟨Z, hZ, hZ0, hz, hi⟩ := zero_block
  have HI := Lib.hid hi
  have HT := Lib.hid hT
  have HU := Lib.hid (hT.sub (show 21 + 16 ≤ 38 by omega))
  have HA := Lib.hid (At.new w T 34)
  have HB := Lib.hid ((Below.refl w.heap.size w).alloc (Nat.le_refl _) (.cells T 34))
  have H0 := Lib.hid h0
  clear hT hZ0 hi hZ h0
  go_enter Tryz.func32, Tryz.ntmps32
  go_wp2_with fail
  revert HA HB
  generalize w.alloc (.cells T 34) = W
  intro HA HB
  refine (within_no _ _ _ 16 16 f W (Sl.part HT.out HA.out (by omega) (by unfold maxLen; omega) fun i _ => by rw [Nat.zero_add]) (by omega) H0.out).mono ?_
  rintro e w1 ⟨rfl, rfl⟩
  go_wp2_with fail
  go_ret
  exact ⟨rfl, HB.out⟩

set_option maxHeartbeats 400000 in
theorem right_1 (T : Array Value) (f : Nat → Int) (w : World) (hT : IsRow 38 f T) (h0 : (∀ i, i < 16 → -2147483648 ≤ f i ∧ f i ≤ 2147483647)) (h1 : ¬ (∀ i, i < 1 → -2097152 ≤ f 16 ∧ f 16 ≤ 2097151)) :
    Calls Tryz.prog 32 #[.agg T] w fun e w' => e = .returned (.bool false) ∧ Below w.heap.size w w' := by
  obtain ⟨Z, hZ, hZ0, hz, hi⟩ := zero_block
  have HI := Lib.hid hi
  have HT := Lib.hid hT
  have HU := Lib.hid (hT.sub (show 21 + 16 ≤ 38 by omega))
  have HA := Lib.hid (At.new w T 34)
  have HB := Lib.hid ((Below.refl w.heap.size w).alloc (Nat.le_refl _) (.cells T 34))
  have H0 := Lib.hid h0
  have H1 := Lib.hid h1
  clear hT hZ0 hi hZ h0 h1
  go_enter Tryz.func32, Tryz.ntmps32
  go_wp2_with fail
  revert HA HB
  generalize w.alloc (.cells T 34) = W
  intro HA HB
  refine (within_yes _ _ _ 16 16 f W (Sl.part HT.out HA.out (by omega) (by unfold maxLen; omega) fun i _ => by rw [Nat.zero_add]) (by omega) H0.out).mono ?_
  rintro e w1 ⟨rfl, rfl⟩
  have c16 := HT.out.cell HA.out 16 (by omega)
  obtain ⟨x16, hx16⟩ : ∃ x, f 16 = x := ⟨_, rfl⟩
  rw [hx16] at c16 H1
  clear hx16
  go_wp2_with fail
  clear c16
  have HSl := Lib.hid (Sl.one W x16)
  have HA1 := Lib.hid (HA.out.alloc (.cells #[.int .i64 x16] 3))
  have HB1 := Lib.hid (HB.out.alloc HB.out.size (.cells #[.int .i64 x16] 3))
  clear HA HB
  revert HSl HA1 HB1
  generalize W.alloc (.cells #[.int .i64 x16] 3) = W'
  generalize W.heap.size = s
  intro HSl HA' HB'
  clear W
  refine (within_no _ _ _ 1 1 _ W' HSl.out (by omega) H1.out).mono ?_
  rintro e w1 ⟨rfl, rfl⟩
  clear HSl
  go_wp2_with fail
  go_ret
  exact ⟨rfl, HB'.out⟩

set_option maxHeartbeats 400000 in
theorem right_2 (T : Array Value) (f : Nat → Int) (w : World) (hT : IsRow 38 f T) (h0 : (∀ i, i < 16 → -2147483648 ≤ f i ∧ f i ≤ 2147483647)) (h1 : (∀ i, i < 1 → -2097152 ≤ f 16 ∧ f 16 ≤ 2097151)) (h2 : ¬ (∀ i, i < 4 → 0 ≤ f (17 + i) ∧ f (17 + i) ≤ 20)) :
    Calls Tryz.prog 32 #[.agg T] w fun e w' => e = .returned (.bool false) ∧ Below w.heap.size w w' := by
  obtain ⟨Z, hZ, hZ0, hz, hi⟩ := zero_block
  have HI := Lib.hid hi
  have HT := Lib.hid hT
  have HU := Lib.hid (hT.sub (show 21 + 16 ≤ 38 by omega))
  have HA := Lib.hid (At.new w T 34)
  have HB := Lib.hid ((Below.refl w.heap.size w).alloc (Nat.le_refl _) (.cells T 34))
  have H0 := Lib.hid h0
  have H1 := Lib.hid h1
  have H2 := Lib.hid h2
  clear hT hZ0 hi hZ h0 h1 h2
  go_enter Tryz.func32, Tryz.ntmps32
  go_wp2_with fail
  revert HA HB
  generalize w.alloc (.cells T 34) = W
  intro HA HB
  refine (within_yes _ _ _ 16 16 f W (Sl.part HT.out HA.out (by omega) (by unfold maxLen; omega) fun i _ => by rw [Nat.zero_add]) (by omega) H0.out).mono ?_
  rintro e w1 ⟨rfl, rfl⟩
  have c16 := HT.out.cell HA.out 16 (by omega)
  obtain ⟨x16, hx16⟩ : ∃ x, f 16 = x := ⟨_, rfl⟩
  rw [hx16] at c16 H1
  clear hx16
  go_wp2_with fail
  clear c16
  have HSl := Lib.hid (Sl.one W x16)
  have HA1 := Lib.hid (HA.out.alloc (.cells #[.int .i64 x16] 3))
  have HB1 := Lib.hid (HB.out.alloc HB.out.size (.cells #[.int .i64 x16] 3))
  clear HA HB
  revert HSl HA1 HB1
  generalize W.alloc (.cells #[.int .i64 x16] 3) = W'
  generalize W.heap.size = s
  intro HSl HA' HB'
  clear W
  refine (within_yes _ _ _ 1 1 _ W' HSl.out (by omega) H1.out).mono ?_
  rintro e w1 ⟨rfl, rfl⟩
  clear HSl
  go_wp2_with fail
  refine (within_no _ _ _ 4 4 _ W' (Sl.of_part HT.out HA'.out 17 4 (by omega) (by unfold maxLen; omega)) (by omega) H2.out).mono ?_
  rintro e w1 ⟨rfl, rfl⟩
  go_wp2_with fail
  go_ret
  exact ⟨rfl, HB'.out⟩

set_option maxHeartbeats 400000 in
theorem right_3 (T : Array Value) (f : Nat → Int) (w : World) (hT : IsRow 38 f T) (h0 : (∀ i, i < 16 → -2147483648 ≤ f i ∧ f i ≤ 2147483647)) (h1 : (∀ i, i < 1 → -2097152 ≤ f 16 ∧ f 16 ≤ 2097151)) (h2 : (∀ i, i < 4 → 0 ≤ f (17 + i) ∧ f (17 + i) ≤ 20)) (h3 : ¬ (Le 1048576 (fun i => f (21 + i)))) :
    Calls Tryz.prog 32 #[.agg T] w fun e w' => e = .returned (.bool false) ∧ Below w.heap.size w w' := by
  obtain ⟨Z, hZ, hZ0, hz, hi⟩ := zero_block
  have HI := Lib.hid hi
  have HT := Lib.hid hT
  have HU := Lib.hid (hT.sub (show 21 + 16 ≤ 38 by omega))
  have HA := Lib.hid (At.new w T 34)
  have HB := Lib.hid ((Below.refl w.heap.size w).alloc (Nat.le_refl _) (.cells T 34))
  have H0 := Lib.hid h0
  have H1 := Lib.hid h1
  have H2 := Lib.hid h2
  have H3 := Lib.hid h3
  clear hT hZ0 hi hZ h0 h1 h2 h3
  go_enter Tryz.func32, Tryz.ntmps32
  go_wp2_with fail
  revert HA HB
  generalize w.alloc (.cells T 34) = W
  intro HA HB
  refine (within_yes _ _ _ 16 16 f W (Sl.part HT.out HA.out (by omega) (by unfold maxLen; omega) fun i _ => by rw [Nat.zero_add]) (by omega) H0.out).mono ?_
  rintro e w1 ⟨rfl, rfl⟩
  have c16 := HT.out.cell HA.out 16 (by omega)
  obtain ⟨x16, hx16⟩ : ∃ x, f 16 = x := ⟨_, rfl⟩
  rw [hx16] at c16 H1
  clear hx16
  go_wp2_with fail
  clear c16
  have HSl := Lib.hid (Sl.one W x16)
  have HA1 := Lib.hid (HA.out.alloc (.cells #[.int .i64 x16] 3))
  have HB1 := Lib.hid (HB.out.alloc HB.out.size (.cells #[.int .i64 x16] 3))
  clear HA HB
  revert HSl HA1 HB1
  generalize W.alloc (.cells #[.int .i64 x16] 3) = W'
  generalize W.heap.size = s
  intro HSl HA' HB'
  clear W
  refine (within_yes _ _ _ 1 1 _ W' HSl.out (by omega) H1.out).mono ?_
  rintro e w1 ⟨rfl, rfl⟩
  clear HSl
  go_wp2_with fail
  refine (within_yes _ _ _ 4 4 _ W' (Sl.of_part HT.out HA'.out 17 4 (by omega) (by unfold maxLen; omega)) (by omega) H2.out).mono ?_
  rintro e w1 ⟨rfl, rfl⟩
  go_wp2_with (refine wpList_load_part (by rfl) 32 _ rfl w.heap.size 21 rfl HT.out HA'.out HU.out (by omega) (fun i _ => rfl) Tryz.underlying32 rfl (HI.out _ HU.out.1) ?_)
  refine (held_no _ _ HU.out H3.out W').mono ?_
  rintro e W'' ⟨rfl, hw⟩
  have HA'' := Lib.hid (HA'.out.below hw HA'.out.lt)
  have HB'' := Lib.hid (below_trans HB'.out hw HB'.out.size)
  clear HA' HB' hw
  clear W'
  go_wp2_with fail
  go_ret
  exact ⟨rfl, HB''.out⟩

set_option maxHeartbeats 400000 in
theorem right_4 (T : Array Value) (f : Nat → Int) (w : World) (hT : IsRow 38 f T) (h0 : (∀ i, i < 16 → -2147483648 ≤ f i ∧ f i ≤ 2147483647)) (h1 : (∀ i, i < 1 → -2097152 ≤ f 16 ∧ f 16 ≤ 2097151)) (h2 : (∀ i, i < 4 → 0 ≤ f (17 + i) ∧ f (17 + i) ≤ 20)) (h3 : (Le 1048576 (fun i => f (21 + i)))) (h4 : ¬ (∀ i, i < 1 → 0 ≤ f 37 ∧ f 37 ≤ 255)) :
    Calls Tryz.prog 32 #[.agg T] w fun e w' => e = .returned (.bool false) ∧ Below w.heap.size w w' := by
  obtain ⟨Z, hZ, hZ0, hz, hi⟩ := zero_block
  have HI := Lib.hid hi
  have HT := Lib.hid hT
  have HU := Lib.hid (hT.sub (show 21 + 16 ≤ 38 by omega))
  have HA := Lib.hid (At.new w T 34)
  have HB := Lib.hid ((Below.refl w.heap.size w).alloc (Nat.le_refl _) (.cells T 34))
  have H0 := Lib.hid h0
  have H1 := Lib.hid h1
  have H2 := Lib.hid h2
  have H3 := Lib.hid h3
  have H4 := Lib.hid h4
  clear hT hZ0 hi hZ h0 h1 h2 h3 h4
  go_enter Tryz.func32, Tryz.ntmps32
  go_wp2_with fail
  revert HA HB
  generalize w.alloc (.cells T 34) = W
  intro HA HB
  refine (within_yes _ _ _ 16 16 f W (Sl.part HT.out HA.out (by omega) (by unfold maxLen; omega) fun i _ => by rw [Nat.zero_add]) (by omega) H0.out).mono ?_
  rintro e w1 ⟨rfl, rfl⟩
  have c16 := HT.out.cell HA.out 16 (by omega)
  obtain ⟨x16, hx16⟩ : ∃ x, f 16 = x := ⟨_, rfl⟩
  rw [hx16] at c16 H1
  clear hx16
  go_wp2_with fail
  clear c16
  have HSl := Lib.hid (Sl.one W x16)
  have HA1 := Lib.hid (HA.out.alloc (.cells #[.int .i64 x16] 3))
  have HB1 := Lib.hid (HB.out.alloc HB.out.size (.cells #[.int .i64 x16] 3))
  clear HA HB
  revert HSl HA1 HB1
  generalize W.alloc (.cells #[.int .i64 x16] 3) = W'
  generalize W.heap.size = s
  intro HSl HA' HB'
  clear W
  refine (within_yes _ _ _ 1 1 _ W' HSl.out (by omega) H1.out).mono ?_
  rintro e w1 ⟨rfl, rfl⟩
  clear HSl
  go_wp2_with fail
  refine (within_yes _ _ _ 4 4 _ W' (Sl.of_part HT.out HA'.out 17 4 (by omega) (by unfold maxLen; omega)) (by omega) H2.out).mono ?_
  rintro e w1 ⟨rfl, rfl⟩
  go_wp2_with (refine wpList_load_part (by rfl) 32 _ rfl w.heap.size 21 rfl HT.out HA'.out HU.out (by omega) (fun i _ => rfl) Tryz.underlying32 rfl (HI.out _ HU.out.1) ?_)
  refine (held_yes _ _ HU.out H3.out W').mono ?_
  rintro e W'' ⟨rfl, hw⟩
  have HA'' := Lib.hid (HA'.out.below hw HA'.out.lt)
  have HB'' := Lib.hid (below_trans HB'.out hw HB'.out.size)
  clear HA' HB' hw
  clear W'
  have c37 := HT.out.cell HA''.out 37 (by omega)
  obtain ⟨x37, hx37⟩ : ∃ x, f 37 = x := ⟨_, rfl⟩
  rw [hx37] at c37 H4
  clear hx37
  go_wp2_with fail
  clear c37
  have HSl := Lib.hid (Sl.one W'' x37)
  have HA1 := Lib.hid (HA''.out.alloc (.cells #[.int .i64 x37] 3))
  have HB1 := Lib.hid (HB''.out.alloc HB''.out.size (.cells #[.int .i64 x37] 3))
  clear HA'' HB''
  revert HSl HA1 HB1
  generalize W''.alloc (.cells #[.int .i64 x37] 3) = W'''
  generalize W''.heap.size = s
  intro HSl HA''' HB'''
  clear W''
  refine (within_no _ _ _ 1 1 _ W''' HSl.out (by omega) H4.out).mono ?_
  rintro e w1 ⟨rfl, rfl⟩
  clear HSl
  go_wp2_with fail
  go_ret
  exact ⟨rfl, HB'''.out⟩

set_option maxHeartbeats 400000 in
theorem right_5 (T : Array Value) (f : Nat → Int) (w : World) (hT : IsRow 38 f T) (h0 : (∀ i, i < 16 → -2147483648 ≤ f i ∧ f i ≤ 2147483647)) (h1 : (∀ i, i < 1 → -2097152 ≤ f 16 ∧ f 16 ≤ 2097151)) (h2 : (∀ i, i < 4 → 0 ≤ f (17 + i) ∧ f (17 + i) ≤ 20)) (h3 : (Le 1048576 (fun i => f (21 + i)))) (h4 : (∀ i, i < 1 → 0 ≤ f 37 ∧ f 37 ≤ 255)) :
    Calls Tryz.prog 32 #[.agg T] w fun e w' => e = .returned (.bool true) ∧ Below w.heap.size w w' := by
  obtain ⟨Z, hZ, hZ0, hz, hi⟩ := zero_block
  have HI := Lib.hid hi
  have HT := Lib.hid hT
  have HU := Lib.hid (hT.sub (show 21 + 16 ≤ 38 by omega))
  have HA := Lib.hid (At.new w T 34)
  have HB := Lib.hid ((Below.refl w.heap.size w).alloc (Nat.le_refl _) (.cells T 34))
  have H0 := Lib.hid h0
  have H1 := Lib.hid h1
  have H2 := Lib.hid h2
  have H3 := Lib.hid h3
  have H4 := Lib.hid h4
  clear hT hZ0 hi hZ h0 h1 h2 h3 h4
  go_enter Tryz.func32, Tryz.ntmps32
  go_wp2_with fail
  revert HA HB
  generalize w.alloc (.cells T 34) = W
  intro HA HB
  refine (within_yes _ _ _ 16 16 f W (Sl.part HT.out HA.out (by omega) (by unfold maxLen; omega) fun i _ => by rw [Nat.zero_add]) (by omega) H0.out).mono ?_
  rintro e w1 ⟨rfl, rfl⟩
  have c16 := HT.out.cell HA.out 16 (by omega)
  obtain ⟨x16, hx16⟩ : ∃ x, f 16 = x := ⟨_, rfl⟩
  rw [hx16] at c16 H1
  clear hx16
  go_wp2_with fail
  clear c16
  have HSl := Lib.hid (Sl.one W x16)
  have HA1 := Lib.hid (HA.out.alloc (.cells #[.int .i64 x16] 3))
  have HB1 := Lib.hid (HB.out.alloc HB.out.size (.cells #[.int .i64 x16] 3))
  clear HA HB
  revert HSl HA1 HB1
  generalize W.alloc (.cells #[.int .i64 x16] 3) = W'
  generalize W.heap.size = s
  intro HSl HA' HB'
  clear W
  refine (within_yes _ _ _ 1 1 _ W' HSl.out (by omega) H1.out).mono ?_
  rintro e w1 ⟨rfl, rfl⟩
  clear HSl
  go_wp2_with fail
  refine (within_yes _ _ _ 4 4 _ W' (Sl.of_part HT.out HA'.out 17 4 (by omega) (by unfold maxLen; omega)) (by omega) H2.out).mono ?_
  rintro e w1 ⟨rfl, rfl⟩
  go_wp2_with (refine wpList_load_part (by rfl) 32 _ rfl w.heap.size 21 rfl HT.out HA'.out HU.out (by omega) (fun i _ => rfl) Tryz.underlying32 rfl (HI.out _ HU.out.1) ?_)
  refine (held_yes _ _ HU.out H3.out W').mono ?_
  rintro e W'' ⟨rfl, hw⟩
  have HA'' := Lib.hid (HA'.out.below hw HA'.out.lt)
  have HB'' := Lib.hid (below_trans HB'.out hw HB'.out.size)
  clear HA' HB' hw
  clear W'
  have c37 := HT.out.cell HA''.out 37 (by omega)
  obtain ⟨x37, hx37⟩ : ∃ x, f 37 = x := ⟨_, rfl⟩
  rw [hx37] at c37 H4
  clear hx37
  go_wp2_with fail
  clear c37
  have HSl := Lib.hid (Sl.one W'' x37)
  have HA1 := Lib.hid (HA''.out.alloc (.cells #[.int .i64 x37] 3))
  have HB1 := Lib.hid (HB''.out.alloc HB''.out.size (.cells #[.int .i64 x37] 3))
  clear HA'' HB''
  revert HSl HA1 HB1
  generalize W''.alloc (.cells #[.int .i64 x37] 3) = W'''
  generalize W''.heap.size = s
  intro HSl HA''' HB'''
  clear W''
  refine (within_yes _ _ _ 1 1 _ W''' HSl.out (by omega) H4.out).mono ?_
  rintro e w1 ⟨rfl, rfl⟩
  clear HSl
  go_wp2_with fail
  go_ret
  exact ⟨rfl, HB'''.out⟩

theorem right_yes (T : Array Value) (f : Nat → Int) (w : World) (hT : IsRow 38 f T) (h : Rt f) :
    Calls Tryz.prog 32 #[.agg T] w fun e w' => e = .returned (.bool true) ∧ Below w.heap.size w w' :=
  right_5 T f w hT h.1 (fun _ _ => h.2.1) h.2.2.1 h.2.2.2.1 (fun _ _ => h.2.2.2.2)
theorem right_no (T : Array Value) (f : Nat → Int) (w : World) (hT : IsRow 38 f T) (h : ¬ Rt f) :
    Calls Tryz.prog 32 #[.agg T] w fun e w' => e = .returned (.bool false) ∧ Below w.heap.size w w' := by
  by_cases h0 : (∀ i, i < 16 → -2147483648 ≤ f i ∧ f i ≤ 2147483647)
  · by_cases h1 : (∀ i, i < 1 → -2097152 ≤ f 16 ∧ f 16 ≤ 2097151)
    · by_cases h2 : (∀ i, i < 4 → 0 ≤ f (17 + i) ∧ f (17 + i) ≤ 20)
      · by_cases h3 : (Le 1048576 (fun i => f (21 + i)))
        · exact right_4 T f w hT h0 h1 h2 h3 fun h4 => h ⟨h0, h1 0 (by omega), h2, h3, h4 0 (by omega)⟩
        · exact right_3 T f w hT h0 h1 h2 h3
      · exact right_2 T f w hT h0 h1 h2
    · exact right_1 T f w hT h0 h1
  · exact right_0 T f w hT h0
end Go.Proofs.YtfohinlldchdpaaGreatDoor.Sta
end

section
/- Contracts: the statements' Of and Plain. -/
set_option maxRecDepth 100000
set_option linter.unusedVariables false
namespace Go.Proofs.YtfohinlldchdpaaGreatDoor.Sta
open Go.RowKit Go.Proofs.YtfohinlldchdpaaGreatDoor.Row Go.Proofs.YtfohinlldchdpaaGreatDoor.Md

theorem built_same {t : TypeId} (ht : IsSt t) {T : Array Value} {f : Nat → Int} (hT : IsRow 38 f T) : Tryz.prog.built t [(0, .agg (T.extract 0 (0 + 16))), (1, .int .i64 (f 16)), (2, .agg (T.extract 17 (17 + 4))), (3, .agg (T.extract 21 (21 + 16))), (4, .int .i64 (f 37))] = some T := by
  obtain ⟨U, hU, e⟩ := built_5 ht (hT.sub (show 0 + 16 ≤ 38 by omega)) (f 16) (hT.sub (show 17 + 4 ≤ 38 by omega)) (hT.sub (show 21 + 16 ≤ 38 by omega)) (f 37)
  rw [e]
  exact congrArg some (hU.eq hT fun k hk => by
    have := stF_self f hk
    unfold stF at this ⊢
    rw [← this]
    simp only [Nat.zero_add])

set_option maxHeartbeats 400000 in
theorem of_as (T : Array Value) (f : Nat → Int) (w : World) (hT : IsRow 38 f T) :
    Calls Tryz.prog 29 #[.agg T] w fun e w' => e = .returned (.agg T) ∧ Below w.heap.size w w' := by
  obtain ⟨Z, hZ, hZ0, hz, hi⟩ := zero_p
  obtain ⟨_, _, _, _, hib⟩ := zero_a
  obtain ⟨_, _, _, _, hi4⟩ := zero_4
  have HI := Lib.hid hi
  have HIB := Lib.hid hib
  have HI4 := Lib.hid hi4
  have HT := Lib.hid hT
  have HM := Lib.hid (hT.sub (show 0 + 16 ≤ 38 by omega))
  have HV := Lib.hid (hT.sub (show 17 + 4 ≤ 38 by omega))
  have HU := Lib.hid (hT.sub (show 21 + 16 ≤ 38 by omega))
  have HE := Lib.hid (built_same isSt_p hT)
  have HZ := Lib.hid hZ.1
  have h0 := (At.new w T 25).alloc (.cells Z 34)
  have h1 := At.new (w.alloc (.cells T 25)) Z 34
  rw [World.size_alloc] at h1
  have H0 := Lib.hid h0
  have H1 := Lib.hid h1
  have HB := Lib.hid (((Below.refl w.heap.size w).alloc (Nat.le_refl _) (.cells T 25)).alloc (by simp) (.cells Z 34))
  have c16 := hT.cell h0 16 (by omega)
  have c37 := hT.cell h0 37 (by omega)
  obtain ⟨x, hx⟩ : ∃ x, f 16 = x := ⟨_, rfl⟩
  obtain ⟨y, hy⟩ : ∃ x, f 37 = x := ⟨_, rfl⟩
  obtain ⟨M, hM⟩ : ∃ M, T.extract 0 (0 + 16) = M := ⟨_, rfl⟩
  obtain ⟨V, hV⟩ : ∃ M, T.extract 17 (17 + 4) = M := ⟨_, rfl⟩
  obtain ⟨U, hU⟩ : ∃ M, T.extract 21 (21 + 16) = M := ⟨_, rfl⟩
  rw [hx, hy, hM, hV, hU] at HE
  rw [hM] at HM
  rw [hV] at HV
  rw [hU] at HU
  rw [hx] at c16
  rw [hy] at c37
  clear hT hZ hZ0 hi hib hi4 h0 h1 hx hy hM hV hU
  go_enter Tryz.func29, Tryz.ntmps29
  go_wp2_with (first
    | refine wpList_load_part (by rfl) 22 _ rfl w.heap.size 0 rfl HT.out H0.out HM.out (by omega) (fun i _ => rfl) Tryz.underlying22 rfl (HIB.out _ HM.out.1) ?_
    | refine wpList_load_part (by rfl) 23 _ rfl w.heap.size 17 rfl HT.out H0.out HV.out (by omega) (fun i _ => rfl) Tryz.underlying23 rfl (HI4.out _ HV.out.1) ?_
    | refine wpList_load_part (by rfl) 22 _ rfl w.heap.size 21 rfl HT.out H0.out HU.out (by omega) (fun i _ => rfl) Tryz.underlying22 rfl (HIB.out _ HU.out.1) ?_
    | refine wpList_build_parts (by rfl) 34 _ rfl _ rfl HE.out ?_
    | refine wpList_store_row rfl 34 _ _ rfl (w.heap.size + 1) T rfl rfl _ _ H1.out (HI.out _ HT.out.1) (by rw [HZ.out, HT.out.1]) HT.out.2.1 ?_)
  exact bodyPost_ret (v := .agg T) (results_cell_row rfl _ _ (w.heap.size + 1) 34 T (0, 0) _ rfl H1.out.setRow Tryz.underlying34 rfl (HI.out _ HT.out.1)) rfl ⟨rfl, below_setRow' HB.out (by omega) _⟩

end Go.Proofs.YtfohinlldchdpaaGreatDoor.Sta
end

section
/- Of and Plain are entered; what stands; the zero state is right. -/
set_option maxRecDepth 100000
set_option linter.unusedVariables false
namespace Go.Proofs.YtfohinlldchdpaaGreatDoor.Sta
open Go.RowKit Go.Proofs.YtfohinlldchdpaaGreatDoor.Row Go.Proofs.YtfohinlldchdpaaGreatDoor.Md

theorem enter_of (args : Array Value) (w : World) : (callFunc 29 args).run Tryz.prog w = .ok (.enter 29 args) w := run_enter Tryz.func29 (by kernel_rfl) rfl args w

/-- All that stood in w stands, and the row T behind it. -/
def One (w : World) (T : Array Value) (t : TypeId) (w' : World) : Prop := Below w.heap.size w w' ∧ At w' w.heap.size T t

theorem One.start (w : World) (T : Array Value) (t : TypeId) : One w T t (w.alloc (.cells T t)) := ⟨(Below.refl _ _).alloc (Nat.le_refl _) _, At.new _ _ _⟩

theorem One.next {w w1 w2 : World} {T : Array Value} {t : TypeId} (h : One w T t w1) (hb : Below w1.heap.size w1 w2) : One w T t w2 := ⟨below_trans h.1 hb h.1.size, h.2.below hb h.2.lt⟩

theorem One.alloc {w w1 : World} {T : Array Value} {t : TypeId} (h : One w T t w1) (o : Obj) : One w T t (w1.alloc o) := h.next ((Below.refl _ _).alloc (Nat.le_refl _) o)

theorem At.two {w1 w2 : World} {b : Nat} {T : Array Value} {t : TypeId} (h : At w1 b T t) (hb : Below w1.heap.size w1 w2) : At w2 b T t := h.below hb h.lt

theorem rt_zero : Rt (fun _ => 0) := ⟨fun i _ => by dsimp only; omega, by dsimp only; omega, fun i _ => by dsimp only; omega, fun i _ => by show Md.ab 0 ≤ _; unfold Md.ab; omega, by dsimp only; omega⟩
end Go.Proofs.YtfohinlldchdpaaGreatDoor.Sta
end

section
/- Contract of Plain. -/
set_option maxRecDepth 100000
set_option linter.unusedVariables false
namespace Go.Proofs.YtfohinlldchdpaaGreatDoor.Sta
open Go.RowKit Go.Proofs.YtfohinlldchdpaaGreatDoor.Row Go.Proofs.YtfohinlldchdpaaGreatDoor.Md

set_option maxHeartbeats 400000 in
theorem plain_as (T : Array Value) (f : Nat → Int) (w : World) (hT : IsRow 38 f T) :
    Calls Tryz.prog 55 #[.agg T] w fun e w' => e = .returned (.agg T) ∧ Below w.heap.size w w' := by
  obtain ⟨Z, hZ, hZ0, hz, hi⟩ := zero_r
  obtain ⟨_, _, _, _, hib⟩ := zero_b
  obtain ⟨_, _, _, _, hi4⟩ := zero_4
  have HI := Lib.hid hi
  have HIB := Lib.hid hib
  have HI4 := Lib.hid hi4
  have HT := Lib.hid hT
  have HM := Lib.hid (hT.sub (show 0 + 16 ≤ 38 by omega))
  have HV := Lib.hid (hT.sub (show 17 + 4 ≤ 38 by omega))
  have HU := Lib.hid (hT.sub (show 21 + 16 ≤ 38 by omega))
  have HE := Lib.hid (built_same isSt_r hT)
  have HZ := Lib.hid hZ.1
  have h0 := (At.new w T 34).alloc (.cells Z 25)
  have h1 := At.new (w.alloc (.cells T 34)) Z 25
  rw [World.size_alloc] at h1
  have H0 := Lib.hid h0
  have H1 := Lib.hid h1
  have HB := Lib.hid (((Below.refl w.heap.size w).alloc (Nat.le_refl _) (.cells T 34)).alloc (by simp) (.cells Z 25))
  have c16 := hT.cell h0 16 (by omega)
  have c37 := hT.cell h0 37 (by omega)
  obtain ⟨x, hx⟩ : ∃ x, f 16 = x := ⟨_, rfl⟩
  obtain ⟨y, hy⟩ : ∃ x, f 37 = x := ⟨_, rfl⟩
  obtain ⟨M, hM⟩ : ∃ M, T.extract 0 (0 + 16) = M := ⟨_, rfl⟩
  obtain ⟨V, hV⟩ : ∃ M, T.extract 17 (17 + 4) = M := ⟨_, rfl⟩
  obtain ⟨U, hU⟩ : ∃ M, T.extract 21 (21 + 16) = M := ⟨_, rfl⟩
  rw [hx, hy, hM, hV, hU] at HE
  rw [hM] at HM
  rw [hV] at HV
  rw [hU] at HU
  rw [hx] at c16
  rw [hy] at c37
  clear hT hZ hZ0 hi hib hi4 h0 h1 hx hy hM hV hU
  go_enter Tryz.func55, Tryz.ntmps55
  go_wp2_with (first
    | refine wpList_load_part (by rfl) 32 _ rfl w.heap.size 0 rfl HT.out H0.out HM.out (by omega) (fun i _ => rfl) Tryz.underlying32 rfl (HIB.out _ HM.out.1) ?_
    | refine wpList_load_part (by rfl) 23 _ rfl w.heap.size 17 rfl HT.out H0.out HV.out (by omega) (fun i _ => rfl) Tryz.underlying23 rfl (HI4.out _ HV.out.1) ?_
    | refine wpList_load_part (by rfl) 32 _ rfl w.heap.size 21 rfl HT.out H0.out HU.out (by omega) (fun i _ => rfl) Tryz.underlying32 rfl (HIB.out _ HU.out.1) ?_
    | refine wpList_build_parts (by rfl) 25 _ rfl _ rfl HE.out ?_
    | refine wpList_store_row rfl 25 _ _ rfl (w.heap.size + 1) T rfl rfl _ _ H1.out (HI.out _ HT.out.1) (by rw [HZ.out, HT.out.1]) HT.out.2.1 ?_)
  exact bodyPost_ret (v := .agg T) (results_cell_row rfl _ _ (w.heap.size + 1) 25 T (0, 0) _ rfl H1.out.setRow Tryz.underlying25 rfl (HI.out _ HT.out.1)) rfl ⟨rfl, below_setRow' HB.out (by omega) _⟩

theorem enter_plain (args : Array Value) (w : World) : (callFunc 55 args).run Tryz.prog w = .ok (.enter 55 args) w := run_enter Tryz.func55 (by kernel_rfl) rfl args w
end Go.Proofs.YtfohinlldchdpaaGreatDoor.Sta
end

section
/- Contracts: state.Next: what stands while it works; states that make nothing. -/
set_option maxRecDepth 100000
set_option linter.unusedVariables false
namespace Go.Proofs.YtfohinlldchdpaaGreatDoor.Sta
open Go.RowKit Go.Proofs.YtfohinlldchdpaaGreatDoor.Row Go.Proofs.YtfohinlldchdpaaGreatDoor.Md

/-- A block and a state by value. -/
def RetNx (w : World) (h g : Nat → Int) (e : Ending) (w' : World) : Prop := (∃ R Q, e = .returned (.tuple #[.agg R, .agg Q]) ∧ IsRow 16 h R ∧ IsRow 38 g Q) ∧ Below w.heap.size w w'

/-- What stands while Next works: what came in (T, V, U), the results (A, B), the state then (P). -/
def Nx (w : World) (T V U A B P : Array Value) (w' : World) : Prop :=
  Below w.heap.size w w' ∧ w.heap.size + 1 + 1 + 1 + 1 + 1 + 1 ≤ w'.heap.size ∧ At w' w.heap.size T 34 ∧ At w' (w.heap.size + 1) V 23 ∧ At w' (w.heap.size + 1 + 1) U 32 ∧
    At w' (w.heap.size + 1 + 1 + 1) A 32 ∧ At w' (w.heap.size + 1 + 1 + 1 + 1) B 34 ∧ At w' (w.heap.size + 1 + 1 + 1 + 1 + 1) P 34
theorem Nx.start (w : World) (T V U A B P : Array Value) : Nx w T V U A B P ((((((w.alloc (.cells T 34)).alloc (.cells V 23)).alloc (.cells U 32)).alloc (.cells A 32)).alloc (.cells B 34)).alloc (.cells P 34)) := by
  have a1 := At.new (w.alloc (.cells T 34)) V 23
  have a2 := At.new ((w.alloc (.cells T 34)).alloc (.cells V 23)) U 32
  have a3 := At.new (((w.alloc (.cells T 34)).alloc (.cells V 23)).alloc (.cells U 32)) A 32
  have a4 := At.new ((((w.alloc (.cells T 34)).alloc (.cells V 23)).alloc (.cells U 32)).alloc (.cells A 32)) B 34
  have a5 := At.new (((((w.alloc (.cells T 34)).alloc (.cells V 23)).alloc (.cells U 32)).alloc (.cells A 32)).alloc (.cells B 34)) P 34
  simp only [World.size_alloc] at a1 a2 a3 a4 a5
  exact ⟨((((((Below.refl _ _).alloc (Nat.le_refl _) _).alloc (by simp) _).alloc (by simp; omega) _).alloc (by simp; omega) _).alloc (by simp; omega) _).alloc (by simp; omega) _, by simp,
    (((((At.new _ _ _).alloc _).alloc _).alloc _).alloc _).alloc _, (((a1.alloc _).alloc _).alloc _).alloc _, ((a2.alloc _).alloc _).alloc _, (a3.alloc _).alloc _, a4.alloc _, a5⟩
theorem Nx.below {w w1 w2 : World} {T V U A B P : Array Value} {n : Nat} (h : Nx w T V U A B P w1) (hb : Below n w1 w2) (hn : w.heap.size + 1 + 1 + 1 + 1 + 1 + 1 ≤ n) : Nx w T V U A B P w2 := by
  obtain ⟨h0, h1, h2, h3, h4, h5, h6, h7⟩ := h
  have := hb.size
  exact ⟨h0.trans (hb.mono (by omega)), by omega, h2.below hb (by omega), h3.below hb (by omega), h4.below hb (by omega), h5.below hb (by omega), h6.below hb (by omega), h7.below hb (by omega)⟩
theorem Nx.next {w w1 w2 : World} {T V U A B P : Array Value} (h : Nx w T V U A B P w1) (hb : Below w1.heap.size w1 w2) : Nx w T V U A B P w2 := h.below hb h.2.1
theorem Nx.alloc {w w1 : World} {T V U A B P : Array Value} (h : Nx w T V U A B P w1) (o : Obj) : Nx w T V U A B P (w1.alloc o) := h.next ((Below.refl _ _).alloc (Nat.le_refl _) o)
theorem Nx.drew {w w1 : World} {T V U A B P : Array Value} (h : Nx w T V U A B P w1) : Nx w T V U A B P w1.drew := ⟨h.1.drew, h.2⟩
theorem Nx.setP {w w1 : World} {T V U A B P : Array Value} (h : Nx w T V U A B P w1) (i : Nat) (v : Value) : Nx w T V U A B (P.setIfInBounds i v) (w1.setCell ⟨w.heap.size + 1 + 1 + 1 + 1 + 1, i, none⟩ v) := by
  obtain ⟨h0, h1, h2, h3, h4, h5, h6, h7⟩ := h
  exact ⟨h0.setCell (by dsimp only; omega) _, by simpa [World.setCell] using h1, h2.setCell_other (by dsimp only; omega), h3.setCell_other (by dsimp only; omega), h4.setCell_other (by dsimp only; omega), h5.setCell_other (by dsimp only; omega), h6.setCell_other (by dsimp only; omega), h7.setCell⟩
theorem Nx.setA {w w1 : World} {T V U A B P : Array Value} (h : Nx w T V U A B P w1) (R : Array Value) : Nx w T V U R B P (w1.setRow (w.heap.size + 1 + 1 + 1) R) := by
  obtain ⟨h0, h1, h2, h3, h4, h5, h6, h7⟩ := h
  exact ⟨below_setRow' h0 (by omega) _, by rw [size_setRow]; exact h1, h2.setRow_other (by omega), h3.setRow_other (by omega), h4.setRow_other (by omega), h5.setRow, h6.setRow_other (by omega), h7.setRow_other (by omega)⟩
theorem Nx.setB {w w1 : World} {T V U A B P : Array Value} (h : Nx w T V U A B P w1) (R : Array Value) : Nx w T V U A R P (w1.setRow (w.heap.size + 1 + 1 + 1 + 1) R) := by
  obtain ⟨h0, h1, h2, h3, h4, h5, h6, h7⟩ := h
  exact ⟨below_setRow' h0 (by omega) _, by rw [size_setRow]; exact h1, h2.setRow_other (by omega), h3.setRow_other (by omega), h4.setRow_other (by omega), h5.setRow_other (by omega), h6.setRow, h7.setRow_other (by omega)⟩

theorem Nx.setR {w w1 : World} {T V U A B P : Array Value} (h : Nx w T V U A B P w1) (R : Array Value) : Nx w T V U A B R (w1.setRow (w.heap.size + 1 + 1 + 1 + 1 + 1) R) := by
  obtain ⟨h0, h1, h2, h3, h4, h5, h6, h7⟩ := h
  exact ⟨below_setRow' h0 (by omega) _, by rw [size_setRow]; exact h1, h2.setRow_other (by omega), h3.setRow_other (by omega), h4.setRow_other (by omega), h5.setRow_other (by omega), h6.setRow_other (by omega), h7.setRow⟩
/-- .. ahead of the state then. -/
theorem Nx.five (w : World) (T V U A B : Array Value) : At (((((w.alloc (.cells T 34)).alloc (.cells V 23)).alloc (.cells U 32)).alloc (.cells A 32)).alloc (.cells B 34)) (w.heap.size + 1) V 23 ∧
    At (((((w.alloc (.cells T 34)).alloc (.cells V 23)).alloc (.cells U 32)).alloc (.cells A 32)).alloc (.cells B 34)) (w.heap.size + 1 + 1) U 32 := by
  have a1 := At.new (w.alloc (.cells T 34)) V 23
  have a2 := At.new ((w.alloc (.cells T 34)).alloc (.cells V 23)) U 32
  simp only [World.size_alloc] at a1 a2
  exact ⟨((a1.alloc _).alloc _).alloc _, (a2.alloc _).alloc _⟩

/-- The state then, before Back. -/
def thF (v u : Nat → Int) (z : Int) : Nat → Int := stF (fun _ => 0) 0 v u z

theorem built_b : ∃ T, IsRow 16 (fun _ => 0) T ∧ Tryz.prog.built 32 [] = some T := ⟨_, isRow_zero 16, by kernel_rfl⟩
end Go.Proofs.YtfohinlldchdpaaGreatDoor.Sta
end

section
/- Contracts: the document's Right. -/
set_option maxRecDepth 100000
set_option linter.unusedVariables false
namespace Go.Proofs.YtfohinlldchdpaaGreatDoor.Sta
open Go.RowKit Go.Proofs.YtfohinlldchdpaaGreatDoor.Row Go.Proofs.YtfohinlldchdpaaGreatDoor.Md

set_option maxHeartbeats 1000000 in
theorem refRight_any (T : Array Value) (f : Nat → Int) (r : Bool) (w : World) (hT : IsRow 38 f T) (hr : r = true ↔ Rt f) :
    Calls Tryz.prog 38 #[.agg T] w fun e w' => e = .returned (.bool r) ∧ Below w.heap.size w w' := by
  obtain ⟨_, _, _, _, hi⟩ := zero_a
  have HI := Lib.hid hi
  have HT := Lib.hid hT
  have HU := Lib.hid (hT.sub (show 21 + 16 ≤ 38 by omega))
  have HA := Lib.hid (At.new w T 25)
  have HB := Lib.hid ((Below.refl w.heap.size w).alloc (Nat.le_refl _) (.cells T 25))
  have HR := Lib.hid hr
  clear hT hi hr
  have no : ¬ Rt f → r = false := fun h => by cases r <;> first | rfl | exact absurd (HR.out.1 rfl) h
  have NO := Lib.hid no
  clear no
  go_enter Tryz.func38, Tryz.ntmps38
  go_wp2
  revert HA HB
  generalize w.alloc (.cells T 25) = W
  intro HA HB
  go_loopw [3] (fun i wx => ∃ k : Nat, k ≤ 16 ∧ i = .int .i64 k ∧ wx = W ∧ Hid (∀ i, i < k → -2147483648 ≤ f i ∧ f i ≤ 2147483647)) (fun i _ => 16 - (intOf i).toNat)
  case atStart => exact ⟨0, Nat.zero_le _, rfl, rfl, Lib.hid fun _ h => absurd h (by omega)⟩
  case round =>
    obtain ⟨k, hk, rfl, rfl, HK⟩ := hrel
    by_cases hk16 : k < 16
    · have hc := HT.out.cell HA.out k (by omega)
      obtain ⟨x, hx⟩ : ∃ x, f k = x := ⟨_, rfl⟩
      have HX := Lib.hid hx
      rw [hx] at hc
      clear hx
      have k1 : (k : Int) < 16 := by omega
      rcases (show x < -2147483648 ∨ 2147483647 < x ∨ -2147483648 ≤ x ∧ x ≤ 2147483647 by omega) with h | h | ⟨h1, h2⟩
      · go_wp2
        go_ret
        exact ⟨by rw [NO.out fun h' => by have := (h'.1 k hk16).1; rw [HX.out] at this; omega]; rfl, HB.out⟩
      · go_wp2
        go_ret
        exact ⟨by rw [NO.out fun h' => by have := (h'.1 k hk16).2; rw [HX.out] at this; omega]; rfl, HB.out⟩
      · go_wp2
        go_roundw
        case rel => exact ⟨k + 1, by omega, by go_num, trivial, Lib.hid fun i hi => by
          rcases Nat.lt_succ_iff_lt_or_eq.1 hi with h | rfl
          · exact HK.out i h
          · rw [HX.out]; exact ⟨h1, h2⟩⟩
        case measure => simp [intOf]; omega
    · have hn16 : ¬ (k : Int) < 16 := by omega
      have H1 := Lib.hid (show ∀ i, i < 16 → -2147483648 ≤ f i ∧ f i ≤ 2147483647 from fun i hi => HK.out i (by omega))
      clear HK hk hk16
      go_wp2
      clear hn16
      go_loopw [4] (fun i wx => ∃ k : Nat, k ≤ 4 ∧ i = .int .i64 k ∧ wx = wr ∧ Hid (∀ i, i < k → 0 ≤ f (17 + i) ∧ f (17 + i) ≤ 20)) (fun i _ => 4 - (intOf i).toNat)
      case atStart => exact ⟨0, Nat.zero_le _, rfl, rfl, Lib.hid fun _ h => absurd h (by omega)⟩
      case round =>
        obtain ⟨k, hk, rfl, rfl, HK⟩ := hrel
        by_cases hk4 : k < 4
        · have hc := HT.out.cell HA.out (17 + k) (by omega)
          obtain ⟨x, hx⟩ : ∃ x, f (17 + k) = x := ⟨_, rfl⟩
          have HX := Lib.hid hx
          rw [hx] at hc
          clear hx
          have k1 : (k : Int) < 4 := by omega
          rcases (show x < 0 ∨ 20 < x ∨ 0 ≤ x ∧ x ≤ 20 by omega) with h | h | ⟨h1, h2⟩
          · go_wp2
            go_ret
            exact ⟨by rw [NO.out fun h' => by have := (h'.2.2.1 k hk4).1; rw [HX.out] at this; omega]; rfl, HB.out⟩
          · go_wp2
            go_ret
            exact ⟨by rw [NO.out fun h' => by have := (h'.2.2.1 k hk4).2; rw [HX.out] at this; omega]; rfl, HB.out⟩
          · go_wp2
            go_roundw
            case rel => exact ⟨k + 1, by omega, by go_num, trivial, Lib.hid fun i hi => by
              rcases Nat.lt_succ_iff_lt_or_eq.1 hi with h | rfl
              · exact HK.out i h
              · rw [HX.out]; exact ⟨h1, h2⟩⟩
            case measure => simp [intOf]; omega
        · have hn4 : ¬ (k : Int) < 4 := by omega
          have H2 := Lib.hid (show ∀ i, i < 4 → 0 ≤ f (17 + i) ∧ f (17 + i) ≤ 20 from fun i hi => HK.out i (by omega))
          clear HK hk hk4
          have c16 := HT.out.cell HA.out 16 (by omega)
          obtain ⟨x, hx⟩ : ∃ x, f 16 = x := ⟨_, rfl⟩
          have HX := Lib.hid hx
          rw [hx] at c16
          clear hx
          rcases (show x < -2097152 ∨ 2097151 < x ∨ -2097152 ≤ x ∧ x < 2097152 by omega) with h | h | ⟨h1, h2⟩
          · go_wp2
            go_ret
            exact ⟨by rw [NO.out fun h' => by have := h'.2.1.1; rw [HX.out] at this; omega]; rfl, HB.out⟩
          · go_wp2
            go_ret
            exact ⟨by rw [NO.out fun h' => by have := h'.2.1.2; rw [HX.out] at this; omega]; rfl, HB.out⟩
          · go_wp2_with (refine wpList_load_part (by rfl) 22 _ rfl w.heap.size 21 rfl HT.out HA.out HU.out (by omega) (fun i _ => rfl) Tryz.underlying22 rfl (HI.out _ HU.out.1) ?_)
            by_cases hw : Le 1048576 fun i => f (21 + i)
            · have HW := Lib.hid hw
              refine (refHeld_yes _ _ HU.out hw _).mono ?_
              rintro e W' ⟨rfl, hb⟩
              have HA' := Lib.hid (HA.out.below hb HA.out.lt)
              have HB' := Lib.hid (below_trans HB.out hb HB.out.size)
              have c37 := HT.out.cell HA'.out 37 (by omega)
              obtain ⟨z, hz⟩ : ∃ x, f 37 = x := ⟨_, rfl⟩
              have HZ := Lib.hid hz
              rw [hz] at c37
              clear hz hb HA HB hw c16
              rcases (show z < 0 ∨ 255 < z ∨ 0 ≤ z ∧ z ≤ 255 by omega) with h | h | ⟨h3, h4⟩
              · go_wp2
                go_ret
                exact ⟨by rw [NO.out fun h' => by have := h'.2.2.2.2.1; rw [HZ.out] at this; omega]; rfl, HB'.out⟩
              · have hz9 : decide (z ≤ 255) = false := decide_eq_false (by omega)
                go_wp2
                go_ret
                exact ⟨by rw [NO.out fun h' => by have := h'.2.2.2.2.2; rw [HZ.out] at this; omega]; rfl, HB'.out⟩
              · go_wp2
                go_ret
                exact ⟨by rw [HR.out.2 ⟨H1.out, by rw [HX.out]; omega, H2.out, HW.out, by rw [HZ.out]; omega⟩]; rfl, HB'.out⟩
            · refine (refHeld_no _ _ HU.out hw _).mono ?_
              rintro e W' ⟨rfl, hb⟩
              have HB' := Lib.hid (below_trans HB.out hb HB.out.size)
              go_wp2
              go_ret
              exact ⟨by rw [NO.out fun h' => hw h'.2.2.2.1]; rfl, HB'.out⟩
end Go.Proofs.YtfohinlldchdpaaGreatDoor.Sta
end
