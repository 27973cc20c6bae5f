/- Contracts: state.Right. Written by g25.py. -/
import Derived.Test.YtfpmajlgbipbmaaStB
set_option maxRecDepth 100000
set_option linter.unusedVariables false
namespace Go.Proofs.Ytfpmajlgbipbmaa.Sta
open Go.RowKit Go.Proofs.Ytfpmajlgbipbmaa.Row Go.Proofs.Ytfpmajlgbipbmaa.Md

theorem isRow_one (x : Int) : IsRow 1 (fun _ => x) #[.int .i64 x] := isRow_of rfl fun k hk => by
  obtain rfl : k = 0 := by omega
  rfl
theorem Sl.one (W : World) (x : Int) : Sl .i64 (W.alloc (.cells #[.int .i64 x] 3)) (some ⟨W.heap.size, 0, none⟩) 1 1 (fun _ => x) := Sl.of_isRow (isRow_one x) (At.new _ _ _) (by unfold maxLen; omega)
theorem Sl.part {w : World} {g m l n : Nat} {f h : Nat → Int} {T : Array Value} {t : TypeId} (hT : IsRow m f T) (hA : At w g T t) (hm : l + n ≤ m) (hc : n ≤ maxLen) (e : ∀ i, i < n → f (l + i) = h i) : Sl .i64 w (some ⟨g, l, none⟩) n n h := (Sl.of_part hT hA l n hm hc).ext e

set_option maxHeartbeats 400000 in
theorem right_0 (T : Array Value) (f : Nat → Int) (w : World) (hT : IsRow 38 f T) (h0 : ¬ (∀ i, i < 16 → -2147483648 ≤ f i ∧ f i ≤ 2147483647)) :
    Calls Try.prog 21 #[.agg T] w fun e w' => e = .returned (.bool false) ∧ Below w.heap.size w w' := by
  obtain ⟨Z, hZ, hZ0, hz, hi⟩ := zero_block
  have HI := Lib.hid hi
  have HT := Lib.hid hT
  have HU := Lib.hid (hT.sub (show 21 + 16 ≤ 38 by omega))
  have HA := Lib.hid (At.new w T 31)
  have HB := Lib.hid ((Below.refl w.heap.size w).alloc (Nat.le_refl _) (.cells T 31))
  have H0 := Lib.hid h0
  clear hT hZ0 hi hZ h0
  go_enter Try.func21, Try.ntmps21
  go_wp2_with fail
  revert HA HB
  generalize w.alloc (.cells T 31) = W
  intro HA HB
  refine (within_no _ _ _ 16 16 f W (Sl.part HT.out HA.out (by omega) (by unfold maxLen; omega) fun i _ => by rw [Nat.zero_add]) (by omega) H0.out).mono ?_
  rintro e w1 ⟨rfl, rfl⟩
  go_wp2_with fail
  go_ret
  exact ⟨rfl, HB.out⟩

set_option maxHeartbeats 400000 in
theorem right_1 (T : Array Value) (f : Nat → Int) (w : World) (hT : IsRow 38 f T) (h0 : (∀ i, i < 16 → -2147483648 ≤ f i ∧ f i ≤ 2147483647)) (h1 : ¬ (∀ i, i < 1 → -2097152 ≤ f 16 ∧ f 16 ≤ 2097151)) :
    Calls Try.prog 21 #[.agg T] w fun e w' => e = .returned (.bool false) ∧ Below w.heap.size w w' := by
  obtain ⟨Z, hZ, hZ0, hz, hi⟩ := zero_block
  have HI := Lib.hid hi
  have HT := Lib.hid hT
  have HU := Lib.hid (hT.sub (show 21 + 16 ≤ 38 by omega))
  have HA := Lib.hid (At.new w T 31)
  have HB := Lib.hid ((Below.refl w.heap.size w).alloc (Nat.le_refl _) (.cells T 31))
  have H0 := Lib.hid h0
  have H1 := Lib.hid h1
  clear hT hZ0 hi hZ h0 h1
  go_enter Try.func21, Try.ntmps21
  go_wp2_with fail
  revert HA HB
  generalize w.alloc (.cells T 31) = W
  intro HA HB
  refine (within_yes _ _ _ 16 16 f W (Sl.part HT.out HA.out (by omega) (by unfold maxLen; omega) fun i _ => by rw [Nat.zero_add]) (by omega) H0.out).mono ?_
  rintro e w1 ⟨rfl, rfl⟩
  have c16 := HT.out.cell HA.out 16 (by omega)
  obtain ⟨x16, hx16⟩ : ∃ x, f 16 = x := ⟨_, rfl⟩
  rw [hx16] at c16 H1
  clear hx16
  go_wp2_with fail
  clear c16
  have HSl := Lib.hid (Sl.one W x16)
  have HA1 := Lib.hid (HA.out.alloc (.cells #[.int .i64 x16] 3))
  have HB1 := Lib.hid (HB.out.alloc HB.out.size (.cells #[.int .i64 x16] 3))
  clear HA HB
  revert HSl HA1 HB1
  generalize W.alloc (.cells #[.int .i64 x16] 3) = W'
  generalize W.heap.size = s
  intro HSl HA' HB'
  clear W
  refine (within_no _ _ _ 1 1 _ W' HSl.out (by omega) H1.out).mono ?_
  rintro e w1 ⟨rfl, rfl⟩
  clear HSl
  go_wp2_with fail
  go_ret
  exact ⟨rfl, HB'.out⟩

set_option maxHeartbeats 400000 in
theorem right_2 (T : Array Value) (f : Nat → Int) (w : World) (hT : IsRow 38 f T) (h0 : (∀ i, i < 16 → -2147483648 ≤ f i ∧ f i ≤ 2147483647)) (h1 : (∀ i, i < 1 → -2097152 ≤ f 16 ∧ f 16 ≤ 2097151)) (h2 : ¬ (∀ i, i < 4 → 0 ≤ f (17 + i) ∧ f (17 + i) ≤ 20)) :
    Calls Try.prog 21 #[.agg T] w fun e w' => e = .returned (.bool false) ∧ Below w.heap.size w w' := by
  obtain ⟨Z, hZ, hZ0, hz, hi⟩ := zero_block
  have HI := Lib.hid hi
  have HT := Lib.hid hT
  have HU := Lib.hid (hT.sub (show 21 + 16 ≤ 38 by omega))
  have HA := Lib.hid (At.new w T 31)
  have HB := Lib.hid ((Below.refl w.heap.size w).alloc (Nat.le_refl _) (.cells T 31))
  have H0 := Lib.hid h0
  have H1 := Lib.hid h1
  have H2 := Lib.hid h2
  clear hT hZ0 hi hZ h0 h1 h2
  go_enter Try.func21, Try.ntmps21
  go_wp2_with fail
  revert HA HB
  generalize w.alloc (.cells T 31) = W
  intro HA HB
  refine (within_yes _ _ _ 16 16 f W (Sl.part HT.out HA.out (by omega) (by unfold maxLen; omega) fun i _ => by rw [Nat.zero_add]) (by omega) H0.out).mono ?_
  rintro e w1 ⟨rfl, rfl⟩
  have c16 := HT.out.cell HA.out 16 (by omega)
  obtain ⟨x16, hx16⟩ : ∃ x, f 16 = x := ⟨_, rfl⟩
  rw [hx16] at c16 H1
  clear hx16
  go_wp2_with fail
  clear c16
  have HSl := Lib.hid (Sl.one W x16)
  have HA1 := Lib.hid (HA.out.alloc (.cells #[.int .i64 x16] 3))
  have HB1 := Lib.hid (HB.out.alloc HB.out.size (.cells #[.int .i64 x16] 3))
  clear HA HB
  revert HSl HA1 HB1
  generalize W.alloc (.cells #[.int .i64 x16] 3) = W'
  generalize W.heap.size = s
  intro HSl HA' HB'
  clear W
  refine (within_yes _ _ _ 1 1 _ W' HSl.out (by omega) H1.out).mono ?_
  rintro e w1 ⟨rfl, rfl⟩
  clear HSl
  go_wp2_with fail
  refine (within_no _ _ _ 4 4 _ W' (Sl.of_part HT.out HA'.out 17 4 (by omega) (by unfold maxLen; omega)) (by omega) H2.out).mono ?_
  rintro e w1 ⟨rfl, rfl⟩
  go_wp2_with fail
  go_ret
  exact ⟨rfl, HB'.out⟩

set_option maxHeartbeats 400000 in
theorem right_3 (T : Array Value) (f : Nat → Int) (w : World) (hT : IsRow 38 f T) (h0 : (∀ i, i < 16 → -2147483648 ≤ f i ∧ f i ≤ 2147483647)) (h1 : (∀ i, i < 1 → -2097152 ≤ f 16 ∧ f 16 ≤ 2097151)) (h2 : (∀ i, i < 4 → 0 ≤ f (17 + i) ∧ f (17 + i) ≤ 20)) (h3 : ¬ (Le 1048576 (fun i => f (21 + i)))) :
    Calls Try.prog 21 #[.agg T] w fun e w' => e = .returned (.bool false) ∧ Below w.heap.size w w' := by
  obtain ⟨Z, hZ, hZ0, hz, hi⟩ := zero_block
  have HI := Lib.hid hi
  have HT := Lib.hid hT
  have HU := Lib.hid (hT.sub (show 21 + 16 ≤ 38 by omega))
  have HA := Lib.hid (At.new w T 31)
  have HB := Lib.hid ((Below.refl w.heap.size w).alloc (Nat.le_refl _) (.cells T 31))
  have H0 := Lib.hid h0
  have H1 := Lib.hid h1
  have H2 := Lib.hid h2
  have H3 := Lib.hid h3
  clear hT hZ0 hi hZ h0 h1 h2 h3
  go_enter Try.func21, Try.ntmps21
  go_wp2_with fail
  revert HA HB
  generalize w.alloc (.cells T 31) = W
  intro HA HB
  refine (within_yes _ _ _ 16 16 f W (Sl.part HT.out HA.out (by omega) (by unfold maxLen; omega) fun i _ => by rw [Nat.zero_add]) (by omega) H0.out).mono ?_
  rintro e w1 ⟨rfl, rfl⟩
  have c16 := HT.out.cell HA.out 16 (by omega)
  obtain ⟨x16, hx16⟩ : ∃ x, f 16 = x := ⟨_, rfl⟩
  rw [hx16] at c16 H1
  clear hx16
  go_wp2_with fail
  clear c16
  have HSl := Lib.hid (Sl.one W x16)
  have HA1 := Lib.hid (HA.out.alloc (.cells #[.int .i64 x16] 3))
  have HB1 := Lib.hid (HB.out.alloc HB.out.size (.cells #[.int .i64 x16] 3))
  clear HA HB
  revert HSl HA1 HB1
  generalize W.alloc (.cells #[.int .i64 x16] 3) = W'
  generalize W.heap.size = s
  intro HSl HA' HB'
  clear W
  refine (within_yes _ _ _ 1 1 _ W' HSl.out (by omega) H1.out).mono ?_
  rintro e w1 ⟨rfl, rfl⟩
  clear HSl
  go_wp2_with fail
  refine (within_yes _ _ _ 4 4 _ W' (Sl.of_part HT.out HA'.out 17 4 (by omega) (by unfold maxLen; omega)) (by omega) H2.out).mono ?_
  rintro e w1 ⟨rfl, rfl⟩
  go_wp2_with (refine wpList_load_part (by rfl) 29 _ rfl w.heap.size 21 rfl HT.out HA'.out HU.out (by omega) (fun i _ => rfl) Try.underlying29 rfl (HI.out _ HU.out.1) ?_)
  refine (held_no _ _ HU.out H3.out W').mono ?_
  rintro e W'' ⟨rfl, hw⟩
  have HA'' := Lib.hid (HA'.out.below hw HA'.out.lt)
  have HB'' := Lib.hid (below_trans HB'.out hw HB'.out.size)
  clear HA' HB' hw
  clear W'
  go_wp2_with fail
  go_ret
  exact ⟨rfl, HB''.out⟩

set_option maxHeartbeats 400000 in
theorem right_4 (T : Array Value) (f : Nat → Int) (w : World) (hT : IsRow 38 f T) (h0 : (∀ i, i < 16 → -2147483648 ≤ f i ∧ f i ≤ 2147483647)) (h1 : (∀ i, i < 1 → -2097152 ≤ f 16 ∧ f 16 ≤ 2097151)) (h2 : (∀ i, i < 4 → 0 ≤ f (17 + i) ∧ f (17 + i) ≤ 20)) (h3 : (Le 1048576 (fun i => f (21 + i)))) (h4 : ¬ (∀ i, i < 1 → 0 ≤ f 37 ∧ f 37 ≤ 255)) :
    Calls Try.prog 21 #[.agg T] w fun e w' => e = .returned (.bool false) ∧ Below w.heap.size w w' := by
  obtain ⟨Z, hZ, hZ0, hz, hi⟩ := zero_block
  have HI := Lib.hid hi
  have HT := Lib.hid hT
  have HU := Lib.hid (hT.sub (show 21 + 16 ≤ 38 by omega))
  have HA := Lib.hid (At.new w T 31)
  have HB := Lib.hid ((Below.refl w.heap.size w).alloc (Nat.le_refl _) (.cells T 31))
  have H0 := Lib.hid h0
  have H1 := Lib.hid h1
  have H2 := Lib.hid h2
  have H3 := Lib.hid h3
  have H4 := Lib.hid h4
  clear hT hZ0 hi hZ h0 h1 h2 h3 h4
  go_enter Try.func21, Try.ntmps21
  go_wp2_with fail
  revert HA HB
  generalize w.alloc (.cells T 31) = W
  intro HA HB
  refine (within_yes _ _ _ 16 16 f W (Sl.part HT.out HA.out (by omega) (by unfold maxLen; omega) fun i _ => by rw [Nat.zero_add]) (by omega) H0.out).mono ?_
  rintro e w1 ⟨rfl, rfl⟩
  have c16 := HT.out.cell HA.out 16 (by omega)
  obtain ⟨x16, hx16⟩ : ∃ x, f 16 = x := ⟨_, rfl⟩
  rw [hx16] at c16 H1
  clear hx16
  go_wp2_with fail
  clear c16
  have HSl := Lib.hid (Sl.one W x16)
  have HA1 := Lib.hid (HA.out.alloc (.cells #[.int .i64 x16] 3))
  have HB1 := Lib.hid (HB.out.alloc HB.out.size (.cells #[.int .i64 x16] 3))
  clear HA HB
  revert HSl HA1 HB1
  generalize W.alloc (.cells #[.int .i64 x16] 3) = W'
  generalize W.heap.size = s
  intro HSl HA' HB'
  clear W
  refine (within_yes _ _ _ 1 1 _ W' HSl.out (by omega) H1.out).mono ?_
  rintro e w1 ⟨rfl, rfl⟩
  clear HSl
  go_wp2_with fail
  refine (within_yes _ _ _ 4 4 _ W' (Sl.of_part HT.out HA'.out 17 4 (by omega) (by unfold maxLen; omega)) (by omega) H2.out).mono ?_
  rintro e w1 ⟨rfl, rfl⟩
  go_wp2_with (refine wpList_load_part (by rfl) 29 _ rfl w.heap.size 21 rfl HT.out HA'.out HU.out (by omega) (fun i _ => rfl) Try.underlying29 rfl (HI.out _ HU.out.1) ?_)
  refine (held_yes _ _ HU.out H3.out W').mono ?_
  rintro e W'' ⟨rfl, hw⟩
  have HA'' := Lib.hid (HA'.out.below hw HA'.out.lt)
  have HB'' := Lib.hid (below_trans HB'.out hw HB'.out.size)
  clear HA' HB' hw
  clear W'
  have c37 := HT.out.cell HA''.out 37 (by omega)
  obtain ⟨x37, hx37⟩ : ∃ x, f 37 = x := ⟨_, rfl⟩
  rw [hx37] at c37 H4
  clear hx37
  go_wp2_with fail
  clear c37
  have HSl := Lib.hid (Sl.one W'' x37)
  have HA1 := Lib.hid (HA''.out.alloc (.cells #[.int .i64 x37] 3))
  have HB1 := Lib.hid (HB''.out.alloc HB''.out.size (.cells #[.int .i64 x37] 3))
  clear HA'' HB''
  revert HSl HA1 HB1
  generalize W''.alloc (.cells #[.int .i64 x37] 3) = W'''
  generalize W''.heap.size = s
  intro HSl HA''' HB'''
  clear W''
  refine (within_no _ _ _ 1 1 _ W''' HSl.out (by omega) H4.out).mono ?_
  rintro e w1 ⟨rfl, rfl⟩
  clear HSl
  go_wp2_with fail
  go_ret
  exact ⟨rfl, HB'''.out⟩

set_option maxHeartbeats 400000 in
theorem right_5 (T : Array Value) (f : Nat → Int) (w : World) (hT : IsRow 38 f T) (h0 : (∀ i, i < 16 → -2147483648 ≤ f i ∧ f i ≤ 2147483647)) (h1 : (∀ i, i < 1 → -2097152 ≤ f 16 ∧ f 16 ≤ 2097151)) (h2 : (∀ i, i < 4 → 0 ≤ f (17 + i) ∧ f (17 + i) ≤ 20)) (h3 : (Le 1048576 (fun i => f (21 + i)))) (h4 : (∀ i, i < 1 → 0 ≤ f 37 ∧ f 37 ≤ 255)) :
    Calls Try.prog 21 #[.agg T] w fun e w' => e = .returned (.bool true) ∧ Below w.heap.size w w' := by
  obtain ⟨Z, hZ, hZ0, hz, hi⟩ := zero_block
  have HI := Lib.hid hi
  have HT := Lib.hid hT
  have HU := Lib.hid (hT.sub (show 21 + 16 ≤ 38 by omega))
  have HA := Lib.hid (At.new w T 31)
  have HB := Lib.hid ((Below.refl w.heap.size w).alloc (Nat.le_refl _) (.cells T 31))
  have H0 := Lib.hid h0
  have H1 := Lib.hid h1
  have H2 := Lib.hid h2
  have H3 := Lib.hid h3
  have H4 := Lib.hid h4
  clear hT hZ0 hi hZ h0 h1 h2 h3 h4
  go_enter Try.func21, Try.ntmps21
  go_wp2_with fail
  revert HA HB
  generalize w.alloc (.cells T 31) = W
  intro HA HB
  refine (within_yes _ _ _ 16 16 f W (Sl.part HT.out HA.out (by omega) (by unfold maxLen; omega) fun i _ => by rw [Nat.zero_add]) (by omega) H0.out).mono ?_
  rintro e w1 ⟨rfl, rfl⟩
  have c16 := HT.out.cell HA.out 16 (by omega)
  obtain ⟨x16, hx16⟩ : ∃ x, f 16 = x := ⟨_, rfl⟩
  rw [hx16] at c16 H1
  clear hx16
  go_wp2_with fail
  clear c16
  have HSl := Lib.hid (Sl.one W x16)
  have HA1 := Lib.hid (HA.out.alloc (.cells #[.int .i64 x16] 3))
  have HB1 := Lib.hid (HB.out.alloc HB.out.size (.cells #[.int .i64 x16] 3))
  clear HA HB
  revert HSl HA1 HB1
  generalize W.alloc (.cells #[.int .i64 x16] 3) = W'
  generalize W.heap.size = s
  intro HSl HA' HB'
  clear W
  refine (within_yes _ _ _ 1 1 _ W' HSl.out (by omega) H1.out).mono ?_
  rintro e w1 ⟨rfl, rfl⟩
  clear HSl
  go_wp2_with fail
  refine (within_yes _ _ _ 4 4 _ W' (Sl.of_part HT.out HA'.out 17 4 (by omega) (by unfold maxLen; omega)) (by omega) H2.out).mono ?_
  rintro e w1 ⟨rfl, rfl⟩
  go_wp2_with (refine wpList_load_part (by rfl) 29 _ rfl w.heap.size 21 rfl HT.out HA'.out HU.out (by omega) (fun i _ => rfl) Try.underlying29 rfl (HI.out _ HU.out.1) ?_)
  refine (held_yes _ _ HU.out H3.out W').mono ?_
  rintro e W'' ⟨rfl, hw⟩
  have HA'' := Lib.hid (HA'.out.below hw HA'.out.lt)
  have HB'' := Lib.hid (below_trans HB'.out hw HB'.out.size)
  clear HA' HB' hw
  clear W'
  have c37 := HT.out.cell HA''.out 37 (by omega)
  obtain ⟨x37, hx37⟩ : ∃ x, f 37 = x := ⟨_, rfl⟩
  rw [hx37] at c37 H4
  clear hx37
  go_wp2_with fail
  clear c37
  have HSl := Lib.hid (Sl.one W'' x37)
  have HA1 := Lib.hid (HA''.out.alloc (.cells #[.int .i64 x37] 3))
  have HB1 := Lib.hid (HB''.out.alloc HB''.out.size (.cells #[.int .i64 x37] 3))
  clear HA'' HB''
  revert HSl HA1 HB1
  generalize W''.alloc (.cells #[.int .i64 x37] 3) = W'''
  generalize W''.heap.size = s
  intro HSl HA''' HB'''
  clear W''
  refine (within_yes _ _ _ 1 1 _ W''' HSl.out (by omega) H4.out).mono ?_
  rintro e w1 ⟨rfl, rfl⟩
  clear HSl
  go_wp2_with fail
  go_ret
  exact ⟨rfl, HB'''.out⟩

theorem right_yes (T : Array Value) (f : Nat → Int) (w : World) (hT : IsRow 38 f T) (h : Rt f) :
    Calls Try.prog 21 #[.agg T] w fun e w' => e = .returned (.bool true) ∧ Below w.heap.size w w' :=
  right_5 T f w hT h.1 (fun _ _ => h.2.1) h.2.2.1 h.2.2.2.1 (fun _ _ => h.2.2.2.2)
theorem right_no (T : Array Value) (f : Nat → Int) (w : World) (hT : IsRow 38 f T) (h : ¬ Rt f) :
    Calls Try.prog 21 #[.agg T] w fun e w' => e = .returned (.bool false) ∧ Below w.heap.size w w' := by
  by_cases h0 : (∀ i, i < 16 → -2147483648 ≤ f i ∧ f i ≤ 2147483647)
  · by_cases h1 : (∀ i, i < 1 → -2097152 ≤ f 16 ∧ f 16 ≤ 2097151)
    · by_cases h2 : (∀ i, i < 4 → 0 ≤ f (17 + i) ∧ f (17 + i) ≤ 20)
      · by_cases h3 : (Le 1048576 (fun i => f (21 + i)))
        · exact right_4 T f w hT h0 h1 h2 h3 fun h4 => h ⟨h0, h1 0 (by omega), h2, h3, h4 0 (by omega)⟩
        · exact right_3 T f w hT h0 h1 h2 h3
      · exact right_2 T f w hT h0 h1 h2
    · exact right_1 T f w hT h0 h1
  · exact right_0 T f w hT h0
end Go.Proofs.Ytfpmajlgbipbmaa.Sta
