/- Contracts of spare's wish, Room, cost; the library's least and greatest of four numbers; areLevels. -/
import Derived.Test.YtfcaigggacgfkaaDoorSpMath
import Derived.Test.YtfcaigggacgfkaaDoorFr
import Derived.Test.YtfcaigggacgfkaaDoorLvEnds
import Derived.Test.YtfcaigggacgfkaaDoorVeBas
set_option maxRecDepth 100000
set_option linter.unusedVariables false
namespace Go.Proofs.YtfcaigggacgfkaaDoor.Sp
open Go.RowKit Go.Proofs.YtfcaigggacgfkaaDoor.Row

theorem wish_as (l k r : Int) (w : World) (h1 : -1000 ≤ l) (h2 : l ≤ 1000) (h3 : -1000 ≤ k) (h4 : k ≤ 1000) (h : 2 * l - 3 * k = r) :
    Calls Tryd.prog 32 #[.int .i64 l, .int .i64 k] w fun e w' => e = .returned (.int .i64 r) ∧ w = w' := by
  subst h
  go_enter Tryd.func32, Tryd.ntmps32
  go_wp2
  go_ret
  exact ⟨rfl, rfl⟩

/-- The bits for pulses of a packet. -/
def rm (s u : Int) : Int := if 10 ≤ s ∧ s ≤ 32 ∧ 0 ≤ u ∧ u < 8 * s - 40 then 8 * s - 40 - u else 0

theorem room_any (s u : Int) (w : World) (hu : u ≤ 9223372036854775807) :
    Calls Tryd.prog 17 #[.int .i64 s, .int .i64 u] w fun e w' => e = .returned (.int .i64 (rm s u)) ∧ w = w' := by
  obtain ⟨r, hr⟩ : ∃ r, rm s u = r := ⟨_, rfl⟩
  rw [hr]
  unfold rm at hr
  have HR := Lib.hid hr
  clear hr
  by_cases c1 : s < 10
  · go_enter Tryd.func17, Tryd.ntmps17
    go_wp2
    go_ret
    exact ⟨ret_int (by have := HR.out; rw [if_neg (by omega)] at this; omega), rfl⟩
  by_cases c2 : 32 < s
  · go_enter Tryd.func17, Tryd.ntmps17
    go_wp2
    go_ret
    exact ⟨ret_int (by have := HR.out; rw [if_neg (by omega)] at this; omega), rfl⟩
  by_cases c3 : u < 0
  · go_enter Tryd.func17, Tryd.ntmps17
    go_wp2
    go_ret
    exact ⟨ret_int (by have := HR.out; rw [if_neg (by omega)] at this; omega), rfl⟩
  have b1 : (-9223372036854775808 : Int) ≤ 8 * s - 40 - u := by omega
  go_enter Tryd.func17, Tryd.ntmps17
  go_wp2
  all_goals
    go_ret
    refine ⟨ret_int ?_, rfl⟩
    have := HR.out
    split at this <;> omega

theorem size_b {b : Nat} (hb : b < 4) : ((Lv.hi b : Nat) : Int) - (Lv.lo b : Nat) = sB b := by
  have : b = 0 ∨ b = 1 ∨ b = 2 ∨ b = 3 := by omega
  rcases this with rfl | rfl | rfl | rfl <;> rfl

theorem size_as (b : Nat) (s : Nat) (w : World) (hT : Lv.Tab w) (hb : b < 4) (hs : sB b = s) :
    Calls Tryd.prog 13 #[.int .i64 b] w fun e w' => e = .returned (.int .i64 s) ∧ Below w.heap.size w w' := by
  rw [← hs]
  exact Lv.size_as b (sB b) w hT (size_b hb)

/-- What a number of pulses costs, whatever it is. -/
def cI (b : Nat) (k : Int) : Nat := Ve.bI (sB b) k
theorem cI_nat (b k : Nat) : cI b k = P b k := rfl
theorem cI_le (b : Nat) (k : Int) : cI b k ≤ 33 := by
  unfold cI Ve.bI
  exact Lib.bitLen_le _ 33 (by omega) (by have := Ve.cI_le (sB b) k; omega)

theorem cost_as (b : Nat) (k : Int) (c : Nat) (w : World) (hT : Lv.Tab w) (hb : b < 4) (hc : cI b k = c) :
    Calls Tryd.prog 21 #[.int .i64 b, .int .i64 k] w fun e w' => e = .returned (.int .i64 c) ∧ Below w.heap.size w w' := by
  unfold cI at hc
  have HS := Lib.hid (fun s hs => size_as b s w hT hb hs)
  obtain ⟨s, hs⟩ : ∃ s, sB b = s := ⟨_, rfl⟩
  rw [hs] at hc
  have HC := Lib.hid hc
  have HQ := Lib.hid hs
  clear hT hc hs
  go_enter Tryd.func21, Tryd.ntmps21
  go_wp2_with fail
  refine (HS.out s HQ.out).mono ?_
  rintro e w1 ⟨rfl, h1⟩
  have H1 := Lib.hid h1
  clear h1
  go_wp2_with fail
  refine (Ve.bits_as s k c _ HC.out).mono ?_
  rintro e w2 ⟨rfl, h2⟩
  have H2 := Lib.hid (below_trans H1.out h2 H1.out.size)
  clear h2
  go_wp2_with fail
  go_ret
  exact ⟨rfl, H2.out⟩

/-- m is the least, the greatest of the first n numbers. -/
def IsMin (f : Nat → Int) (n : Nat) (m : Int) : Prop := (∀ i, i < n → m ≤ f i) ∧ ∃ i, i < n ∧ f i = m
def IsMax (f : Nat → Int) (n : Nat) (m : Int) : Prop := (∀ i, i < n → f i ≤ m) ∧ ∃ i, i < n ∧ f i = m
theorem IsMin.one (f : Nat → Int) : IsMin f 1 (f 0) := ⟨fun i hi => by rw [show i = 0 by omega]; exact Int.le_refl _, 0, by omega, rfl⟩
theorem IsMax.one (f : Nat → Int) : IsMax f 1 (f 0) := ⟨fun i hi => by rw [show i = 0 by omega]; exact Int.le_refl _, 0, by omega, rfl⟩
theorem IsMin.old {f : Nat → Int} {n : Nat} {m x : Int} (h : IsMin f n m) (hx : f n = x) (e : m ≤ x) : IsMin f (n + 1) m := by
  obtain ⟨h1, i, hi, h2⟩ := h
  refine ⟨fun j hj => ?_, i, by omega, h2⟩
  by_cases c : j = n
  · rw [c, hx]; exact e
  · exact h1 j (by omega)
theorem IsMin.new {f : Nat → Int} {n : Nat} {m x : Int} (h : IsMin f n m) (hx : f n = x) (e : x ≤ m) : IsMin f (n + 1) x := by
  obtain ⟨h1, i, hi, h2⟩ := h
  refine ⟨fun j hj => ?_, n, by omega, hx⟩
  by_cases c : j = n
  · rw [c, hx]; exact Int.le_refl _
  · have := h1 j (by omega); omega
theorem IsMax.old {f : Nat → Int} {n : Nat} {m x : Int} (h : IsMax f n m) (hx : f n = x) (e : x ≤ m) : IsMax f (n + 1) m := by
  obtain ⟨h1, i, hi, h2⟩ := h
  refine ⟨fun j hj => ?_, i, by omega, h2⟩
  by_cases c : j = n
  · rw [c, hx]; exact e
  · exact h1 j (by omega)
theorem IsMax.new {f : Nat → Int} {n : Nat} {m x : Int} (h : IsMax f n m) (hx : f n = x) (e : m ≤ x) : IsMax f (n + 1) x := by
  obtain ⟨h1, i, hi, h2⟩ := h
  refine ⟨fun j hj => ?_, n, by omega, hx⟩
  by_cases c : j = n
  · rw [c, hx]; exact Int.le_refl _
  · have := h1 j (by omega); omega

theorem min_as (g : Nat) (f : Nat → Int) (w : World) (hc : ∀ i, i < 4 → w.cell? ⟨g, i, none⟩ = some (.int .i64 (f i))) :
    Calls Tryd.prog 28 #[.slice (some ⟨g, 0, none⟩) 4 4] w fun e w' => (∃ m, e = .returned (.int .i64 m) ∧ IsMin f 4 m) ∧ w = w' := by
  have HC := Lib.hid hc
  have c0 := hc 0 (by omega)
  have H0 := Lib.hid (IsMin.one f)
  obtain ⟨x, hx⟩ : ∃ x, f 0 = x := ⟨_, rfl⟩
  rw [hx] at c0 H0
  clear hc hx
  go_enter Tryd.func28, Tryd.ntmps28
  go_wp2_with fail
  go_loop [3, 4] (fun m i => ∃ (k : Nat) (v : Int), 1 ≤ k ∧ k ≤ 4 ∧ i = .int .i64 k ∧ m = .int .i64 v ∧ Hid (IsMin f k v)) (fun _ i => 4 - (intOf i).toNat)
  case atStart => exact ⟨1, x, by omega, by omega, rfl, rfl, H0⟩
  case round =>
    obtain ⟨k, v, hk1, hk, rfl, rfl, HM⟩ := hrel
    by_cases hlt : k < 4
    · have c1 := HC.out k hlt
      obtain ⟨y, hy⟩ : ∃ y, f k = y := ⟨_, rfl⟩
      have HY := Lib.hid hy
      rw [hy] at c1
      clear hy c0
      by_cases hv : y < v
      · go_wp2_with fail
        go_round
        case rel => exact ⟨k + 1, y, by omega, by omega, by go_num, congrArg (Value.int .i64) (by omega), Lib.hid (HM.out.new HY.out (by omega))⟩
        case measure => simp [intOf]; omega
      · go_wp2_with fail
        go_round
        case rel => exact ⟨k + 1, v, by omega, by omega, by go_num, congrArg (Value.int .i64) (by omega), Lib.hid (HM.out.old HY.out (by omega))⟩
        case measure => simp [intOf]; omega
    · obtain rfl : k = 4 := by omega
      go_wp2_with fail
      go_ret
      exact ⟨⟨_, rfl, HM.out⟩, rfl⟩

theorem max_as (g : Nat) (f : Nat → Int) (w : World) (hc : ∀ i, i < 4 → w.cell? ⟨g, i, none⟩ = some (.int .i64 (f i))) :
    Calls Tryd.prog 29 #[.slice (some ⟨g, 0, none⟩) 4 4] w fun e w' => (∃ m, e = .returned (.int .i64 m) ∧ IsMax f 4 m) ∧ w = w' := by
  have HC := Lib.hid hc
  have c0 := hc 0 (by omega)
  have H0 := Lib.hid (IsMax.one f)
  obtain ⟨x, hx⟩ : ∃ x, f 0 = x := ⟨_, rfl⟩
  rw [hx] at c0 H0
  clear hc hx
  go_enter Tryd.func29, Tryd.ntmps29
  go_wp2_with fail
  go_loop [3, 4] (fun m i => ∃ (k : Nat) (v : Int), 1 ≤ k ∧ k ≤ 4 ∧ i = .int .i64 k ∧ m = .int .i64 v ∧ Hid (IsMax f k v)) (fun _ i => 4 - (intOf i).toNat)
  case atStart => exact ⟨1, x, by omega, by omega, rfl, rfl, H0⟩
  case round =>
    obtain ⟨k, v, hk1, hk, rfl, rfl, HM⟩ := hrel
    by_cases hlt : k < 4
    · have c1 := HC.out k hlt
      obtain ⟨y, hy⟩ : ∃ y, f k = y := ⟨_, rfl⟩
      have HY := Lib.hid hy
      rw [hy] at c1
      clear hy c0
      by_cases hv : v < y
      · go_wp2_with fail
        go_round
        case rel => exact ⟨k + 1, y, by omega, by omega, by go_num, congrArg (Value.int .i64) (by omega), Lib.hid (HM.out.new HY.out (by omega))⟩
        case measure => simp [intOf]; omega
      · go_wp2_with fail
        go_round
        case rel => exact ⟨k + 1, v, by omega, by omega, by go_num, congrArg (Value.int .i64) (by omega), Lib.hid (HM.out.old HY.out (by omega))⟩
        case measure => simp [intOf]; omega
    · obtain rfl : k = 4 := by omega
      go_wp2_with fail
      go_ret
      exact ⟨⟨_, rfl, HM.out⟩, rfl⟩

/-- Levels as there are. -/
def okL (L : Nat → Int) : Prop := ∀ i, i < 4 → 0 ≤ L i ∧ L i ≤ 20

theorem areLevels_yes (T : Array Value) (L : Nat → Int) (w : World) (hT : IsRow 4 L T) (h : okL L) :
    Calls Tryd.prog 18 #[.agg T] w fun e w' => e = .returned (.bool true) ∧ Below w.heap.size w w' := by
  have HC := Lib.hid (hT.cell (At.new w T 22))
  have HM := Lib.hid (min_as w.heap.size L (w.alloc (.cells T 22)) HC.out)
  have HX := Lib.hid (max_as w.heap.size L (w.alloc (.cells T 22)) HC.out)
  have HL := Lib.hid h
  clear hT h
  go_enter Tryd.func18, Tryd.ntmps18
  go_wp2_with fail
  refine HM.out.mono ?_
  rintro e w1 ⟨⟨m, rfl, hm⟩, rfl⟩
  have m0 : 0 ≤ m := by
    obtain ⟨_, i, hi, e⟩ := hm
    rw [← e]; exact (HL.out i hi).1
  clear hm
  go_wp2_with fail
  refine HX.out.mono ?_
  rintro e w1 ⟨⟨x, rfl, hx⟩, rfl⟩
  have x0 : x ≤ 20 := by
    obtain ⟨_, i, hi, e⟩ := hx
    rw [← e]; exact (HL.out i hi).2
  clear hx
  go_wp2_with fail
  go_ret
  exact ⟨rfl, (Below.refl _ _).alloc (Nat.le_refl _) _⟩

theorem areLevels_no (T : Array Value) (L : Nat → Int) (w : World) (hT : IsRow 4 L T) (h : ¬ okL L) :
    Calls Tryd.prog 18 #[.agg T] w fun e w' => e = .returned (.bool false) ∧ Below w.heap.size w w' := by
  have HC := Lib.hid (hT.cell (At.new w T 22))
  have HM := Lib.hid (min_as w.heap.size L (w.alloc (.cells T 22)) HC.out)
  have HX := Lib.hid (max_as w.heap.size L (w.alloc (.cells T 22)) HC.out)
  have HL := Lib.hid h
  clear hT h
  go_enter Tryd.func18, Tryd.ntmps18
  go_wp2_with fail
  refine HM.out.mono ?_
  rintro e w1 ⟨⟨m, rfl, hm⟩, rfl⟩
  have HM1 := Lib.hid hm
  clear hm
  by_cases m0 : m < 0
  · go_wp2_with fail
    go_ret
    exact ⟨rfl, (Below.refl _ _).alloc (Nat.le_refl _) _⟩
  · go_wp2_with fail
    refine HX.out.mono ?_
    rintro e w1 ⟨⟨x, rfl, hx⟩, rfl⟩
    have x0 : 20 < x := by
      by_cases c : 20 < x
      · exact c
      · exact absurd (fun i hi => ⟨by have := HM1.out.1 i hi; omega, by have := hx.1 i hi; omega⟩) HL.out
    clear hx
    go_wp2_with fail
    go_ret
    exact ⟨ret_bool (decide_eq_false (by omega)), (Below.refl _ _).alloc (Nat.le_refl _) _⟩
end Go.Proofs.YtfcaigggacgfkaaDoor.Sp
