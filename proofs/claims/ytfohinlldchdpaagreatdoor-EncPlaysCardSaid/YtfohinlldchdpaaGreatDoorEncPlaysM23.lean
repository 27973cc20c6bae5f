/- Texts of the walk, one behind the other. -/
import Derived.Test.YtfohinlldchdpaaGreatDoorEncPlaysM10
import Derived.Test.YtfohinlldchdpaaGreatDoorEncPlaysM14
import Derived.Test.YtfohinlldchdpaaGreatDoorEncPlaysM20
import Derived.Test.YtfohinlldchdpaaGreatDoorEncPlaysM22
import Derived.Deep.LoopGhost

section
/- Contracts of spare's wish, Room, cost; the library's least and greatest of four numbers; areLevels. -/
set_option maxRecDepth 100000
set_option linter.unusedVariables false
namespace Go.Proofs.YtfohinlldchdpaaGreatDoor.Sp
open Go.RowKit Go.Proofs.YtfohinlldchdpaaGreatDoor.Row

theorem wish_as (l k r : Int) (w : World) (h1 : -1000 ≤ l) (h2 : l ≤ 1000) (h3 : -1000 ≤ k) (h4 : k ≤ 1000) (h : 2 * l - 3 * k = r) :
    Calls Tryz.prog 167 #[.int .i64 l, .int .i64 k] w fun e w' => e = .returned (.int .i64 r) ∧ w = w' := by
  subst h
  go_enter Tryz.func167, Tryz.ntmps167
  go_wp2
  go_ret
  exact ⟨rfl, rfl⟩

/-- The bits for pulses of a packet. -/
def rm (s u : Int) : Int := if 10 ≤ s ∧ s ≤ 32 ∧ 0 ≤ u ∧ u < 8 * s - 40 then 8 * s - 40 - u else 0

theorem room_any (s u : Int) (w : World) (hu : u ≤ 9223372036854775807) :
    Calls Tryz.prog 76 #[.int .i64 s, .int .i64 u] w fun e w' => e = .returned (.int .i64 (rm s u)) ∧ w = w' := by
  obtain ⟨r, hr⟩ : ∃ r, rm s u = r := ⟨_, rfl⟩
  rw [hr]
  unfold rm at hr
  have HR := Lib.hid hr
  clear hr
  by_cases c1 : s < 10
  · go_enter Tryz.func76, Tryz.ntmps76
    go_wp2
    go_ret
    exact ⟨ret_int (by have := HR.out; rw [if_neg (by omega)] at this; omega), rfl⟩
  by_cases c2 : 32 < s
  · go_enter Tryz.func76, Tryz.ntmps76
    go_wp2
    go_ret
    exact ⟨ret_int (by have := HR.out; rw [if_neg (by omega)] at this; omega), rfl⟩
  by_cases c3 : u < 0
  · go_enter Tryz.func76, Tryz.ntmps76
    go_wp2
    go_ret
    exact ⟨ret_int (by have := HR.out; rw [if_neg (by omega)] at this; omega), rfl⟩
  have b1 : (-9223372036854775808 : Int) ≤ 8 * s - 40 - u := by omega
  go_enter Tryz.func76, Tryz.ntmps76
  go_wp2
  all_goals
    go_ret
    refine ⟨ret_int ?_, rfl⟩
    have := HR.out
    split at this <;> omega

theorem size_b {b : Nat} (hb : b < 4) : ((Lv.hi b : Nat) : Int) - (Lv.lo b : Nat) = sB b := by
  have : b = 0 ∨ b = 1 ∨ b = 2 ∨ b = 3 := by omega
  rcases this with rfl | rfl | rfl | rfl <;> rfl

theorem size_as (b : Nat) (s : Nat) (w : World) (hT : Lv.Tab w) (hb : b < 4) (hs : sB b = s) :
    Calls Tryz.prog 133 #[.int .i64 b] w fun e w' => e = .returned (.int .i64 s) ∧ Below w.heap.size w w' := by
  rw [← hs]
  exact Lv.size_as b (sB b) w hT (size_b hb)

/-- What a number of pulses costs, whatever it is. -/
def cI (b : Nat) (k : Int) : Nat := Ve.bI (sB b) k
theorem cI_nat (b k : Nat) : cI b k = P b k := rfl
theorem cI_le (b : Nat) (k : Int) : cI b k ≤ 33 := by
  unfold cI Ve.bI
  exact Lib.bitLen_le _ 33 (by omega) (by have := Ve.cI_le (sB b) k; omega)

theorem cost_as (b : Nat) (k : Int) (c : Nat) (w : World) (hT : Lv.Tab w) (hb : b < 4) (hc : cI b k = c) :
    Calls Tryz.prog 164 #[.int .i64 b, .int .i64 k] w fun e w' => e = .returned (.int .i64 c) ∧ Below w.heap.size w w' := by
  unfold cI at hc
  have HS := Lib.hid (fun s hs => size_as b s w hT hb hs)
  obtain ⟨s, hs⟩ : ∃ s, sB b = s := ⟨_, rfl⟩
  rw [hs] at hc
  have HC := Lib.hid hc
  have HQ := Lib.hid hs
  clear hT hc hs
  go_enter Tryz.func164, Tryz.ntmps164
  go_wp2_with fail
  refine (HS.out s HQ.out).mono ?_
  rintro e w1 ⟨rfl, h1⟩
  have H1 := Lib.hid h1
  clear h1
  go_wp2_with fail
  refine (Ve.bits_as s k c _ HC.out).mono ?_
  rintro e w2 ⟨rfl, h2⟩
  have H2 := Lib.hid (below_trans H1.out h2 H1.out.size)
  clear h2
  go_wp2_with fail
  go_ret
  exact ⟨rfl, H2.out⟩

/-- m is the least, the greatest of the first n numbers. -/
def IsMin (f : Nat → Int) (n : Nat) (m : Int) : Prop := (∀ i, i < n → m ≤ f i) ∧ ∃ i, i < n ∧ f i = m
def IsMax (f : Nat → Int) (n : Nat) (m : Int) : Prop := (∀ i, i < n → f i ≤ m) ∧ ∃ i, i < n ∧ f i = m
theorem IsMin.one (f : Nat → Int) : IsMin f 1 (f 0) := ⟨fun i hi => by rw [show i = 0 by omega]; exact Int.le_refl _, 0, by omega, rfl⟩
theorem IsMax.one (f : Nat → Int) : IsMax f 1 (f 0) := ⟨fun i hi => by rw [show i = 0 by omega]; exact Int.le_refl _, 0, by omega, rfl⟩
theorem IsMin.old {f : Nat → Int} {n : Nat} {m x : Int} (h : IsMin f n m) (hx : f n = x) (e : m ≤ x) : IsMin f (n + 1) m := by
  obtain ⟨h1, i, hi, h2⟩ := h
  refine ⟨fun j hj => ?_, i, by omega, h2⟩
  by_cases c : j = n
  · rw [c, hx]; exact e
  · exact h1 j (by omega)
theorem IsMin.new {f : Nat → Int} {n : Nat} {m x : Int} (h : IsMin f n m) (hx : f n = x) (e : x ≤ m) : IsMin f (n + 1) x := by
  obtain ⟨h1, i, hi, h2⟩ := h
  refine ⟨fun j hj => ?_, n, by omega, hx⟩
  by_cases c : j = n
  · rw [c, hx]; exact Int.le_refl _
  · have := h1 j (by omega); omega
theorem IsMax.old {f : Nat → Int} {n : Nat} {m x : Int} (h : IsMax f n m) (hx : f n = x) (e : x ≤ m) : IsMax f (n + 1) m := by
  obtain ⟨h1, i, hi, h2⟩ := h
  refine ⟨fun j hj => ?_, i, by omega, h2⟩
  by_cases c : j = n
  · rw [c, hx]; exact e
  · exact h1 j (by omega)
theorem IsMax.new {f : Nat → Int} {n : Nat} {m x : Int} (h : IsMax f n m) (hx : f n = x) (e : m ≤ x) : IsMax f (n + 1) x := by
  obtain ⟨h1, i, hi, h2⟩ := h
  refine ⟨fun j hj => ?_, n, by omega, hx⟩
  by_cases c : j = n
  · rw [c, hx]; exact Int.le_refl _
  · have := h1 j (by omega); omega

theorem min_as (g : Nat) (f : Nat → Int) (w : World) (hc : ∀ i, i < 4 → w.cell? ⟨g, i, none⟩ = some (.int .i64 (f i))) :
    Calls Tryz.prog 126 #[.slice (some ⟨g, 0, none⟩) 4 4] w fun e w' => (∃ m, e = .returned (.int .i64 m) ∧ IsMin f 4 m) ∧ w = w' := by
  have HC := Lib.hid hc
  have c0 := hc 0 (by omega)
  have H0 := Lib.hid (IsMin.one f)
  obtain ⟨x, hx⟩ : ∃ x, f 0 = x := ⟨_, rfl⟩
  rw [hx] at c0 H0
  clear hc hx
  go_enter Tryz.func126, Tryz.ntmps126
  go_wp2_with fail
  go_loop [3, 4] (fun m i => ∃ (k : Nat) (v : Int), 1 ≤ k ∧ k ≤ 4 ∧ i = .int .i64 k ∧ m = .int .i64 v ∧ Hid (IsMin f k v)) (fun _ i => 4 - (intOf i).toNat)
  case atStart => exact ⟨1, x, by omega, by omega, rfl, rfl, H0⟩
  case round =>
    obtain ⟨k, v, hk1, hk, rfl, rfl, HM⟩ := hrel
    by_cases hlt : k < 4
    · have c1 := HC.out k hlt
      obtain ⟨y, hy⟩ : ∃ y, f k = y := ⟨_, rfl⟩
      have HY := Lib.hid hy
      rw [hy] at c1
      clear hy c0
      by_cases hv : y < v
      · go_wp2_with fail
        go_round
        case rel => exact ⟨k + 1, y, by omega, by omega, by go_num, congrArg (Value.int .i64) (by omega), Lib.hid (HM.out.new HY.out (by omega))⟩
        case measure => simp [intOf]; omega
      · go_wp2_with fail
        go_round
        case rel => exact ⟨k + 1, v, by omega, by omega, by go_num, congrArg (Value.int .i64) (by omega), Lib.hid (HM.out.old HY.out (by omega))⟩
        case measure => simp [intOf]; omega
    · obtain rfl : k = 4 := by omega
      go_wp2_with fail
      go_ret
      exact ⟨⟨_, rfl, HM.out⟩, rfl⟩

theorem max_as (g : Nat) (f : Nat → Int) (w : World) (hc : ∀ i, i < 4 → w.cell? ⟨g, i, none⟩ = some (.int .i64 (f i))) :
    Calls Tryz.prog 127 #[.slice (some ⟨g, 0, none⟩) 4 4] w fun e w' => (∃ m, e = .returned (.int .i64 m) ∧ IsMax f 4 m) ∧ w = w' := by
  have HC := Lib.hid hc
  have c0 := hc 0 (by omega)
  have H0 := Lib.hid (IsMax.one f)
  obtain ⟨x, hx⟩ : ∃ x, f 0 = x := ⟨_, rfl⟩
  rw [hx] at c0 H0
  clear hc hx
  go_enter Tryz.func127, Tryz.ntmps127
  go_wp2_with fail
  go_loop [3, 4] (fun m i => ∃ (k : Nat) (v : Int), 1 ≤ k ∧ k ≤ 4 ∧ i = .int .i64 k ∧ m = .int .i64 v ∧ Hid (IsMax f k v)) (fun _ i => 4 - (intOf i).toNat)
  case atStart => exact ⟨1, x, by omega, by omega, rfl, rfl, H0⟩
  case round =>
    obtain ⟨k, v, hk1, hk, rfl, rfl, HM⟩ := hrel
    by_cases hlt : k < 4
    · have c1 := HC.out k hlt
      obtain ⟨y, hy⟩ : ∃ y, f k = y := ⟨_, rfl⟩
      have HY := Lib.hid hy
      rw [hy] at c1
      clear hy c0
      by_cases hv : v < y
      · go_wp2_with fail
        go_round
        case rel => exact ⟨k + 1, y, by omega, by omega, by go_num, congrArg (Value.int .i64) (by omega), Lib.hid (HM.out.new HY.out (by omega))⟩
        case measure => simp [intOf]; omega
      · go_wp2_with fail
        go_round
        case rel => exact ⟨k + 1, v, by omega, by omega, by go_num, congrArg (Value.int .i64) (by omega), Lib.hid (HM.out.old HY.out (by omega))⟩
        case measure => simp [intOf]; omega
    · obtain rfl : k = 4 := by omega
      go_wp2_with fail
      go_ret
      exact ⟨⟨_, rfl, HM.out⟩, rfl⟩

/-- Levels as there are. -/
def okL (L : Nat → Int) : Prop := ∀ i, i < 4 → 0 ≤ L i ∧ L i ≤ 20

theorem areLevels_yes (T : Array Value) (L : Nat → Int) (w : World) (hT : IsRow 4 L T) (h : okL L) :
    Calls Tryz.prog 116 #[.agg T] w fun e w' => e = .returned (.bool true) ∧ Below w.heap.size w w' := by
  have HC := Lib.hid (hT.cell (At.new w T 23))
  have HM := Lib.hid (min_as w.heap.size L (w.alloc (.cells T 23)) HC.out)
  have HX := Lib.hid (max_as w.heap.size L (w.alloc (.cells T 23)) HC.out)
  have HL := Lib.hid h
  clear hT h
  go_enter Tryz.func116, Tryz.ntmps116
  go_wp2_with fail
  refine HM.out.mono ?_
  rintro e w1 ⟨⟨m, rfl, hm⟩, rfl⟩
  have m0 : 0 ≤ m := by
    obtain ⟨_, i, hi, e⟩ := hm
    rw [← e]; exact (HL.out i hi).1
  clear hm
  go_wp2_with fail
  refine HX.out.mono ?_
  rintro e w1 ⟨⟨x, rfl, hx⟩, rfl⟩
  have x0 : x ≤ 20 := by
    obtain ⟨_, i, hi, e⟩ := hx
    rw [← e]; exact (HL.out i hi).2
  clear hx
  go_wp2_with fail
  go_ret
  exact ⟨rfl, (Below.refl _ _).alloc (Nat.le_refl _) _⟩

end Go.Proofs.YtfohinlldchdpaaGreatDoor.Sp
end

section
/- Contracts: the order of the bands: the closure that compares two, the library's stable sort of four, byWish. -/
set_option maxRecDepth 100000
set_option linter.unusedVariables false
namespace Go.Proofs.YtfohinlldchdpaaGreatDoor.Sp
open Go.RowKit Go.Proofs.YtfohinlldchdpaaGreatDoor.Row

/-- A band's wish, and whether x goes ahead of y. -/
def wI (L : Nat → Int) (K : Nat → Nat) (b : Nat) : Int := 2 * L b - 3 * K b
def ltW (L : Nat → Int) (K : Nat → Nat) (x y : Nat) : Bool := decide (wI L K y < wI L K x)

/-- What the closure reads: levels and pulses. -/
structure Two (w : World) (g h : Nat) (L : Nat → Int) (K : Nat → Nat) : Prop where
  lev : ∀ i, i < 4 → w.cell? ⟨g, i, none⟩ = some (.int .i64 (L i))
  pul : ∀ i, i < 4 → w.cell? ⟨h, i, none⟩ = some (.int .i64 (K i))
theorem Two.drewN {w : World} {g h : Nat} {L : Nat → Int} {K : Nat → Nat} (s : Two w g h L K) (n : Nat) : Two (w.drewN n) g h L K := ⟨s.lev, s.pul⟩
theorem Two.drew {w : World} {g h : Nat} {L : Nat → Int} {K : Nat → Nat} (s : Two w g h L K) : Two w.drew g h L K := ⟨s.lev, s.pul⟩
theorem Two.setCell {w : World} {g h : Nat} {L : Nat → Int} {K : Nat → Nat} (s : Two w g h L K) {b i : Nat} (h1 : g ≠ b) (h2 : h ≠ b) (v : Value) : Two (w.setCell ⟨b, i, none⟩ v) g h L K :=
  ⟨fun j hj => (cell_set_other w _ _ v h1).trans (s.lev j hj), fun j hj => (cell_set_other w _ _ v h2).trans (s.pul j hj)⟩

theorem cmp_as (g h a b : Nat) (L : Nat → Int) (K : Nat → Nat) (w : World) (hS : Two w g h L K) (ha : a < 4) (hb : b < 4) (hL : okL L) (hK : ∀ i, i < 4 → K i ≤ 8) :
    Calls Tryz.prog 166 #[.int .i64 a, .int .i64 b, .pointer (some ⟨g, 0, none⟩), .pointer (some ⟨h, 0, none⟩)] w fun e w' => e = .returned (.int .i64 (wI L K b - wI L K a)) ∧ ∃ m, w' = w.drewN m := by
  have c1 := hS.lev a ha
  have c2 := hS.lev b hb
  have c3 := hS.pul a ha
  have c4 := hS.pul b hb
  have la := hL a ha
  have lb := hL b hb
  have ka := hK a ha
  have kb := hK b hb
  unfold wI
  obtain ⟨x, hx⟩ : ∃ x, L a = x := ⟨_, rfl⟩
  obtain ⟨y, hy⟩ : ∃ y, L b = y := ⟨_, rfl⟩
  obtain ⟨p, hp⟩ : ∃ p, K a = p := ⟨_, rfl⟩
  obtain ⟨q, hq⟩ : ∃ q, K b = q := ⟨_, rfl⟩
  rw [hx] at c1 la ⊢
  rw [hy] at c2 lb ⊢
  rw [hp] at c3 ka ⊢
  rw [hq] at c4 kb ⊢
  obtain ⟨u, hu⟩ : ∃ u, 2 * x - 3 * (p : Int) = u := ⟨_, rfl⟩
  obtain ⟨v, hv⟩ : ∃ v, 2 * y - 3 * (q : Int) = v := ⟨_, rfl⟩
  have u1 : -24 ≤ u ∧ u ≤ 40 := by omega
  have v1 : -24 ≤ v ∧ v ≤ 40 := by omega
  have HU := Lib.hid (fun w => wish_as x p u w (by omega) (by omega) (by omega) (by omega) hu)
  have HV := Lib.hid (fun w => wish_as y q v w (by omega) (by omega) (by omega) (by omega) hv)
  have a0 : (0 : Int) ≤ (a : Int) := by omega
  have b0 : (0 : Int) ≤ (b : Int) := by omega
  have a1 : (a : Int) < 4 := by omega
  have b1 : (b : Int) < 4 := by omega
  rw [hu, hv]
  clear hS hL hK hx hy hp hq hu hv
  go_enter Tryz.func166, Tryz.ntmps166
  go_wp2_with fail
  go_quiet ((go_at_call 167; first | with_reducible exact quiet_int (HU.out _) | with_reducible exact quiet_int (HV.out _)))
  go_wp2_with fail
  go_ret
  exact ⟨rfl, _, rfl⟩

theorem quiet_dn {f : FuncId} {xs : Array Value} {w0 : World} {n : Nat} {c : Int}
    (h : Calls Tryz.prog f xs (w0.drewN n) fun e w' => e = .returned (.int .i64 c) ∧ ∃ m, w' = (w0.drewN n).drewN m) :
    Calls Tryz.prog f xs (w0.drewN n) fun e w' => e = .returned (.int .i64 c) ∧ ∃ m, w' = w0.drewN m :=
  h.mono fun _ _ ⟨he, m, hw⟩ => ⟨he, n + m, by rw [hw, World.drewN_drewN]⟩

theorem sw_lt {d : Nat → Nat} (h : ∀ p, p < 4 → d p < 4) {j : Nat} (hj : j < 4) : ∀ p, p < 4 → sw d j p < 4 := fun p hp => by
  unfold sw
  split
  · exact h _ (by omega)
  · split
    · exact h _ hj
    · exact h _ hp

/-- What stands while the order is sorted. -/
structure Srt (W w : World) (bo g h : Nat) (L : Nat → Int) (K : Nat → Nat) (d : Nat → Nat) : Prop where
  two : Two w g h L K
  ord : ∃ T, IsRow 4 (fun p => (d p : Int)) T ∧ At w bo T 23
  fr : Fr (Just bo) W w
  lt : ∀ p, p < 4 → d p < 4
theorem Srt.drewN {W w : World} {bo g h : Nat} {L : Nat → Int} {K : Nat → Nat} {d : Nat → Nat} (s : Srt W w bo g h L K d) (n : Nat) : Srt W (w.drewN n) bo g h L K d :=
  ⟨s.two.drewN n, s.ord, s.fr.drewN n, s.lt⟩
theorem Srt.drew {W w : World} {bo g h : Nat} {L : Nat → Int} {K : Nat → Nat} {d : Nat → Nat} (s : Srt W w bo g h L K d) : Srt W w.drew bo g h L K d :=
  ⟨s.two.drew, s.ord, s.fr.drew, s.lt⟩
theorem Srt.cell {W w : World} {bo g h : Nat} {L : Nat → Int} {K : Nat → Nat} {d : Nat → Nat} (s : Srt W w bo g h L K d) {p : Nat} (hp : p < 4) : w.cell? ⟨bo, p, none⟩ = some (.int .i64 (d p)) := by
  obtain ⟨T, hT, hA⟩ := s.ord
  exact hT.cell hA p hp
theorem Srt.frozen {W w : World} {bo g h : Nat} {L : Nat → Int} {K : Nat → Nat} {d : Nat → Nat} (s : Srt W w bo g h L K d) (p : Nat) : w.frozen? ⟨bo, p, none⟩ = false := by
  obtain ⟨T, hT, hA⟩ := s.ord
  exact hA.frozen p
theorem fr_set {bo i : Nat} {W w : World} {v : Value} (h : Fr (Just bo) W w) : Fr (Just bo) W (w.setCell ⟨bo, i, none⟩ v) := h.setCell (p := ⟨bo, i, none⟩) (.inl (Just.self bo)) v
theorem Srt.swap {W w w' : World} {bo g h : Nat} {L : Nat → Int} {K : Nat → Nat} {d : Nat → Nat} (s : Srt W w bo g h L K d) {j : Nat} (hj : j + 1 < 4) (hg : g ≠ bo) (hh : h ≠ bo) {x y : Nat} (hx : d j = x) (hy : d (j + 1) = y)
    (e : w' = (w.setCell ⟨bo, j + 1, none⟩ (.int .i64 x)).setCell ⟨bo, j, none⟩ (.int .i64 y) ∨ w' = (w.setCell ⟨bo, j, none⟩ (.int .i64 y)).setCell ⟨bo, j + 1, none⟩ (.int .i64 x)) : Srt W w' bo g h L K (sw d (j + 1)) := by
  obtain ⟨T, hT, hA⟩ := s.ord
  have hl := sw_lt s.lt hj
  rcases e with rfl | rfl
  · refine ⟨(s.two.setCell hg hh _).setCell hg hh _, ⟨_, ((hT.set (x : Int) hj).set (y : Int) (show j < 4 by omega)).ext fun p hp => ?_, hA.setCell.setCell⟩, fr_set (fr_set s.fr), hl⟩
    unfold sw
    rw [show j + 1 - 1 = j by omega]
    by_cases c : p = j
    · rw [if_pos c, if_neg (by omega), if_pos c, hy]
    · rw [if_neg c]
      by_cases c2 : p = j + 1
      · rw [if_pos c2, if_pos c2, hx]
      · rw [if_neg c2, if_neg c2, if_neg c]
  · refine ⟨(s.two.setCell hg hh _).setCell hg hh _, ⟨_, ((hT.set (y : Int) (show j < 4 by omega)).set (x : Int) hj).ext fun p hp => ?_, hA.setCell.setCell⟩, fr_set (fr_set s.fr), hl⟩
    unfold sw
    rw [show j + 1 - 1 = j by omega]
    by_cases c2 : p = j + 1
    · rw [if_pos c2, if_pos c2, hx]
    · rw [if_neg c2, if_neg c2]
      by_cases c : p = j
      · rw [if_pos c, if_pos c, hy]
      · rw [if_neg c, if_neg c]

theorem ins_as (W : World) (bo g h : Nat) (L : Nat → Int) (K : Nat → Nat) (w : World) (hS : Srt W w bo g h L K id) (hg : g ≠ bo) (hh : h ≠ bo) (hL : okL L) (hK : ∀ i, i < 4 → K i ≤ 8) :
    Calls Tryz.prog 211 #[.slice (some ⟨bo, 0, none⟩) 4 4, .int .i64 0, .int .i64 4, .func (.func 166) #[] #[.pointer (some ⟨g, 0, none⟩), .pointer (some ⟨h, 0, none⟩)]] w fun e w' =>
      e = .returned (.tuple #[]) ∧ Srt W w' bo g h L K (so (ltW L K) 4) := by
  have HS := Lib.hid hS
  have HCM := Lib.hid (fun a b w s ha hb => cmp_as g h a b L K w s ha hb hL hK)
  clear hS hL hK
  go_enter Tryz.func211, Tryz.ntmps211
  go_wp2_with fail
  go_loopw [8] (fun i w' => ∃ k : Nat, 1 ≤ k ∧ k ≤ 4 ∧ i = .int .i64 k ∧ Hid (Srt W w' bo g h L K (so (ltW L K) k))) (fun i _ => 4 - (intOf i).toNat)
  case atStart => exact ⟨1, by omega, by omega, rfl, HS⟩
  case round =>
    obtain ⟨k, hk1, hk, rfl, HW⟩ := hrel
    by_cases hlt : k < 4
    · go_wp2_with fail
      have HE := Lib.hid (show inn (ltW L K) k (so (ltW L K) k) = so (ltW L K) (k + 1) by
        obtain ⟨n, rfl⟩ : ∃ n, k = n + 1 := ⟨k - 1, by omega⟩
        rfl)
      go_loopw [9] (fun j w' => ∃ (q : Nat) (d : Nat → Nat), q ≤ k ∧ j = .int .i64 q ∧ Hid (Srt W w' bo g h L K d) ∧ Hid (inn (ltW L K) q d = so (ltW L K) (k + 1))) (fun j _ => (intOf j).toNat)
      case atStart => exact ⟨k, _, Nat.le_refl _, rfl, HW, HE⟩
      case round =>
        obtain ⟨q, d, hq, rfl, HD, HI⟩ := hrel
        clear HW
        by_cases hq0 : 0 < q
        · obtain ⟨j, rfl⟩ : ∃ j, q = j + 1 := ⟨q - 1, by omega⟩
          have c0 := HD.out.cell (show j < 4 by omega)
          have c1 := HD.out.cell (show j + 1 < 4 by omega)
          have HP := Lib.hid (fun n => HCM.out (d (j + 1)) (d j) (wr.drewN n) (HD.out.two.drewN n) (HD.out.lt _ (by omega)) (HD.out.lt _ (by omega)))
          have HN := Lib.hid (show inn (ltW L K) (j + 1) d = if ltW L K (d (j + 1)) (d j) then inn (ltW L K) j (sw d (j + 1)) else d from rfl)
          have HT := Lib.hid (show ltW L K (d (j + 1)) (d j) = decide (wI L K (d j) - wI L K (d (j + 1)) < 0) by unfold ltW; rw [decide_eq_decide]; omega)
          obtain ⟨x, hx⟩ : ∃ x, d j = x := ⟨_, rfl⟩
          obtain ⟨y, hy⟩ : ∃ y, d (j + 1) = y := ⟨_, rfl⟩
          have HX := Lib.hid hx
          have HY := Lib.hid hy
          rw [hx] at c0
          rw [hy] at c1
          rw [hx, hy] at HP HN HT
          obtain ⟨r, hr⟩ : ∃ r, wI L K x - wI L K y = r := ⟨_, rfl⟩
          rw [hr] at HP HT
          clear hx hy hr
          have jz : (j : Int) + 1 < 4 := by omega
          have jz1 : (j : Int) < 4 := by omega
          have hwp : IntKind.i64.wrap (j : Int) = (j : Int) := IntWalk.i64_in _ (by omega)
          have p1 : (0 : Int) ≤ (j : Int) := by omega
          have p0 : (0 : Int) ≤ (j : Int) + 1 := by omega
          have e0 : ((j : Int) + 1).toNat = j + 1 := by omega
          by_cases c : r < 0
          · have HZ := Lib.hid (show inn (ltW L K) j (sw d (j + 1)) = so (ltW L K) (k + 1) by rw [← HI.out, HN.out, HT.out, decide_eq_true c]; rfl)
            clear HT HN HI
            go_wp2_with fail
            go_quiet ((go_at_call 166; with_reducible exact quiet_dn (HP.out _)))
            go_wp2_with fail
            have k0 : (wr.drewN nq).cell? ⟨bo, j, none⟩ = some (.int .i64 x) := c0
            have k1 : (wr.drewN nq).cell? ⟨bo, j + 1, none⟩ = some (.int .i64 y) := c1
            have f0 := (HD.out.drewN nq).frozen j
            have f1 := (HD.out.drewN nq).frozen (j + 1)
            have HD2 := Lib.hid (HD.out.drewN nq)
            clear HD HP c0 c1
            generalize wr.drewN nq = w2 at HD2 k0 k1 f0 f1 ⊢
            obtain ⟨j1, hj1⟩ : ∃ j1, j1 = j + 1 := ⟨_, rfl⟩
            rw [← hj1] at k1 f1 e0
            have J1 := Lib.hid hj1
            clear hj1
            go_region
            all_goals
              go_wp2
              go_roundw
              case rel =>
                refine ⟨j, sw d (j + 1), by omega, by first | rfl | go_num | (congr 1; omega), Lib.hid ?_, HZ⟩
                rw [J1.out]
                exact Srt.drew (HD2.out.swap (by omega) hg hh HX.out HY.out (.inl rfl))
              case measure => simp [intOf]
          · have HZ := Lib.hid (show d = so (ltW L K) (k + 1) by rw [← HI.out, HN.out, HT.out, decide_eq_false c]; rfl)
            clear HT HN HI
            go_wp2_with fail
            go_quiet ((go_at_call 166; with_reducible exact quiet_dn (HP.out _)))
            go_wp2_with fail
            go_roundw
            case rel => exact ⟨k + 1, by omega, by omega, by go_num, Lib.hid (by rw [← HZ.out]; exact HD.out.drewN _)⟩
            case measure => simp [intOf]; omega
        · obtain rfl : q = 0 := by omega
          have HZ := Lib.hid (show d = so (ltW L K) (k + 1) from HI.out)
          clear HI
          go_wp2_with fail
          go_quiet (fail)
          go_wp2_with fail
          go_roundw
          case rel => exact ⟨k + 1, by omega, by omega, by go_num, Lib.hid (by rw [← HZ.out]; exact HD.out.drewN _)⟩
          case measure => simp [intOf]; omega
    · obtain rfl : k = 4 := by omega
      go_wp2_with fail
      go_end0
      exact ⟨rfl, HW.out⟩

theorem stable_as (W : World) (bo g h : Nat) (L : Nat → Int) (K : Nat → Nat) (w : World) (hS : Srt W w bo g h L K id) (hg : g ≠ bo) (hh : h ≠ bo) (hL : okL L) (hK : ∀ i, i < 4 → K i ≤ 8) :
    Calls Tryz.prog 197 #[.slice (some ⟨bo, 0, none⟩) 4 4, .int .i64 4, .func (.func 166) #[] #[.pointer (some ⟨g, 0, none⟩), .pointer (some ⟨h, 0, none⟩)]] w fun e w' =>
      e = .returned (.tuple #[]) ∧ Srt W w' bo g h L K (so (ltW L K) 4) := by
  have HI := Lib.hid (ins_as W bo g h L K w hS hg hh hL hK)
  clear hS hL hK
  go_enter Tryz.func197, Tryz.ntmps197
  go_wp2_with fail
  go_loopw [7, 8] (fun a b w' => a = .int .i64 0 ∧ b = .int .i64 20 ∧ w' = w) (fun _ _ _ => 0)
  case atStart => exact ⟨rfl, rfl, rfl⟩
  case round =>
    obtain ⟨rfl, rfl, rfl⟩ := hrel
    go_wp2_with fail
    refine HI.out.mono ?_
    rintro e w1 ⟨rfl, h1⟩
    have H1 := Lib.hid h1
    clear h1 HI
    go_wp2_with fail
    go_loopw [6] (fun a w' => a = .int .i64 20 ∧ w' = w1) (fun _ _ => 0)
    case atStart => exact ⟨rfl, rfl⟩
    case round =>
      obtain ⟨rfl, rfl⟩ := hrel
      go_wp2_with fail
      go_end0
      exact ⟨rfl, H1.out⟩

theorem sort_as (W : World) (bo g h : Nat) (L : Nat → Int) (K : Nat → Nat) (w : World) (hS : Srt W w bo g h L K id) (hg : g ≠ bo) (hh : h ≠ bo) (hL : okL L) (hK : ∀ i, i < 4 → K i ≤ 8) :
    Calls Tryz.prog 165 #[.slice (some ⟨bo, 0, none⟩) 4 4, .func (.func 166) #[] #[.pointer (some ⟨g, 0, none⟩), .pointer (some ⟨h, 0, none⟩)]] w fun e w' =>
      e = .returned (.tuple #[]) ∧ Srt W w' bo g h L K (so (ltW L K) 4) := by
  have HI := Lib.hid (stable_as W bo g h L K w hS hg hh hL hK)
  clear hS hL hK
  go_enter Tryz.func165, Tryz.ntmps165
  go_wp2_with fail
  refine HI.out.mono ?_
  rintro e w1 ⟨rfl, h1⟩
  have H1 := Lib.hid h1
  clear h1 HI
  go_wp2_with fail
  go_end0
  exact ⟨rfl, H1.out⟩

/-- A row of four, its type's zero and size. -/
theorem zero4 : ∃ Z, IsRow 4 (fun _ => 0) Z ∧ (∀ f, rowL 4 f 0 = Z) ∧ (∀ w, (zeroValue 23).run Tryz.prog w = .ok (.agg Z) w) ∧ ∀ A : Array Value, A.size = 4 → (Tryz.prog.info? 23).map (·.size) = some A.size :=
  zero_row (by kernel_rfl)

/-- What byWish leaves: a row of the bands in their order. -/
def Ret4 (w0 : World) (f : Nat → Int) (e : Ending) (w' : World) : Prop := (∃ T, e = .returned (.agg T) ∧ IsRow 4 f T) ∧ Below w0.heap.size w0 w'

theorem below_both {B : Nat} {w w1 w2 : World} (h : Below B w w1) (h2 : Below B w1 w2) : Below B w w2 :=
  ⟨h2.os.trans h.os, h2.tape.trans h.tape, h2.output.trans h.output, Nat.le_trans h.size h2.size, fun k hk => (h2.block k hk).trans (h.block k hk)⟩

/-- While the bands are written down: the first k. -/
def up (k p : Nat) : Int := if p < k then p else 0
theorem up_next (k p : Nat) : (if p = k then (k : Int) else up k p) = up (k + 1) p := by
  unfold up
  by_cases c : p = k
  · rw [if_pos c, if_pos (by omega), c]
  · rw [if_neg c]
    by_cases c2 : p < k
    · rw [if_pos c2, if_pos (by omega)]
    · rw [if_neg c2, if_neg (by omega)]

set_option maxHeartbeats 400000 in
theorem byWish_as (TL TK : Array Value) (L : Nat → Int) (K : Nat → Nat) (w : World) (hTL : IsRow 4 L TL) (hTK : IsRow 4 (fun i => (K i : Int)) TK) (hL : okL L) (hK : ∀ i, i < 4 → K i ≤ 8) :
    Calls Tryz.prog 118 #[.agg TL, .agg TK] w (Ret4 w fun p => (so (ltW L K) 4 p : Int)) := by
  have hmf : ∀ (fn : Fn) (first cap : Array Value) (w : World), (Instr.makeFunc fn first cap).run Tryz.prog w = .ok (.func fn first cap) w := fun _ _ _ _ => rfl
  obtain ⟨Z, hZ, hZ0, hz, hi⟩ := zero4
  have HI := Lib.hid hi
  have HSO := Lib.hid (fun w1 s => sort_as w1 (w.heap.size + 3) w.heap.size (w.heap.size + 1) L K w1 s (by omega) (by omega) hL hK)
  have HTL := Lib.hid hTL
  have HTK := Lib.hid hTK
  have H0 : Hid (∀ w', w' = (((w.alloc (.cells TL 23)).alloc (.cells TK 23)).alloc (.cells Z 23)).alloc (.cells Z 23) →
      At w' w.heap.size TL 23 ∧ At w' (w.heap.size + 1) TK 23 ∧ At w' (w.heap.size + 2) Z 23 ∧ At w' (w.heap.size + 3) Z 23 ∧ Below w.heap.size w w') := Lib.hid (by
    rintro w' rfl
    refine ⟨(((At.new w TL _).alloc _).alloc _).alloc _, ?_, ?_, ?_, ((((Below.refl _ _).alloc (Nat.le_refl _) _).alloc (by simp) _).alloc (by simp; omega) _).alloc (by simp; omega) _⟩
    · have := ((At.new (w.alloc (.cells TL 23)) TK 23).alloc (.cells Z 23)).alloc (.cells Z 23)
      simpa using this
    · have := (At.new ((w.alloc (.cells TL 23)).alloc (.cells TK 23)) Z 23).alloc (.cells Z 23)
      simpa using this
    · have := At.new (((w.alloc (.cells TL 23)).alloc (.cells TK 23)).alloc (.cells Z 23)) Z 23
      simpa using this)
  have HZ := Lib.hid (hZ.ext fun p _ => (show (0 : Int) = up 0 p by unfold up; rw [if_neg (by omega)]))
  have HZS := Lib.hid hZ.1
  clear hZ hZ0 hi hL hK hTL hTK
  go_enter Tryz.func118, Tryz.ntmps118
  go_wp2_with fail
  have HA := Lib.hid (H0.out _ rfl)
  clear H0
  go_loopw [7] (fun i w' => ∃ (k : Nat) (T : Array Value), k ≤ 4 ∧ i = .int .i64 k ∧ Hid (At w' w.heap.size TL 23 ∧ At w' (w.heap.size + 1) TK 23 ∧ At w' (w.heap.size + 2) Z 23 ∧ At w' (w.heap.size + 3) T 23 ∧ Below w.heap.size w w') ∧ Hid (IsRow 4 (up k) T)) (fun i _ => 4 - (intOf i).toNat)
  case atStart => exact ⟨0, Z, by omega, rfl, HA, HZ⟩
  case round =>
    obtain ⟨k, T, hk, rfl, HB, HT⟩ := hrel
    clear HA
    by_cases hlt : k < 4
    · have k0 : (0 : Int) ≤ (k : Int) := by omega
      have k1 : (k : Int) < 4 := by omega
      have c0 := HT.out.cell HB.out.2.2.2.1 k hlt
      have f0 := HB.out.2.2.2.1.frozen k
      go_wp2_with fail
      go_roundw
      case rel =>
        obtain ⟨h1, h2, h3, h4, h5⟩ := HB.out
        exact ⟨k + 1, _, by omega, by go_num, Lib.hid ⟨h1.setCell_other (by dsimp only; omega), h2.setCell_other (by dsimp only; omega), h3.setCell_other (by dsimp only; omega), h4.setCell, h5.setCell (by dsimp only; omega) _⟩, Lib.hid ((HT.out.set (k := k) (k : Int) hlt).ext fun p _ => up_next k p)⟩
      case measure => simp [intOf]; omega
    · obtain rfl : k = 4 := by omega
      have HC := Lib.hid (HSO.out wr ⟨⟨HTL.out.cell HB.out.1, HTK.out.cell HB.out.2.1⟩, ⟨T, HT.out.ext fun p hp => by unfold up; rw [if_pos hp]; rfl, HB.out.2.2.2.1⟩, Fr.refl _ _, fun p hp => hp⟩)
      clear HSO
      go_wp2_with fail
      refine HC.out.mono ?_
      rintro e w1 ⟨rfl, hs⟩
      obtain ⟨T2, hT2, hA2⟩ := hs.ord
      have hf := hs.fr
      have HT2 := Lib.hid hT2
      have HA2 := Lib.hid hA2
      have HA3 := Lib.hid (HB.out.2.2.1.fr hf (fun (e : w.heap.size + 2 = w.heap.size + 3) => by omega))
      have HL := Lib.hid (below_both HB.out.2.2.2.2 (hf.below HB.out.2.2.2.2.size fun k (e : k = w.heap.size + 3) => by omega))
      clear hs hT2 hA2 hf HC HB
      go_wp2_with (first
        | refine wpList_load_row rfl 23 _ rfl (w.heap.size + 3) rfl _ _ (0, 0) _ HA2.out Tryz.underlying23 rfl (HI.out _ HT2.out.1) ?_
        | refine wpList_store_row rfl 23 _ _ rfl (w.heap.size + 2) T2 rfl rfl _ _ HA3.out (HI.out _ HT2.out.1) (by rw [HZS.out, HT2.out.1]) HT2.out.2.1 ?_)
      exact bodyPost_ret (v := .agg T2) (results_cell_row rfl _ _ (w.heap.size + 2) 23 T2 (0, 0) _ rfl HA3.out.setRow Tryz.underlying23 rfl (HI.out _ HT2.out.1)) rfl ⟨⟨T2, rfl, HT2.out⟩, below_setRow' HL.out (by omega) _⟩
end Go.Proofs.YtfohinlldchdpaaGreatDoor.Sp
end

section
/- Contracts of prices and Cost. -/
set_option maxRecDepth 100000
set_option linter.unusedVariables false
namespace Go.Proofs.YtfohinlldchdpaaGreatDoor.Sp
open Go.RowKit Go.Proofs.YtfohinlldchdpaaGreatDoor.Row

/-- The prices, band by band. -/
def pf (p : Nat) : Int := pr (p / 8) (p % 8)
theorem pf_at {b k : Nat} (h : k < 8) : pf (b * 8 + k) = pr b k := by
  unfold pf
  rw [show (b * 8 + k) / 8 = b by omega, show (b * 8 + k) % 8 = k by omega]
def upP (n p : Nat) : Int := if p < n then pf p else 0
theorem upP_next (n p : Nat) : (if p = n then pf n else upP n p) = upP (n + 1) p := by
  unfold upP
  by_cases c : p = n
  · rw [if_pos c, if_pos (by omega), c]
  · rw [if_neg c]
    by_cases c2 : p < n
    · rw [if_pos c2, if_pos (by omega)]
    · rw [if_neg c2, if_neg (by omega)]

theorem zero32 : ∃ Z, IsRow 32 (fun _ => 0) Z ∧ (∀ f, rowL 32 f 0 = Z) ∧ (∀ w, (zeroValue 157).run Tryz.prog w = .ok (.agg Z) w) ∧ ∀ A : Array Value, A.size = 32 → (Tryz.prog.info? 157).map (·.size) = some A.size :=
  zero_row (by kernel_rfl)

/-- A row by value, of m numbers. -/
def RetR (m : Nat) (w0 : World) (f : Nat → Int) (e : Ending) (w' : World) : Prop := (∃ T, e = .returned (.agg T) ∧ IsRow m f T) ∧ Below w0.heap.size w0 w'

/-- What stands while prices are written down. -/
def PrS (w w' : World) (Z T : Array Value) : Prop := At w' w.heap.size Z 157 ∧ At w' (w.heap.size + 1) T 157 ∧ Below w.heap.size w w'
theorem PrS.start (w : World) (Z : Array Value) : PrS w ((w.alloc (.cells Z 157)).alloc (.cells Z 157)) Z Z := by
  refine ⟨(At.new w Z _).alloc _, ?_, ((Below.refl _ _).alloc (Nat.le_refl _) _).alloc (by simp) _⟩
  have := At.new (w.alloc (.cells Z 157)) Z 157
  simpa using this
theorem PrS.next {w w1 w2 : World} {Z T : Array Value} (h : PrS w w1 Z T) (hb : Below w1.heap.size w1 w2) : PrS w w2 Z T :=
  ⟨h.1.below hb h.1.lt, h.2.1.below hb h.2.1.lt, below_trans h.2.2 hb h.2.2.size⟩
theorem PrS.set {w w1 : World} {Z T : Array Value} (h : PrS w w1 Z T) (i : Nat) (v : Value) : PrS w (w1.setCell ⟨w.heap.size + 1, i, none⟩ v) Z (T.setIfInBounds i v) :=
  ⟨h.1.setCell_other (by dsimp only; omega), h.2.1.setCell, h.2.2.setCell (by dsimp only; omega) _⟩

set_option maxHeartbeats 400000 in
theorem prices_as (w : World) (hT : Lv.Tab w) :
    Calls Tryz.prog 117 #[] w (RetR 32 w pf) := by
  obtain ⟨Z, hZ, hZ0, hz, hi⟩ := zero32
  have HI := Lib.hid hi
  have HTB := Lib.hid hT
  have HZ := Lib.hid (hZ.ext fun p _ => (show (0 : Int) = upP (0 * 8) p by unfold upP; rw [if_neg (by omega)]))
  have HZS := Lib.hid hZ.1
  have HS := Lib.hid (PrS.start w Z)
  clear hZ hZ0 hi hT
  go_enter Tryz.func117, Tryz.ntmps117
  go_wp2_with fail
  go_loopw [6] (fun i w' => ∃ (b : Nat) (T : Array Value), b ≤ 4 ∧ i = .int .i64 b ∧ Hid (PrS w w' Z T) ∧ Hid (IsRow 32 (upP (b * 8)) T)) (fun i _ => 4 - (intOf i).toNat)
  case atStart => exact ⟨0, Z, by omega, rfl, HS, HZ⟩
  case round =>
    obtain ⟨b, T, hb, rfl, HW, HT⟩ := hrel
    clear HS
    by_cases hlt : b < 4
    · have HC := Lib.hid (fun (k : Nat) w' (h : Below w.heap.size w w') => cost_as b k (P b k) w' (HTB.out.next h) hlt (cI_nat b k))
      have HP0 := Lib.hid (P_zero hlt)
      have HPL := Lib.hid (P_le b)
      go_wp2_with fail
      refine (HC.out 0 _ HW.out.2.2).mono ?_
      rintro e w1 ⟨rfl, h1⟩
      have HW1 := Lib.hid (HW.out.next h1)
      clear h1 HW
      go_wp2_with fail
      go_loopw [3, 11] (fun q i w' => ∃ (k : Nat) (T : Array Value), k ≤ 8 ∧ i = .int .i64 k ∧ q = .int .i64 (P b k) ∧ Hid (PrS w w' Z T) ∧ Hid (IsRow 32 (upP (b * 8 + k)) T)) (fun _ i _ => 8 - (intOf i).toNat)
      case atStart => exact ⟨0, T, by omega, rfl, rfl, HW1, HT⟩
      case round =>
        obtain ⟨k, T1, hk, rfl, rfl, HW, HT1⟩ := hrel
        clear HW1 HT
        by_cases hl8 : k < 8
        · have p1 := HPL.out k
          have p2 := HPL.out (k + 1)
          have HN := Lib.hid (show upP (b * 8 + k) = upP (b * 8 + k) from rfl)
          have HF := Lib.hid (show (P b (k + 1) : Int) - P b k = pf (b * 8 + k) by rw [pf_at hl8]; rfl)
          have HC1 := Lib.hid (HC.out (k + 1))
          obtain ⟨x, hx⟩ : ∃ x, P b k = x := ⟨_, rfl⟩
          obtain ⟨y, hy⟩ : ∃ y, P b (k + 1) = y := ⟨_, rfl⟩
          have HY := Lib.hid hy
          rw [hx] at p1 ⊢
          rw [hy] at p2 HC1
          rw [hx, hy] at HF
          clear hx hy HN
          have k0 : (0 : Int) ≤ (k : Int) := by omega
          have k1 : (k : Int) < 8 := by omega
          have b0 : (0 : Int) ≤ (b : Int) := by omega
          have b1 : (b : Int) < 4 := by omega
          go_wp2_with fail
          refine (HC1.out _ HW.out.2.2).mono ?_
          rintro e w2 ⟨rfl, h2⟩
          have HW2 := Lib.hid (HW.out.next h2)
          clear h2 HW
          have c0 := HT1.out.cell HW2.out.2.1 (b * 8 + k) (by omega)
          have f0 := HW2.out.2.1.frozen (b * 8 + k)
          go_wp2_with fail
          go_roundw
          case rel => exact ⟨k + 1, _, by omega, by go_num, congrArg (Value.int .i64) (by rw [HY.out]), Lib.hid (HW2.out.set _ _), Lib.hid ((HT1.out.set _ (show b * 8 + k < 32 by omega)).ext fun p _ => by rw [HF.out]; exact upP_next (b * 8 + k) p)⟩
          case measure => simp [intOf]; omega
        · obtain rfl : k = 8 := by omega
          go_wp2_with fail
          go_roundw
          case rel => exact ⟨b + 1, T1, by omega, by go_num, HW, Lib.hid (by rw [show (b + 1) * 8 = b * 8 + 8 by omega]; exact HT1.out)⟩
          case measure => simp [intOf]; omega
    · obtain rfl : b = 4 := by omega
      have HT2 := Lib.hid (HT.out.ext (g := pf) fun p hp => by unfold upP; rw [if_pos (by omega)])
      go_wp2_with (first
        | refine wpList_load_row rfl 157 _ rfl (w.heap.size + 1) rfl _ _ (0, 0) _ HW.out.2.1 Tryz.underlying157 rfl (HI.out _ HT2.out.1) ?_
        | refine wpList_store_row rfl 157 _ _ rfl w.heap.size T rfl rfl _ _ HW.out.1 (HI.out _ HT2.out.1) (by rw [HZS.out, HT2.out.1]) HT2.out.2.1 ?_)
      exact bodyPost_ret (v := .agg T) (results_cell_row rfl _ _ w.heap.size 157 T (0, 0) _ rfl HW.out.1.setRow Tryz.underlying157 rfl (HI.out _ HT2.out.1)) rfl ⟨⟨T, rfl, HT2.out⟩, below_setRow' HW.out.2.2 (by omega) _⟩

end Go.Proofs.YtfohinlldchdpaaGreatDoor.Sp
end

section
/- The mathematics of giving, pulse by pulse; what all bands have in the end. -/
set_option maxRecDepth 100000
set_option linter.unusedVariables false
namespace Go.Proofs.YtfohinlldchdpaaGreatDoor.Sp

/-- Whether a band can have one more. -/
def can (L : Nat → Int) (K : Nat → Nat) (left : Int) (b : Nat) : Bool := decide (L b ≠ 0) && decide (K b < 8) && decide (pr b (K b) ≤ left)
/-- The one that has it; 4: none. -/
def bst (L : Nat → Int) (K : Nat → Nat) (left : Int) : Nat := bs (can L K left) (ltW L K) 4

theorem inn_hi (lt : Nat → Nat → Bool) : ∀ (j : Nat) (d : Nat → Nat) (q : Nat), j < q → inn lt j d q = d q
  | 0, _, _, _ => rfl
  | j + 1, d, q, h => by
    rw [inn]
    split
    · rw [inn_hi lt j _ q (by omega)]
      unfold sw
      rw [if_neg (by omega), if_neg (by omega)]
    · rfl
theorem inn_lt (lt : Nat → Nat → Bool) : ∀ (j : Nat) (d : Nat → Nat) (M : Nat), (∀ p, p ≤ j → d p < M) → ∀ p, p ≤ j → inn lt j d p < M
  | 0, _, _, h, p, hp => h p hp
  | j + 1, d, M, h, p, hp => by
    rw [inn]
    split
    · by_cases c : p ≤ j
      · refine inn_lt lt j _ M (fun q hq => ?_) p c
        unfold sw
        split
        · exact h _ (by omega)
        · split
          · exact h _ (by omega)
          · exact h _ (by omega)
      · rw [inn_hi lt j _ p (by omega)]
        unfold sw
        rw [if_pos (by omega)]
        exact h _ (by omega)
    · exact h p hp
theorem so_prop (lt : Nat → Nat → Bool) : ∀ i, (∀ q, i ≤ q → so lt i q = q) ∧ ∀ p, p < i → so lt i p < i
  | 0 => ⟨fun _ _ => rfl, fun p h => absurd h (Nat.not_lt_zero p)⟩
  | 1 => ⟨fun _ _ => rfl, fun p h => by rw [show p = 0 by omega]; exact Nat.one_pos⟩
  | i + 2 => by
    obtain ⟨h1, h2⟩ := so_prop lt (i + 1)
    refine ⟨fun q hq => ?_, fun p hp => ?_⟩
    · show inn lt (i + 1) (so lt (i + 1)) q = q
      rw [inn_hi lt _ _ q (by omega)]
      exact h1 q (by omega)
    · show inn lt (i + 1) (so lt (i + 1)) p < i + 2
      refine inn_lt lt _ _ _ (fun q hq => ?_) p (by omega)
      by_cases c : q < i + 1
      · have := h2 q c; omega
      · have := h1 q (by omega); omega
theorem inn_congr {lt lt' : Nat → Nat → Bool} (hl : ∀ x y, y < x → x < 4 → lt x y = lt' x y) : ∀ (j : Nat) (d : Nat → Nat), (∀ p, p < j → d p < d j) → d j < 4 → inn lt j d = inn lt' j d
  | 0, _, _, _ => rfl
  | j + 1, d, h, h4 => by
    rw [inn, inn, hl _ _ (h j (by omega)) h4]
    split
    · refine inn_congr hl j _ (fun p hp => ?_) ?_
      · unfold sw
        rw [if_neg (by omega), if_neg (by omega), if_neg (by omega), if_pos (by omega)]
        exact h p (by omega)
      · unfold sw
        rw [if_neg (by omega), if_pos (by omega)]
        exact h4
    · rfl
theorem so_congr {lt lt' : Nat → Nat → Bool} (hl : ∀ x y, y < x → x < 4 → lt x y = lt' x y) : ∀ i, i ≤ 4 → so lt i = so lt' i
  | 0, _ => rfl
  | 1, _ => rfl
  | i + 2, h => by
    show inn lt (i + 1) (so lt (i + 1)) = inn lt' (i + 1) (so lt' (i + 1))
    rw [← so_congr hl (i + 1) (by omega)]
    obtain ⟨h1, h2⟩ := so_prop lt (i + 1)
    have e := h1 (i + 1) (Nat.le_refl _)
    refine inn_congr hl _ _ (fun p hp => ?_) (by omega)
    have := h2 p hp; omega
theorem f4_congr {f : Nat → Nat} {c c' : Nat → Bool} (hf : ∀ p, p < 4 → f p < 4) (hc : ∀ x, x < 4 → c x = c' x) : f4 f c = f4 f c' := by
  unfold f4
  rw [hc _ (hf 0 (by omega)), hc _ (hf 1 (by omega)), hc _ (hf 2 (by omega)), hc _ (hf 3 (by omega))]
theorem bs_congr2 {c c' : Nat → Bool} {lt lt' : Nat → Nat → Bool} : ∀ {n : Nat}, n ≤ 4 → (∀ b, b < n → c b = c' b) → (∀ x y, y < x → x < 4 → lt x y = lt' x y) → bs c lt n = bs c' lt' n
  | 0, _, _, _ => rfl
  | n + 1, h, hc, hl => by
    have e := bs_congr2 (c := c) (c' := c') (n := n) (by omega) (fun b hb => hc b (by omega)) hl
    rw [bs, bs, stp, stp, ← e, hc n (by omega)]
    rcases bs_cases c lt n (by omega) with ⟨e4, _⟩ | ⟨h1, _⟩
    · rw [e4]; simp
    · rw [hl n (bs c lt n) h1 (by omega)]
theorem mono3_of (a b c : Int) : mono3 (decide (b < a)) (decide (c < b)) (decide (c < a)) = true := by
  by_cases h1 : b < a <;> by_cases h2 : c < b <;> by_cases h3 : c < a <;> simp [mono3, h1, h2, h3] <;> omega
theorem cB_of (c : Nat → Bool) : ∀ x, x < 4 → c x = cB (c 0) (c 1) (c 2) (c 3) x
  | 0, _ => rfl
  | 1, _ => rfl
  | 2, _ => rfl
  | 3, _ => rfl
  | x + 4, h => by omega
theorem ltB_of (lt : Nat → Nat → Bool) : ∀ x y, y < x → x < 4 → lt x y = ltB (lt 1 0) (lt 2 0) (lt 2 1) (lt 3 0) (lt 3 1) (lt 3 2) x y
  | 0, y, h, _ => by omega
  | 1, 0, _, _ => rfl
  | 1, y + 1, h, _ => by omega
  | 2, 0, _, _ => rfl
  | 2, 1, _, _ => rfl
  | 2, y + 2, h, _ => by omega
  | 3, 0, _, _ => rfl
  | 3, 1, _, _ => rfl
  | 3, 2, _, _ => rfl
  | 3, y + 3, h, _ => by omega
  | x + 4, y, _, h => by omega
/-- The first in the order that can is the best of those that can. -/
theorem fst_best (c : Nat → Bool) (L : Nat → Int) (K : Nat → Nat) : fst (so (ltW L K) 4) c 0 = bs c (ltW L K) 4 := by
  rw [fst_f4, so_congr (ltB_of (ltW L K)) 4 (Nat.le_refl _), f4_congr (so_prop _ 4).2 (cB_of c), bs_congr2 (Nat.le_refl 4) (cB_of c) (ltB_of (ltW L K))]
  refine ten _ _ _ _ _ _ ?_ _ _ _ _
  unfold ltW
  rw [mono3_of, mono3_of, mono3_of, mono3_of]
  rfl

/-- Giving. -/
def inc (K : Nat → Nat) (b : Nat) : Nat → Nat := fun i => if i = b then K i + 1 else K i
def giv (L : Nat → Int) : Nat → (Nat → Nat) → Int → Nat → Nat
  | 0, K, _ => K
  | n + 1, K, left => if bst L K left < 4 then giv L n (inc K (bst L K left)) (left - pr (bst L K left) (K (bst L K left))) else K
/-- How many pulses each band has. -/
def given (L : Nat → Int) (bits : Int) : Nat → Nat := giv L 32 (fun _ => 0) bits
theorem giv_stop {L : Nat → Int} {K : Nat → Nat} {left : Int} (h : bst L K left = 4) : ∀ n, giv L n K left = K
  | 0 => rfl
  | n + 1 => by rw [giv, h, if_neg (by omega)]
theorem giv_go {L : Nat → Int} {K : Nat → Nat} {left : Int} {b : Nat} (h : bst L K left = b) (hb : b < 4) (n : Nat) : giv L (n + 1) K left = giv L n (inc K b) (left - pr b (K b)) := by
  rw [giv, h, if_pos hb]
theorem can_iff {L : Nat → Int} {K : Nat → Nat} {left : Int} {b : Nat} : can L K left b = true ↔ L b ≠ 0 ∧ K b < 8 ∧ pr b (K b) ≤ left := by
  unfold can
  rw [Bool.and_eq_true, Bool.and_eq_true, decide_eq_true_eq, decide_eq_true_eq, decide_eq_true_eq, and_assoc]
theorem bst_le (L : Nat → Int) (K : Nat → Nat) (left : Int) : bst L K left ≤ 4 := by
  rcases bs_cases (can L K left) (ltW L K) 4 (Nat.le_refl _) with ⟨e, _⟩ | ⟨h, _⟩
  · exact Nat.le_of_eq e
  · exact Nat.le_of_lt h
theorem bst_can {L : Nat → Int} {K : Nat → Nat} {left : Int} {b : Nat} (h : bst L K left = b) (hb : b < 4) : L b ≠ 0 ∧ K b < 8 ∧ pr b (K b) ≤ left := by
  rcases bs_cases (can L K left) (ltW L K) 4 (Nat.le_refl _) with ⟨e, _⟩ | ⟨_, h2⟩
  · have : bst L K left = 4 := e
    omega
  · have h2' : can L K left (bst L K left) = true := h2
    rw [h] at h2'
    exact can_iff.1 h2'
theorem bst_none {L : Nat → Int} {K : Nat → Nat} {left : Int} (h : bst L K left = 4) {b : Nat} (hb : b < 4) : ¬ (L b ≠ 0 ∧ K b < 8 ∧ pr b (K b) ≤ left) := by
  rcases bs_cases (can L K left) (ltW L K) 4 (Nat.le_refl _) with ⟨_, h2⟩ | ⟨h1, _⟩
  · intro hc
    have := h2 b hb
    rw [can_iff.2 hc] at this
    cases this
  · have : bst L K left < 4 := h1
    omega
theorem pr_bd {b k : Nat} (hb : b < 4) (hk : k < 8) : 0 ≤ pr b k ∧ pr b k ≤ 33 := by
  have h1 := P_mono hb hk
  have h2 := P_le b (k + 1)
  unfold pr
  omega

/-- While pulses are given: n more could be. -/
structure Giv (L : Nat → Int) (bits : Int) (n : Nat) (K : Nat → Nat) (left : Int) : Prop where
  few : ∀ b, K b ≤ 8
  sum : K 0 + K 1 + K 2 + K 3 + n = 32
  lo : 0 ≤ left
  hi : left ≤ bits
  bill : (P 0 (K 0) : Int) + P 1 (K 1) + P 2 (K 2) + P 3 (K 3) + left = bits
  none : ∀ b, L b = 0 → K b = 0
  to : giv L n K left = given L bits
theorem Giv.start (L : Nat → Int) {bits : Int} (h : 0 ≤ bits) : Giv L bits 32 (fun _ => 0) bits :=
  ⟨fun _ => by omega, rfl, h, Int.le_refl _, by rw [P_zero (by omega), P_zero (by omega), P_zero (by omega), P_zero (by omega)]; omega, fun _ _ => rfl, rfl⟩
theorem inc_at (K : Nat → Nat) (b : Nat) : inc K b b = K b + 1 := by unfold inc; rw [if_pos rfl]
theorem inc_ne (K : Nat → Nat) {b i : Nat} (h : i ≠ b) : inc K b i = K i := by unfold inc; rw [if_neg h]
theorem Giv.pos {L : Nat → Int} {bits left : Int} {n : Nat} {K : Nat → Nat} (g : Giv L bits n K left) {b : Nat} (hb : b < 4) (hk : K b < 8) : 0 < n := by
  have h0 := g.few 0
  have h1 := g.few 1
  have h2 := g.few 2
  have h3 := g.few 3
  have hs := g.sum
  have : b = 0 ∨ b = 1 ∨ b = 2 ∨ b = 3 := by omega
  rcases this with rfl | rfl | rfl | rfl <;> omega
theorem Giv.step {L : Nat → Int} {bits left : Int} {n b : Nat} {K : Nat → Nat} (g : Giv L bits (n + 1) K left) (h : bst L K left = b) (hb : b < 4) : Giv L bits n (inc K b) (left - pr b (K b)) := by
  obtain ⟨c1, c2, c3⟩ := bst_can h hb
  obtain ⟨p1, p2⟩ := pr_bd hb c2
  have hbill := g.bill
  have hsum := g.sum
  have hlo := g.lo
  have hhi := g.hi
  refine ⟨fun i => ?_, ?_, by omega, by omega, ?_, fun i hi => ?_, ?_⟩
  · by_cases c : i = b
    · rw [c, inc_at]; omega
    · rw [inc_ne K c]; exact g.few i
  · have : b = 0 ∨ b = 1 ∨ b = 2 ∨ b = 3 := by omega
    unfold inc
    rcases this with rfl | rfl | rfl | rfl <;> simp <;> omega
  · have : b = 0 ∨ b = 1 ∨ b = 2 ∨ b = 3 := by omega
    unfold inc
    unfold pr at *
    rcases this with rfl | rfl | rfl | rfl <;> simp <;> omega
  · by_cases c : i = b
    · rw [c] at hi; exact absurd hi c1
    · rw [inc_ne K c]; exact g.none i hi
  · rw [← giv_go h hb]; exact g.to
theorem Giv.stop {L : Nat → Int} {bits left : Int} {n : Nat} {K : Nat → Nat} (g : Giv L bits n K left) (h : bst L K left = 4) : given L bits = K := by
  rw [← g.to, giv_stop h]

/-- What holds of what all have in the end. -/
structure Fin4 (L : Nat → Int) (bits : Int) (K : Nat → Nat) (left : Int) : Prop where
  few : ∀ b, K b ≤ 8
  lo : 0 ≤ left
  bill : (P 0 (K 0) : Int) + P 1 (K 1) + P 2 (K 2) + P 3 (K 3) + left = bits
  none : ∀ b, L b = 0 → K b = 0
  no : ∀ b, b < 4 → ¬ (L b ≠ 0 ∧ K b < 8 ∧ pr b (K b) ≤ left)
theorem giv_fin {L : Nat → Int} {bits : Int} : ∀ {n : Nat} {K : Nat → Nat} {left : Int}, Giv L bits n K left → ∃ left', Fin4 L bits (given L bits) left'
  | n, K, left, g => by
    by_cases h : bst L K left = 4
    · exact ⟨left, by rw [g.stop h]; exact ⟨g.few, g.lo, g.bill, g.none, fun b hb => bst_none h hb⟩⟩
    · have hb : bst L K left < 4 := by have := bst_le L K left; omega
      have hn := g.pos hb (bst_can rfl hb).2.1
      cases n with
      | zero => omega
      | succ n => exact giv_fin (g.step rfl hb)
termination_by n => n
theorem given_fin (L : Nat → Int) {bits : Int} (h : 0 ≤ bits) : ∃ left, Fin4 L bits (given L bits) left := giv_fin (Giv.start L h)

/-- A band alone. -/
theorem alone {L : Nat → Int} {bits left : Int} {K : Nat → Nat} {b : Nat} (f : Fin4 L bits K left) (hb : b < 4) (hL : L b ≠ 0) (h0 : ∀ i, i < 4 → i ≠ b → L i = 0) :
    (∀ i, i < 4 → i ≠ b → K i = 0) ∧ K b ≤ 8 ∧ (P b (K b) : Int) ≤ bits ∧ ∀ j, K b < j → j ≤ 8 → bits < P b j := by
  have hz : ∀ i, i < 4 → i ≠ b → K i = 0 := fun i hi hn => f.none i (h0 i hi hn)
  have hbill : (P b (K b) : Int) + left = bits := by
    have := f.bill
    have z := fun i (hi : i < 4) (hn : i ≠ b) => show P i (K i) = 0 by rw [hz i hi hn]; exact P_zero hi
    have hc : b = 0 ∨ b = 1 ∨ b = 2 ∨ b = 3 := by omega
    rcases hc with rfl | rfl | rfl | rfl
    · rw [z 1 (by omega) (by omega), z 2 (by omega) (by omega), z 3 (by omega) (by omega)] at this; omega
    · rw [z 0 (by omega) (by omega), z 2 (by omega) (by omega), z 3 (by omega) (by omega)] at this; omega
    · rw [z 0 (by omega) (by omega), z 1 (by omega) (by omega), z 3 (by omega) (by omega)] at this; omega
    · rw [z 0 (by omega) (by omega), z 1 (by omega) (by omega), z 2 (by omega) (by omega)] at this; omega
  have hlo := f.lo
  refine ⟨hz, f.few b, by omega, fun j hj h8 => ?_⟩
  have hno := f.no b hb
  have h1 := P_up (j := K b + 1) hb (show K b + 1 ≤ j by omega) h8
  by_cases c : pr b (K b) ≤ left
  · exact absurd ⟨hL, by omega, c⟩ hno
  · unfold pr at c
    omega
end Go.Proofs.YtfohinlldchdpaaGreatDoor.Sp
end

section
/- Contract of spare's Pulses. -/
set_option maxRecDepth 100000
set_option linter.unusedVariables false
namespace Go.Proofs.YtfohinlldchdpaaGreatDoor.Sp
open Go.RowKit Go.Proofs.YtfohinlldchdpaaGreatDoor.Row

/-- What stands when Pulses begins, and while it goes on. -/
def PuS (w w' : World) (TL Z TK : Array Value) : Prop := At w' w.heap.size TL 23 ∧ At w' (w.heap.size + 1) Z 23 ∧ At w' (w.heap.size + 2) TK 23 ∧ Below w.heap.size w w'
theorem PuS.start (w : World) (TL Z : Array Value) : PuS w (((w.alloc (.cells TL 23)).alloc (.cells Z 23)).alloc (.cells Z 23)) TL Z Z := by
  refine ⟨((At.new w TL _).alloc _).alloc _, ?_, ?_, (((Below.refl _ _).alloc (Nat.le_refl _) _).alloc (by simp) _).alloc (by simp; omega) _⟩
  · have := (At.new (w.alloc (.cells TL 23)) Z 23).alloc (.cells Z 23)
    simpa using this
  · have := At.new ((w.alloc (.cells TL 23)).alloc (.cells Z 23)) Z 23
    simpa using this
theorem PuS.next {w w1 w2 : World} {TL Z TK : Array Value} (h : PuS w w1 TL Z TK) (hb : Below w1.heap.size w1 w2) : PuS w w2 TL Z TK :=
  ⟨h.1.below hb h.1.lt, h.2.1.below hb h.2.1.lt, h.2.2.1.below hb h.2.2.1.lt, below_trans h.2.2.2 hb h.2.2.2.size⟩
theorem PuS.drewN {w w1 : World} {TL Z TK : Array Value} (h : PuS w w1 TL Z TK) (n : Nat) : PuS w (w1.drewN n) TL Z TK := ⟨h.1, h.2.1, h.2.2.1, below_drewN h.2.2.2 n⟩
theorem PuS.row {w w1 : World} {TL Z TK : Array Value} (h : PuS w w1 TL Z TK) {b : Nat} (hb : w.heap.size + 2 < b) (C : Array Value) : PuS w (w1.setRow b C) TL Z TK :=
  ⟨h.1.setRow_other (by omega), h.2.1.setRow_other (by omega), h.2.2.1.setRow_other (by omega), below_setRow' h.2.2.2 (by omega) C⟩
theorem PuS.set {w w1 : World} {TL Z TK : Array Value} (h : PuS w w1 TL Z TK) (i : Nat) (v : Value) : PuS w (w1.setCell ⟨w.heap.size + 2, i, none⟩ v) TL Z (TK.setIfInBounds i v) :=
  ⟨h.1.setCell_other (by dsimp only; omega), h.2.1.setCell_other (by dsimp only; omega), h.2.2.1.setCell, h.2.2.2.setCell (by dsimp only; omega) _⟩

set_option maxHeartbeats 800000 in
theorem pulses_yes (TL : Array Value) (L : Nat → Int) (bits : Int) (w : World) (hR : IsRow 4 L TL) (hL : okL L) (h0 : 0 ≤ bits) (h1 : bits ≤ 1048576) (hT : Lv.Tab w) :
    Calls Tryz.prog 75 #[.agg TL, .int .i64 bits] w (RetR 4 w fun i => (given L bits i : Int)) := by
  obtain ⟨Z, hZ, hZ0, hz, hi⟩ := zero4
  obtain ⟨Y, hY, hY0, hy, hi32⟩ := zero32
  have HI := Lib.hid hi
  have HI32 := Lib.hid hi32
  have HTB := Lib.hid hT
  have HR := Lib.hid hR
  have HL := Lib.hid hL
  have HZ := Lib.hid hZ
  have HIL := Lib.hid (hi TL hR.1)
  have HS := Lib.hid (PuS.start w TL Z)
  have HAL := Lib.hid (fun w' => areLevels_yes TL L w' hR hL)
  have HPR := Lib.hid (fun w' (h : Below w.heap.size w w') => prices_as w' (hT.next h))
  have HYS := Lib.hid hY.1
  have HZS := Lib.hid hZ.1
  clear hZ hZ0 hi hi32 hT hR hL hY hY0
  go_enter Tryz.func75, Tryz.ntmps75
  go_wp2_with (refine wpList_load_row rfl 23 _ rfl w.heap.size rfl _ _ (0, 0) _ HS.out.1 Tryz.underlying23 rfl HIL.out ?_)
  go_step3
  go_wp2_with (refine wpList_load_row rfl 23 _ rfl w.heap.size rfl _ _ (0, 0) _ HS.out.1 Tryz.underlying23 rfl HIL.out ?_)
  refine (HAL.out _).mono ?_
  rintro e w1 ⟨rfl, hb1⟩
  have HS1 := Lib.hid (HS.out.next hb1)
  clear hb1 HS HAL
  go_wp2_with fail
  refine (HPR.out _ HS1.out.2.2.2).mono ?_
  rintro e w2 ⟨⟨TP, rfl, hTP⟩, hb2⟩
  have HTP := Lib.hid hTP
  have HIP := Lib.hid (HI32.out TP hTP.1)
  have HS2 := Lib.hid (HS1.out.next hb2)
  clear hb2 hTP HS1 HPR
  have HP6 := Lib.hid ((At.new w2 Y 157).setRow (C := TP))
  have HS6 := Lib.hid (PuS.row (HS2.out.next ((Below.refl _ _).alloc (Nat.le_refl _) (.cells Y 157))) (b := w2.heap.size) (by have := HS2.out.2.2.1.lt; omega) TP)
  go_wp2_with (refine wpList_store_row rfl 157 _ _ rfl w2.heap.size TP rfl rfl _ _ (At.new w2 Y 157) HIP.out (by rw [HYS.out, HTP.out.1]) HTP.out.2.1 ?_)
  go_step3
  go_wp2_with fail
  have hg6 : w.heap.size + 2 < w2.heap.size := HS2.out.2.2.1.lt
  obtain ⟨g6, hg⟩ : ∃ g6, w2.heap.size = g6 := ⟨_, rfl⟩
  rw [hg] at HP6 HS6 hg6 ⊢
  obtain ⟨w3, hw3⟩ : ∃ w3, (w2.alloc (.cells Y 157)).setRow g6 TP = w3 := ⟨_, rfl⟩
  rw [hw3] at HP6 HS6 ⊢
  have HG0 := Lib.hid (Giv.start L h0)
  have HZ0 := Lib.hid (HZ.out.ext (g := fun i => (((fun _ => 0 : Nat → Nat) i : Nat) : Int)) fun _ _ => rfl)
  have HBW := Lib.hid (fun TK K w' hTK hK => byWish_as TL TK L K w' HR.out hTK HL.out hK)
  clear hg hw3 HS2 HYS HI32 HIP HZ
  go_loopg [7] 32 (fun n v w' => ∃ (K : Nat → Nat) (left : Int) (TK : Array Value), v = .int .i64 left ∧ Hid (PuS w w' TL Z TK) ∧ Hid (At w' g6 TP 157) ∧ Hid (IsRow 4 (fun i => (K i : Int)) TK) ∧ Hid (Giv L bits n K left))
  case atStart => exact ⟨fun _ => 0, bits, Z, rfl, HS6, HP6, HZ0, HG0⟩
  case round =>
    obtain ⟨K, left, TK, rfl, HS, HP, HK, HG⟩ := hrel
    obtain ⟨n, hn⟩ : ∃ n, n = gk := ⟨_, rfl⟩
    subst hn
    clear HS6 HP6 HZ0 HG0
    have HC := Lib.hid (HBW.out TK K wr HK.out fun i _ => HG.out.few i)
    have HIK := Lib.hid (HI.out TK HK.out.1)
    have l0 := HG.out.lo
    have l1 := HG.out.hi
    have HF := Lib.hid (fst_best (can L K left) L K)
    go_wp2_with (first
      | refine wpList_load_row rfl 23 _ rfl w.heap.size rfl _ _ (0, 0) _ HS.out.1 Tryz.underlying23 rfl HIL.out ?_
      | refine wpList_load_row rfl 23 _ rfl (w.heap.size + 2) rfl _ _ (0, 0) _ HS.out.2.2.1 Tryz.underlying23 rfl HIK.out ?_)
    refine HC.out.mono ?_
    rintro e w4 ⟨⟨TO, rfl, hTO⟩, hb4⟩
    have HTO := Lib.hid hTO
    have HS4 := Lib.hid (HS.out.next hb4)
    have HP4 := Lib.hid (HP.out.below hb4 HP.out.lt)
    clear hTO hb4 HC HS HP HBW
    go_wp2_with fail
    go_loopg [7, 27] 4 (fun m v p w' => ∃ q : Nat, v = .int .i64 left ∧ q + m = 4 ∧ p = .int .i64 q ∧ Hid (PuS w w' TL Z TK) ∧ Hid (At w' g6 TP 157) ∧ Hid (fst (so (ltW L K) 4) (can L K left) q = bst L K left))
    case atStart => exact ⟨0, rfl, rfl, rfl, HS4, HP4, HF⟩
    case round =>
      obtain ⟨q, rfl, hq, rfl, HS, HP, HQ⟩ := hrel
      clear HS4 HP4 HF
      by_cases hlt : q < 4
      · have hc : TO[q]? = some (.int .i64 ((so (ltW L K) 4 q : Nat) : Int)) := HTO.out.2.2 q hlt
        have d4 := (so_prop (ltW L K) 4).2 q hlt
        have HY := Lib.hid (fst_yes (f := so (ltW L K) 4) (c := can L K left) hlt)
        have HN := Lib.hid (fst_no (f := so (ltW L K) 4) (c := can L K left) hlt)
        obtain ⟨d, hd⟩ : ∃ d, so (ltW L K) 4 q = d := ⟨_, rfl⟩
        rw [hd] at hc d4 HY HN
        clear hd
        have hr := run_index Tryz.underlying23 hlt hc
        have c1 := HR.out.cell HS.out.1 d d4
        have c2 : wr.cell? ⟨w.heap.size + 2, d, none⟩ = some (.int .i64 ((K d : Nat) : Int)) := HK.out.cell HS.out.2.2.1 d d4
        have k8 := HG.out.few d
        have d0 : (0 : Int) ≤ (d : Int) := by omega
        have d1 : (d : Int) < 4 := by omega
        have HCN := Lib.hid (can_iff (L := L) (K := K) (left := left) (b := d))
        have HPR := Lib.hid (fun (h : K d < 8) => HTP.out.cell HP.out (d * 8 + K d) (by omega))
        have HPF := Lib.hid (fun (h : K d < 8) => pf_at (b := d) h)
        have HBD := Lib.hid (fun (h : K d < 8) => pr_bd d4 h)
        obtain ⟨l, hl⟩ : ∃ l, L d = l := ⟨_, rfl⟩
        obtain ⟨k, hk⟩ : ∃ k, K d = k := ⟨_, rfl⟩
        have HKD := Lib.hid hk
        rw [hl] at c1 HCN
        rw [hk] at c2 k8 HPR HPF HBD HCN
        clear hl hk hc
        by_cases a1 : l = 0
        · subst a1
          have HZ := Lib.hid (HN.out (by rw [Bool.eq_false_iff]; intro h; exact (HCN.out.1 h).1 rfl))
          clear HY HN HCN HPR HPF HBD
          go_wp2_with fail
          go_quiet (fail)
          go_wp2_with fail
          go_roundg (4 - (q + 1))
          case measure => omega
          case rel => exact ⟨q + 1, rfl, by omega, by go_num, Lib.hid (HS.out.drewN _), HP, Lib.hid (by rw [← HZ.out]; exact HQ.out)⟩
        by_cases a2 : k = 8
        · have a2i : (k : Int) = 8 := by omega
          have a2n : decide ((k : Int) < 8) = false := decide_eq_false (by omega)
          have a1b : (l != 0) = true := by simp [a1]
          have HZ := Lib.hid (HN.out (by rw [Bool.eq_false_iff]; intro h; have := (HCN.out.1 h).2.1; omega))
          clear HY HN HCN HPR HPF HBD a2 a2i
          go_wp2_with fail
          go_quiet (fail)
          go_wp2_with fail
          go_roundg (4 - (q + 1))
          case measure => omega
          case rel => exact ⟨q + 1, rfl, by omega, by go_num, Lib.hid (HS.out.drewN _), HP, Lib.hid (by rw [← HZ.out]; exact HQ.out)⟩
        have k7 : k < 8 := by omega
        have k70 : (0 : Int) ≤ (k : Int) := by omega
        have k71 : (k : Int) < 8 := by omega
        have c3 := HPR.out k7
        rw [HPF.out k7] at c3
        obtain ⟨x0, x1⟩ := HBD.out k7
        obtain ⟨x, hx⟩ : ∃ x, pr d k = x := ⟨_, rfl⟩
        have HX := Lib.hid hx
        rw [hx] at HCN c3 x0 x1
        clear HPR HPF HBD hx
        by_cases a3 : x ≤ left
        · have HB := Lib.hid ((HY.out (HCN.out.2 ⟨a1, k7, a3⟩)).symm.trans HQ.out)
          clear HY HN HCN HQ
          obtain ⟨m, rfl⟩ : ∃ m, n = m + 1 := ⟨n - 1, by have := HG.out.pos d4 (by rw [HKD.out]; exact k7); omega⟩
          have HG2 := Lib.hid (HG.out.step HB.out.symm d4)
          rw [HKD.out, HX.out] at HG2
          go_wp2_with fail
          go_quiet (fail)
          have e2 : (wr.drewN nq).cell? ⟨w.heap.size + 2, d, none⟩ = some (.int .i64 (k : Int)) := c2
          have e3 : (wr.drewN nq).cell? ⟨g6, d * 8 + k, none⟩ = some (.int .i64 x) := c3
          have HS5 := Lib.hid (HS.out.drewN nq)
          have HP5 := Lib.hid (HP.out.drewN nq)
          clear c1 c2 c3 HS HP
          generalize wr.drewN nq = w5 at HS5 HP5 e2 e3 ⊢
          go_wp2_with fail
          go_quiet (fail)
          have u2 : (w5.drewN nq).cell? ⟨w.heap.size + 2, d, none⟩ = some (.int .i64 (k : Int)) := e2
          have HS6 := Lib.hid (HS5.out.drewN nq)
          have HP6 := Lib.hid (HP5.out.drewN nq)
          clear e2 e3 HS5 HP5
          generalize w5.drewN nq = w6 at HS6 HP6 u2 ⊢
          have v2 := HS6.out.2.2.1.frozen d
          go_wp2_with fail
          go_roundg m
          case measure => omega
          case rel =>
            exact ⟨inc K d, left - x, _, rfl, Lib.hid (HS6.out.set _ _), Lib.hid (HP6.out.setCell_other (by dsimp only; omega)), Lib.hid ((HK.out.set (k := d) _ d4).ext fun i _ => by
              unfold inc
              by_cases c : i = d
              · rw [if_pos c, if_pos c, c, HKD.out]; omega
              · rw [if_neg c, if_neg c]), HG2⟩
        · have HZ := Lib.hid (HN.out (by rw [Bool.eq_false_iff]; intro h; exact a3 (HCN.out.1 h).2.2))
          clear HY HN HCN
          go_wp2_with fail
          go_quiet (fail)
          go_wp2_with fail
          go_roundg (4 - (q + 1))
          case measure => omega
          case rel => exact ⟨q + 1, rfl, by omega, by go_num, Lib.hid (HS.out.drewN _), HP, Lib.hid (by rw [← HZ.out]; exact HQ.out)⟩
      · obtain rfl : q = 4 := by omega
        have HZ := Lib.hid (show bst L K left = 4 by rw [← HQ.out]; exact fst_end _ _)
        have HE := Lib.hid (HG.out.stop HZ.out)
        go_wp2_with (first
          | refine wpList_load_row rfl 23 _ rfl (w.heap.size + 2) rfl _ _ (0, 0) _ HS.out.2.2.1 Tryz.underlying23 rfl HIK.out ?_
          | refine wpList_store_row rfl 23 _ _ rfl (w.heap.size + 1) TK rfl rfl _ _ HS.out.2.1 HIK.out (by rw [HZS.out, HK.out.1]) HK.out.2.1 ?_)
        rw [Exit.noGoto_ret]
        exact bodyPost_ret (v := .agg TK) (results_cell_row rfl _ _ (w.heap.size + 1) 23 TK (0, 0) _ rfl HS.out.2.1.setRow Tryz.underlying23 rfl HIK.out) rfl ⟨⟨TK, rfl, HK.out.ext fun i _ => by rw [HE.out]⟩, below_setRow' HS.out.2.2.2 (by omega) _⟩
end Go.Proofs.YtfohinlldchdpaaGreatDoor.Sp
end
