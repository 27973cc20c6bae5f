/- Contracts: the order of the bands: the closure that compares two, the library's stable sort of four, byWish. -/
import Derived.Test.YtfcaigggacgfkaaDoorSpA
set_option maxRecDepth 100000
set_option linter.unusedVariables false
namespace Go.Proofs.YtfcaigggacgfkaaDoor.Sp
open Go.RowKit Go.Proofs.YtfcaigggacgfkaaDoor.Row

/-- A band's wish, and whether x goes ahead of y. -/
def wI (L : Nat → Int) (K : Nat → Nat) (b : Nat) : Int := 2 * L b - 3 * K b
def ltW (L : Nat → Int) (K : Nat → Nat) (x y : Nat) : Bool := decide (wI L K y < wI L K x)

/-- What the closure reads: levels and pulses. -/
structure Two (w : World) (g h : Nat) (L : Nat → Int) (K : Nat → Nat) : Prop where
  lev : ∀ i, i < 4 → w.cell? ⟨g, i, none⟩ = some (.int .i64 (L i))
  pul : ∀ i, i < 4 → w.cell? ⟨h, i, none⟩ = some (.int .i64 (K i))
theorem Two.drewN {w : World} {g h : Nat} {L : Nat → Int} {K : Nat → Nat} (s : Two w g h L K) (n : Nat) : Two (w.drewN n) g h L K := ⟨s.lev, s.pul⟩
theorem Two.drew {w : World} {g h : Nat} {L : Nat → Int} {K : Nat → Nat} (s : Two w g h L K) : Two w.drew g h L K := ⟨s.lev, s.pul⟩
theorem Two.setCell {w : World} {g h : Nat} {L : Nat → Int} {K : Nat → Nat} (s : Two w g h L K) {b i : Nat} (h1 : g ≠ b) (h2 : h ≠ b) (v : Value) : Two (w.setCell ⟨b, i, none⟩ v) g h L K :=
  ⟨fun j hj => (cell_set_other w _ _ v h1).trans (s.lev j hj), fun j hj => (cell_set_other w _ _ v h2).trans (s.pul j hj)⟩

theorem cmp_as (g h a b : Nat) (L : Nat → Int) (K : Nat → Nat) (w : World) (hS : Two w g h L K) (ha : a < 4) (hb : b < 4) (hL : okL L) (hK : ∀ i, i < 4 → K i ≤ 8) :
    Calls Tryd.prog 31 #[.int .i64 a, .int .i64 b, .pointer (some ⟨g, 0, none⟩), .pointer (some ⟨h, 0, none⟩)] w fun e w' => e = .returned (.int .i64 (wI L K b - wI L K a)) ∧ ∃ m, w' = w.drewN m := by
  have c1 := hS.lev a ha
  have c2 := hS.lev b hb
  have c3 := hS.pul a ha
  have c4 := hS.pul b hb
  have la := hL a ha
  have lb := hL b hb
  have ka := hK a ha
  have kb := hK b hb
  unfold wI
  obtain ⟨x, hx⟩ : ∃ x, L a = x := ⟨_, rfl⟩
  obtain ⟨y, hy⟩ : ∃ y, L b = y := ⟨_, rfl⟩
  obtain ⟨p, hp⟩ : ∃ p, K a = p := ⟨_, rfl⟩
  obtain ⟨q, hq⟩ : ∃ q, K b = q := ⟨_, rfl⟩
  rw [hx] at c1 la ⊢
  rw [hy] at c2 lb ⊢
  rw [hp] at c3 ka ⊢
  rw [hq] at c4 kb ⊢
  obtain ⟨u, hu⟩ : ∃ u, 2 * x - 3 * (p : Int) = u := ⟨_, rfl⟩
  obtain ⟨v, hv⟩ : ∃ v, 2 * y - 3 * (q : Int) = v := ⟨_, rfl⟩
  have u1 : -24 ≤ u ∧ u ≤ 40 := by omega
  have v1 : -24 ≤ v ∧ v ≤ 40 := by omega
  have HU := Lib.hid (fun w => wish_as x p u w (by omega) (by omega) (by omega) (by omega) hu)
  have HV := Lib.hid (fun w => wish_as y q v w (by omega) (by omega) (by omega) (by omega) hv)
  have a0 : (0 : Int) ≤ (a : Int) := by omega
  have b0 : (0 : Int) ≤ (b : Int) := by omega
  have a1 : (a : Int) < 4 := by omega
  have b1 : (b : Int) < 4 := by omega
  rw [hu, hv]
  clear hS hL hK hx hy hp hq hu hv
  go_enter Tryd.func31, Tryd.ntmps31
  go_wp2_with fail
  go_quiet ((go_at_call 32; first | with_reducible exact quiet_int (HU.out _) | with_reducible exact quiet_int (HV.out _)))
  go_wp2_with fail
  go_ret
  exact ⟨rfl, _, rfl⟩

theorem quiet_dn {f : FuncId} {xs : Array Value} {w0 : World} {n : Nat} {c : Int}
    (h : Calls Tryd.prog f xs (w0.drewN n) fun e w' => e = .returned (.int .i64 c) ∧ ∃ m, w' = (w0.drewN n).drewN m) :
    Calls Tryd.prog f xs (w0.drewN n) fun e w' => e = .returned (.int .i64 c) ∧ ∃ m, w' = w0.drewN m :=
  h.mono fun _ _ ⟨he, m, hw⟩ => ⟨he, n + m, by rw [hw, World.drewN_drewN]⟩

theorem sw_lt {d : Nat → Nat} (h : ∀ p, p < 4 → d p < 4) {j : Nat} (hj : j < 4) : ∀ p, p < 4 → sw d j p < 4 := fun p hp => by
  unfold sw
  split
  · exact h _ (by omega)
  · split
    · exact h _ hj
    · exact h _ hp

/-- What stands while the order is sorted. -/
structure Srt (W w : World) (bo g h : Nat) (L : Nat → Int) (K : Nat → Nat) (d : Nat → Nat) : Prop where
  two : Two w g h L K
  ord : ∃ T, IsRow 4 (fun p => (d p : Int)) T ∧ At w bo T 22
  fr : Fr (Just bo) W w
  lt : ∀ p, p < 4 → d p < 4
theorem Srt.drewN {W w : World} {bo g h : Nat} {L : Nat → Int} {K : Nat → Nat} {d : Nat → Nat} (s : Srt W w bo g h L K d) (n : Nat) : Srt W (w.drewN n) bo g h L K d :=
  ⟨s.two.drewN n, s.ord, s.fr.drewN n, s.lt⟩
theorem Srt.drew {W w : World} {bo g h : Nat} {L : Nat → Int} {K : Nat → Nat} {d : Nat → Nat} (s : Srt W w bo g h L K d) : Srt W w.drew bo g h L K d :=
  ⟨s.two.drew, s.ord, s.fr.drew, s.lt⟩
theorem Srt.cell {W w : World} {bo g h : Nat} {L : Nat → Int} {K : Nat → Nat} {d : Nat → Nat} (s : Srt W w bo g h L K d) {p : Nat} (hp : p < 4) : w.cell? ⟨bo, p, none⟩ = some (.int .i64 (d p)) := by
  obtain ⟨T, hT, hA⟩ := s.ord
  exact hT.cell hA p hp
theorem Srt.frozen {W w : World} {bo g h : Nat} {L : Nat → Int} {K : Nat → Nat} {d : Nat → Nat} (s : Srt W w bo g h L K d) (p : Nat) : w.frozen? ⟨bo, p, none⟩ = false := by
  obtain ⟨T, hT, hA⟩ := s.ord
  exact hA.frozen p
theorem fr_set {bo i : Nat} {W w : World} {v : Value} (h : Fr (Just bo) W w) : Fr (Just bo) W (w.setCell ⟨bo, i, none⟩ v) := h.setCell (p := ⟨bo, i, none⟩) (.inl (Just.self bo)) v
theorem Srt.swap {W w w' : World} {bo g h : Nat} {L : Nat → Int} {K : Nat → Nat} {d : Nat → Nat} (s : Srt W w bo g h L K d) {j : Nat} (hj : j + 1 < 4) (hg : g ≠ bo) (hh : h ≠ bo) {x y : Nat} (hx : d j = x) (hy : d (j + 1) = y)
    (e : w' = (w.setCell ⟨bo, j + 1, none⟩ (.int .i64 x)).setCell ⟨bo, j, none⟩ (.int .i64 y) ∨ w' = (w.setCell ⟨bo, j, none⟩ (.int .i64 y)).setCell ⟨bo, j + 1, none⟩ (.int .i64 x)) : Srt W w' bo g h L K (sw d (j + 1)) := by
  obtain ⟨T, hT, hA⟩ := s.ord
  have hl := sw_lt s.lt hj
  rcases e with rfl | rfl
  · refine ⟨(s.two.setCell hg hh _).setCell hg hh _, ⟨_, ((hT.set (x : Int) hj).set (y : Int) (show j < 4 by omega)).ext fun p hp => ?_, hA.setCell.setCell⟩, fr_set (fr_set s.fr), hl⟩
    unfold sw
    rw [show j + 1 - 1 = j by omega]
    by_cases c : p = j
    · rw [if_pos c, if_neg (by omega), if_pos c, hy]
    · rw [if_neg c]
      by_cases c2 : p = j + 1
      · rw [if_pos c2, if_pos c2, hx]
      · rw [if_neg c2, if_neg c2, if_neg c]
  · refine ⟨(s.two.setCell hg hh _).setCell hg hh _, ⟨_, ((hT.set (y : Int) (show j < 4 by omega)).set (x : Int) hj).ext fun p hp => ?_, hA.setCell.setCell⟩, fr_set (fr_set s.fr), hl⟩
    unfold sw
    rw [show j + 1 - 1 = j by omega]
    by_cases c2 : p = j + 1
    · rw [if_pos c2, if_pos c2, hx]
    · rw [if_neg c2, if_neg c2]
      by_cases c : p = j
      · rw [if_pos c, if_pos c, hy]
      · rw [if_neg c, if_neg c]

theorem ins_as (W : World) (bo g h : Nat) (L : Nat → Int) (K : Nat → Nat) (w : World) (hS : Srt W w bo g h L K id) (hg : g ≠ bo) (hh : h ≠ bo) (hL : okL L) (hK : ∀ i, i < 4 → K i ≤ 8) :
    Calls Tryd.prog 39 #[.slice (some ⟨bo, 0, none⟩) 4 4, .int .i64 0, .int .i64 4, .func (.func 31) #[] #[.pointer (some ⟨g, 0, none⟩), .pointer (some ⟨h, 0, none⟩)]] w fun e w' =>
      e = .returned (.tuple #[]) ∧ Srt W w' bo g h L K (so (ltW L K) 4) := by
  have HS := Lib.hid hS
  have HCM := Lib.hid (fun a b w s ha hb => cmp_as g h a b L K w s ha hb hL hK)
  clear hS hL hK
  go_enter Tryd.func39, Tryd.ntmps39
  go_wp2_with fail
  go_loopw [8] (fun i w' => ∃ k : Nat, 1 ≤ k ∧ k ≤ 4 ∧ i = .int .i64 k ∧ Hid (Srt W w' bo g h L K (so (ltW L K) k))) (fun i _ => 4 - (intOf i).toNat)
  case atStart => exact ⟨1, by omega, by omega, rfl, HS⟩
  case round =>
    obtain ⟨k, hk1, hk, rfl, HW⟩ := hrel
    by_cases hlt : k < 4
    · go_wp2_with fail
      have HE := Lib.hid (show inn (ltW L K) k (so (ltW L K) k) = so (ltW L K) (k + 1) by
        obtain ⟨n, rfl⟩ : ∃ n, k = n + 1 := ⟨k - 1, by omega⟩
        rfl)
      go_loopw [9] (fun j w' => ∃ (q : Nat) (d : Nat → Nat), q ≤ k ∧ j = .int .i64 q ∧ Hid (Srt W w' bo g h L K d) ∧ Hid (inn (ltW L K) q d = so (ltW L K) (k + 1))) (fun j _ => (intOf j).toNat)
      case atStart => exact ⟨k, _, Nat.le_refl _, rfl, HW, HE⟩
      case round =>
        obtain ⟨q, d, hq, rfl, HD, HI⟩ := hrel
        clear HW
        by_cases hq0 : 0 < q
        · obtain ⟨j, rfl⟩ : ∃ j, q = j + 1 := ⟨q - 1, by omega⟩
          have c0 := HD.out.cell (show j < 4 by omega)
          have c1 := HD.out.cell (show j + 1 < 4 by omega)
          have HP := Lib.hid (fun n => HCM.out (d (j + 1)) (d j) (wr.drewN n) (HD.out.two.drewN n) (HD.out.lt _ (by omega)) (HD.out.lt _ (by omega)))
          have HN := Lib.hid (show inn (ltW L K) (j + 1) d = if ltW L K (d (j + 1)) (d j) then inn (ltW L K) j (sw d (j + 1)) else d from rfl)
          have HT := Lib.hid (show ltW L K (d (j + 1)) (d j) = decide (wI L K (d j) - wI L K (d (j + 1)) < 0) by unfold ltW; rw [decide_eq_decide]; omega)
          obtain ⟨x, hx⟩ : ∃ x, d j = x := ⟨_, rfl⟩
          obtain ⟨y, hy⟩ : ∃ y, d (j + 1) = y := ⟨_, rfl⟩
          have HX := Lib.hid hx
          have HY := Lib.hid hy
          rw [hx] at c0
          rw [hy] at c1
          rw [hx, hy] at HP HN HT
          obtain ⟨r, hr⟩ : ∃ r, wI L K x - wI L K y = r := ⟨_, rfl⟩
          rw [hr] at HP HT
          clear hx hy hr
          have jz : (j : Int) + 1 < 4 := by omega
          have jz1 : (j : Int) < 4 := by omega
          have hwp : IntKind.i64.wrap (j : Int) = (j : Int) := IntWalk.i64_in _ (by omega)
          have p1 : (0 : Int) ≤ (j : Int) := by omega
          have p0 : (0 : Int) ≤ (j : Int) + 1 := by omega
          have e0 : ((j : Int) + 1).toNat = j + 1 := by omega
          by_cases c : r < 0
          · have HZ := Lib.hid (show inn (ltW L K) j (sw d (j + 1)) = so (ltW L K) (k + 1) by rw [← HI.out, HN.out, HT.out, decide_eq_true c]; rfl)
            clear HT HN HI
            go_wp2_with fail
            go_quiet ((go_at_call 31; with_reducible exact quiet_dn (HP.out _)))
            go_wp2_with fail
            have k0 : (wr.drewN nq).cell? ⟨bo, j, none⟩ = some (.int .i64 x) := c0
            have k1 : (wr.drewN nq).cell? ⟨bo, j + 1, none⟩ = some (.int .i64 y) := c1
            have f0 := (HD.out.drewN nq).frozen j
            have f1 := (HD.out.drewN nq).frozen (j + 1)
            have HD2 := Lib.hid (HD.out.drewN nq)
            clear HD HP c0 c1
            generalize wr.drewN nq = w2 at HD2 k0 k1 f0 f1 ⊢
            obtain ⟨j1, hj1⟩ : ∃ j1, j1 = j + 1 := ⟨_, rfl⟩
            rw [← hj1] at k1 f1 e0
            have J1 := Lib.hid hj1
            clear hj1
            go_region
            all_goals
              go_wp2
              go_roundw
              case rel =>
                refine ⟨j, sw d (j + 1), by omega, by first | rfl | go_num | (congr 1; omega), Lib.hid ?_, HZ⟩
                rw [J1.out]
                exact Srt.drew (HD2.out.swap (by omega) hg hh HX.out HY.out (.inl rfl))
              case measure => simp [intOf]
          · have HZ := Lib.hid (show d = so (ltW L K) (k + 1) by rw [← HI.out, HN.out, HT.out, decide_eq_false c]; rfl)
            clear HT HN HI
            go_wp2_with fail
            go_quiet ((go_at_call 31; with_reducible exact quiet_dn (HP.out _)))
            go_wp2_with fail
            go_roundw
            case rel => exact ⟨k + 1, by omega, by omega, by go_num, Lib.hid (by rw [← HZ.out]; exact HD.out.drewN _)⟩
            case measure => simp [intOf]; omega
        · obtain rfl : q = 0 := by omega
          have HZ := Lib.hid (show d = so (ltW L K) (k + 1) from HI.out)
          clear HI
          go_wp2_with fail
          go_quiet (fail)
          go_wp2_with fail
          go_roundw
          case rel => exact ⟨k + 1, by omega, by omega, by go_num, Lib.hid (by rw [← HZ.out]; exact HD.out.drewN _)⟩
          case measure => simp [intOf]; omega
    · obtain rfl : k = 4 := by omega
      go_wp2_with fail
      go_end0
      exact ⟨rfl, HW.out⟩

theorem stable_as (W : World) (bo g h : Nat) (L : Nat → Int) (K : Nat → Nat) (w : World) (hS : Srt W w bo g h L K id) (hg : g ≠ bo) (hh : h ≠ bo) (hL : okL L) (hK : ∀ i, i < 4 → K i ≤ 8) :
    Calls Tryd.prog 36 #[.slice (some ⟨bo, 0, none⟩) 4 4, .int .i64 4, .func (.func 31) #[] #[.pointer (some ⟨g, 0, none⟩), .pointer (some ⟨h, 0, none⟩)]] w fun e w' =>
      e = .returned (.tuple #[]) ∧ Srt W w' bo g h L K (so (ltW L K) 4) := by
  have HI := Lib.hid (ins_as W bo g h L K w hS hg hh hL hK)
  clear hS hL hK
  go_enter Tryd.func36, Tryd.ntmps36
  go_wp2_with fail
  go_loopw [7, 8] (fun a b w' => a = .int .i64 0 ∧ b = .int .i64 20 ∧ w' = w) (fun _ _ _ => 0)
  case atStart => exact ⟨rfl, rfl, rfl⟩
  case round =>
    obtain ⟨rfl, rfl, rfl⟩ := hrel
    go_wp2_with fail
    refine HI.out.mono ?_
    rintro e w1 ⟨rfl, h1⟩
    have H1 := Lib.hid h1
    clear h1 HI
    go_wp2_with fail
    go_loopw [6] (fun a w' => a = .int .i64 20 ∧ w' = w1) (fun _ _ => 0)
    case atStart => exact ⟨rfl, rfl⟩
    case round =>
      obtain ⟨rfl, rfl⟩ := hrel
      go_wp2_with fail
      go_end0
      exact ⟨rfl, H1.out⟩

theorem sort_as (W : World) (bo g h : Nat) (L : Nat → Int) (K : Nat → Nat) (w : World) (hS : Srt W w bo g h L K id) (hg : g ≠ bo) (hh : h ≠ bo) (hL : okL L) (hK : ∀ i, i < 4 → K i ≤ 8) :
    Calls Tryd.prog 30 #[.slice (some ⟨bo, 0, none⟩) 4 4, .func (.func 31) #[] #[.pointer (some ⟨g, 0, none⟩), .pointer (some ⟨h, 0, none⟩)]] w fun e w' =>
      e = .returned (.tuple #[]) ∧ Srt W w' bo g h L K (so (ltW L K) 4) := by
  have HI := Lib.hid (stable_as W bo g h L K w hS hg hh hL hK)
  clear hS hL hK
  go_enter Tryd.func30, Tryd.ntmps30
  go_wp2_with fail
  refine HI.out.mono ?_
  rintro e w1 ⟨rfl, h1⟩
  have H1 := Lib.hid h1
  clear h1 HI
  go_wp2_with fail
  go_end0
  exact ⟨rfl, H1.out⟩

/-- A row of four, its type's zero and size. -/
theorem zero4 : ∃ Z, IsRow 4 (fun _ => 0) Z ∧ (∀ f, rowL 4 f 0 = Z) ∧ (∀ w, (zeroValue 22).run Tryd.prog w = .ok (.agg Z) w) ∧ ∀ A : Array Value, A.size = 4 → (Tryd.prog.info? 22).map (·.size) = some A.size :=
  zero_row (by kernel_rfl)

/-- What byWish leaves: a row of the bands in their order. -/
def Ret4 (w0 : World) (f : Nat → Int) (e : Ending) (w' : World) : Prop := (∃ T, e = .returned (.agg T) ∧ IsRow 4 f T) ∧ Below w0.heap.size w0 w'

theorem below_both {B : Nat} {w w1 w2 : World} (h : Below B w w1) (h2 : Below B w1 w2) : Below B w w2 :=
  ⟨h2.os.trans h.os, h2.tape.trans h.tape, h2.output.trans h.output, Nat.le_trans h.size h2.size, fun k hk => (h2.block k hk).trans (h.block k hk)⟩

/-- While the bands are written down: the first k. -/
def up (k p : Nat) : Int := if p < k then p else 0
theorem up_next (k p : Nat) : (if p = k then (k : Int) else up k p) = up (k + 1) p := by
  unfold up
  by_cases c : p = k
  · rw [if_pos c, if_pos (by omega), c]
  · rw [if_neg c]
    by_cases c2 : p < k
    · rw [if_pos c2, if_pos (by omega)]
    · rw [if_neg c2, if_neg (by omega)]

set_option maxHeartbeats 400000 in
theorem byWish_as (TL TK : Array Value) (L : Nat → Int) (K : Nat → Nat) (w : World) (hTL : IsRow 4 L TL) (hTK : IsRow 4 (fun i => (K i : Int)) TK) (hL : okL L) (hK : ∀ i, i < 4 → K i ≤ 8) :
    Calls Tryd.prog 20 #[.agg TL, .agg TK] w (Ret4 w fun p => (so (ltW L K) 4 p : Int)) := by
  have hmf : ∀ (fn : Fn) (first cap : Array Value) (w : World), (Instr.makeFunc fn first cap).run Tryd.prog w = .ok (.func fn first cap) w := fun _ _ _ _ => rfl
  obtain ⟨Z, hZ, hZ0, hz, hi⟩ := zero4
  have HI := Lib.hid hi
  have HSO := Lib.hid (fun w1 s => sort_as w1 (w.heap.size + 3) w.heap.size (w.heap.size + 1) L K w1 s (by omega) (by omega) hL hK)
  have HTL := Lib.hid hTL
  have HTK := Lib.hid hTK
  have H0 : Hid (∀ w', w' = (((w.alloc (.cells TL 22)).alloc (.cells TK 22)).alloc (.cells Z 22)).alloc (.cells Z 22) →
      At w' w.heap.size TL 22 ∧ At w' (w.heap.size + 1) TK 22 ∧ At w' (w.heap.size + 2) Z 22 ∧ At w' (w.heap.size + 3) Z 22 ∧ Below w.heap.size w w') := Lib.hid (by
    rintro w' rfl
    refine ⟨(((At.new w TL _).alloc _).alloc _).alloc _, ?_, ?_, ?_, ((((Below.refl _ _).alloc (Nat.le_refl _) _).alloc (by simp) _).alloc (by simp; omega) _).alloc (by simp; omega) _⟩
    · have := ((At.new (w.alloc (.cells TL 22)) TK 22).alloc (.cells Z 22)).alloc (.cells Z 22)
      simpa using this
    · have := (At.new ((w.alloc (.cells TL 22)).alloc (.cells TK 22)) Z 22).alloc (.cells Z 22)
      simpa using this
    · have := At.new (((w.alloc (.cells TL 22)).alloc (.cells TK 22)).alloc (.cells Z 22)) Z 22
      simpa using this)
  have HZ := Lib.hid (hZ.ext fun p _ => (show (0 : Int) = up 0 p by unfold up; rw [if_neg (by omega)]))
  have HZS := Lib.hid hZ.1
  clear hZ hZ0 hi hL hK hTL hTK
  go_enter Tryd.func20, Tryd.ntmps20
  go_wp2_with fail
  have HA := Lib.hid (H0.out _ rfl)
  clear H0
  go_loopw [7] (fun i w' => ∃ (k : Nat) (T : Array Value), k ≤ 4 ∧ i = .int .i64 k ∧ Hid (At w' w.heap.size TL 22 ∧ At w' (w.heap.size + 1) TK 22 ∧ At w' (w.heap.size + 2) Z 22 ∧ At w' (w.heap.size + 3) T 22 ∧ Below w.heap.size w w') ∧ Hid (IsRow 4 (up k) T)) (fun i _ => 4 - (intOf i).toNat)
  case atStart => exact ⟨0, Z, by omega, rfl, HA, HZ⟩
  case round =>
    obtain ⟨k, T, hk, rfl, HB, HT⟩ := hrel
    clear HA
    by_cases hlt : k < 4
    · have k0 : (0 : Int) ≤ (k : Int) := by omega
      have k1 : (k : Int) < 4 := by omega
      have c0 := HT.out.cell HB.out.2.2.2.1 k hlt
      have f0 := HB.out.2.2.2.1.frozen k
      go_wp2_with fail
      go_roundw
      case rel =>
        obtain ⟨h1, h2, h3, h4, h5⟩ := HB.out
        exact ⟨k + 1, _, by omega, by go_num, Lib.hid ⟨h1.setCell_other (by dsimp only; omega), h2.setCell_other (by dsimp only; omega), h3.setCell_other (by dsimp only; omega), h4.setCell, h5.setCell (by dsimp only; omega) _⟩, Lib.hid ((HT.out.set (k := k) (k : Int) hlt).ext fun p _ => up_next k p)⟩
      case measure => simp [intOf]; omega
    · obtain rfl : k = 4 := by omega
      have HC := Lib.hid (HSO.out wr ⟨⟨HTL.out.cell HB.out.1, HTK.out.cell HB.out.2.1⟩, ⟨T, HT.out.ext fun p hp => by unfold up; rw [if_pos hp]; rfl, HB.out.2.2.2.1⟩, Fr.refl _ _, fun p hp => hp⟩)
      clear HSO
      go_wp2_with fail
      refine HC.out.mono ?_
      rintro e w1 ⟨rfl, hs⟩
      obtain ⟨T2, hT2, hA2⟩ := hs.ord
      have hf := hs.fr
      have HT2 := Lib.hid hT2
      have HA2 := Lib.hid hA2
      have HA3 := Lib.hid (HB.out.2.2.1.fr hf (fun (e : w.heap.size + 2 = w.heap.size + 3) => by omega))
      have HL := Lib.hid (below_both HB.out.2.2.2.2 (hf.below HB.out.2.2.2.2.size fun k (e : k = w.heap.size + 3) => by omega))
      clear hs hT2 hA2 hf HC HB
      go_wp2_with (first
        | refine wpList_load_row rfl 22 _ rfl (w.heap.size + 3) rfl _ _ (0, 0) _ HA2.out Tryd.underlying22 rfl (HI.out _ HT2.out.1) ?_
        | refine wpList_store_row rfl 22 _ _ rfl (w.heap.size + 2) T2 rfl rfl _ _ HA3.out (HI.out _ HT2.out.1) (by rw [HZS.out, HT2.out.1]) HT2.out.2.1 ?_)
      exact bodyPost_ret (v := .agg T2) (results_cell_row rfl _ _ (w.heap.size + 2) 22 T2 (0, 0) _ rfl HA3.out.setRow Tryd.underlying22 rfl (HI.out _ HT2.out.1)) rfl ⟨⟨T2, rfl, HT2.out⟩, below_setRow' HL.out (by omega) _⟩
end Go.Proofs.YtfcaigggacgfkaaDoor.Sp
