/- Texts of the walk, one behind the other. -/
import Derived.Test.YtfohinlldchdpaaGreatDoorEncPlaysM28
import Derived.Test.YtfohinlldchdpaaGreatDoorEncPlaysM2
import Derived.Test.YtfohinlldchdpaaGreatDoorEncPlaysM14
import Derived.Test.YtfohinlldchdpaaGreatDoorEncPlaysM1
import Derived.Test.YtfohinlldchdpaaGreatDoorEncPlaysM7

section
/- Contract of shape's found. -/
set_option maxRecDepth 100000
set_option linter.unusedVariables false
namespace Go.Proofs.YtfohinlldchdpaaGreatDoor.Sh
open Go.RowKit Go.Proofs.YtfohinlldchdpaaGreatDoor.Row

/-- The row of pulses. -/
def yI (x : Nat → Int) (n k i : Nat) : Int := yS (sz x) n k i
theorem yI_next (x : Nat → Int) (n k i : Nat) : (if i = bS (sz x) n k n then yI x n k (bS (sz x) n k n) + 1 else yI x n k i) = yI x n (k + 1) i := by
  unfold yI
  rw [y_next]
  by_cases h : i = bS (sz x) n k n
  · rw [if_pos h, if_pos h, h]; rfl
  · rw [if_neg h, if_neg h]

/-- What stands while pulses are found: the waves' slice, the row, its slice, a, q. -/
structure FdS (W : World) (h b o n c : Nat) (x : Nat → Int) (R : Array Value) (A Q : Nat) (w : World) : Prop where
  below : Below W.heap.size W w
  hh : W.heap.size = h
  wave : ∀ i, i < n → w.cell? ⟨b, o + i, none⟩ = some (.int .i64 (x i))
  bl : b < h
  box : At w h #[.slice (some ⟨b, o, none⟩) n c] 68
  row : At w (h + 1) R 3
  sl : At w (h + 2) #[.slice (some ⟨h + 1, 0, none⟩) n n] 68
  a : At w (h + 3) #[.int .i64 A] 3
  q : At w (h + 4) #[.int .i64 Q] 3

theorem FdS.drewN {W w : World} {h b o n c A Q : Nat} {x : Nat → Int} {R : Array Value} (s : FdS W h b o n c x R A Q w) (k : Nat) : FdS W h b o n c x R A Q (w.drewN k) :=
  ⟨below_drewN s.below k, s.hh, s.wave, s.bl, s.box, s.row, s.sl, s.a, s.q⟩
theorem FdS.wth {W w : World} {h b o n c A Q k : Nat} {x : Nat → Int} {R : Array Value} (s : FdS W h b o n c x R A Q w) (hR : IsRow n (yI x n k) R) : Wth w (h + 3) h (h + 4) (h + 2) b o n c (h + 1) A Q x (yS (sz x) n k) :=
  ⟨by rw [s.a.cell]; rfl, by rw [s.box.cell]; rfl, by rw [s.q.cell]; rfl, by rw [s.sl.cell]; rfl, s.wave, fun i hi => hR.cell s.row i hi⟩
theorem FdS.setA {W w : World} {h b o n c A Q : Nat} {x : Nat → Int} {R : Array Value} (s : FdS W h b o n c x R A Q w) (v : Nat) : FdS W h b o n c x R v Q (w.setCell ⟨h + 3, 0, none⟩ (.int .i64 v)) := by
  have := s.bl
  have := s.hh
  exact ⟨s.below.setCell (by dsimp only; omega) _, s.hh, fun i hi => (cell_set_other _ _ _ _ (by dsimp only; omega)).trans (s.wave i hi), s.bl, s.box.setCell_other (by dsimp only; omega), s.row.setCell_other (by dsimp only; omega), s.sl.setCell_other (by dsimp only; omega), s.a.setCell, s.q.setCell_other (by dsimp only; omega)⟩
theorem FdS.setQ {W w : World} {h b o n c A Q : Nat} {x : Nat → Int} {R : Array Value} (s : FdS W h b o n c x R A Q w) (v : Nat) : FdS W h b o n c x R A v (w.setCell ⟨h + 4, 0, none⟩ (.int .i64 v)) := by
  have := s.bl
  have := s.hh
  exact ⟨s.below.setCell (by dsimp only; omega) _, s.hh, fun i hi => (cell_set_other _ _ _ _ (by dsimp only; omega)).trans (s.wave i hi), s.bl, s.box.setCell_other (by dsimp only; omega), s.row.setCell_other (by dsimp only; omega), s.sl.setCell_other (by dsimp only; omega), s.a.setCell_other (by dsimp only; omega), s.q.setCell⟩
theorem FdS.setR {W w : World} {h b o n c A Q : Nat} {x : Nat → Int} {R : Array Value} (s : FdS W h b o n c x R A Q w) (i : Nat) (v : Value) : FdS W h b o n c x (R.setIfInBounds i v) A Q (w.setCell ⟨h + 1, i, none⟩ v) := by
  have := s.bl
  have := s.hh
  exact ⟨s.below.setCell (by dsimp only; omega) _, s.hh, fun i hi => (cell_set_other _ _ _ _ (by dsimp only; omega)).trans (s.wave i hi), s.bl, s.box.setCell_other (by dsimp only; omega), s.row.setCell, s.sl.setCell_other (by dsimp only; omega), s.a.setCell_other (by dsimp only; omega), s.q.setCell_other (by dsimp only; omega)⟩

theorem FdS.start {W : World} {b o n c : Nat} {x : Nat → Int} (R : Array Value) (hc : ∀ i, i < n → W.cell? ⟨b, o + i, none⟩ = some (.int .i64 (x i))) (hb : b < W.heap.size) :
    FdS W W.heap.size b o n c x R 0 0 (((((W.alloc (.cells #[.slice (some ⟨b, o, none⟩) n c] 68)).alloc (.cells R 3)).alloc (.cells #[.slice (some ⟨W.heap.size + 1, 0, none⟩) n n] 68)).alloc (.cells #[.int .i64 0] 3)).alloc (.cells #[.int .i64 0] 3)) := by
  have z0 := At.new W #[.slice (some ⟨b, o, none⟩) n c] 68
  obtain ⟨w1, h1⟩ : ∃ w1, W.alloc (.cells #[.slice (some ⟨b, o, none⟩) n c] 68) = w1 := ⟨_, rfl⟩
  have s1 : w1.heap.size = W.heap.size + 1 := by rw [← h1]; simp
  have b1 : Below W.heap.size W w1 := by rw [← h1]; exact (Below.refl _ _).alloc (Nat.le_refl _) _
  rw [h1] at z0 ⊢
  have z1 := At.new w1 R 3
  rw [s1] at z1
  obtain ⟨w2, h2⟩ : ∃ w2, w1.alloc (.cells R 3) = w2 := ⟨_, rfl⟩
  have z0 := z0.alloc (.cells R 3)
  have s2 : w2.heap.size = W.heap.size + 2 := by rw [← h2]; simp [s1]
  have b2 : Below W.heap.size W w2 := by rw [← h2]; exact b1.alloc (by omega) _
  rw [h2] at z0 z1 ⊢
  have z2 := At.new w2 #[.slice (some ⟨W.heap.size + 1, 0, none⟩) n n] 68
  rw [s2] at z2
  obtain ⟨w3, h3⟩ : ∃ w3, w2.alloc (.cells #[.slice (some ⟨W.heap.size + 1, 0, none⟩) n n] 68) = w3 := ⟨_, rfl⟩
  have z0 := z0.alloc (.cells #[.slice (some ⟨W.heap.size + 1, 0, none⟩) n n] 68)
  have z1 := z1.alloc (.cells #[.slice (some ⟨W.heap.size + 1, 0, none⟩) n n] 68)
  have s3 : w3.heap.size = W.heap.size + 3 := by rw [← h3]; simp [s2]
  have b3 : Below W.heap.size W w3 := by rw [← h3]; exact b2.alloc (by omega) _
  rw [h3] at z0 z1 z2 ⊢
  have z3 := At.new w3 #[.int .i64 0] 3
  rw [s3] at z3
  obtain ⟨w4, h4⟩ : ∃ w4, w3.alloc (.cells #[.int .i64 0] 3) = w4 := ⟨_, rfl⟩
  have z0 := z0.alloc (.cells #[.int .i64 0] 3)
  have z1 := z1.alloc (.cells #[.int .i64 0] 3)
  have z2 := z2.alloc (.cells #[.int .i64 0] 3)
  have s4 : w4.heap.size = W.heap.size + 4 := by rw [← h4]; simp [s3]
  have b4 : Below W.heap.size W w4 := by rw [← h4]; exact b3.alloc (by omega) _
  rw [h4] at z0 z1 z2 z3 ⊢
  have z4 := At.new w4 #[.int .i64 0] 3
  rw [s4] at z4
  have b5 := b4.alloc (show W.heap.size ≤ w4.heap.size by omega) (.cells #[.int .i64 0] 3)
  exact ⟨b5, rfl, fun i hi => (Below.cell b5 hb).trans (hc i hi), hb, z0.alloc _, z1.alloc _, z2.alloc _, z3.alloc _, z4⟩

/-- A new row of pulses is handed back. -/
def RetRow (w w' : World) (e : Ending) (n : Nat) (f : Nat → Int) : Prop := ∃ g U, e = .returned (.slice (some ⟨g, 0, none⟩) n n) ∧ w.heap.size ≤ g ∧ IsRow n f U ∧ At w' g U 3 ∧ Below w.heap.size w w'

set_option maxHeartbeats 800000 in
theorem found_as (b o n c K : Nat) (x : Nat → Int) (W : World) (hc : ∀ i, i < n → W.cell? ⟨b, o + i, none⟩ = some (.int .i64 (x i))) (h0 : 0 < n) (h8 : n ≤ 8) (hx : ∀ i, i < n → -1048576 ≤ x i ∧ x i ≤ 1048576) (hK : K ≤ 8) :
    Calls Tryz.prog 199 #[.slice (some ⟨b, o, none⟩) n c, .int .i64 K] W fun e w' => RetRow W w' e n (yI x n K) := by
  have hmf : ∀ (fn : Fn) (first cap : Array Value) (w : World), (Instr.makeFunc fn first cap).run Tryz.prog w = .ok (.func fn first cap) w := fun _ _ _ _ => rfl
  have HS := Lib.hid (FdS.start (c := c) (rowL n (fun _ => 0) 0) hc (block_lt_of_cell (hc 0 h0)))
  have HR := Lib.hid (show IsRow n (yI x n 0) (rowL n (fun _ => 0) 0) by rw [row_of0]; exact isRow_zero n)
  have HX := Lib.hid hx
  clear hc hx
  go_enter Tryz.func199, Tryz.ntmps199
  go_wp2_with (at_make; refine wpList_make_rowL (fun _ => 0) rfl _ _ rfl n _ _ rfl rfl (by omega) ?_)
  obtain ⟨h, hh⟩ : ∃ h, W.heap.size = h := ⟨_, rfl⟩
  rw [hh] at HS ⊢
  go_loopw [16] (fun i w' => ∃ (k : Nat) (R : Array Value), k ≤ K ∧ i = .int .i64 k ∧ Hid (IsRow n (yI x n k) R) ∧ FdS W h b o n c x R (aS (sz x) n k) (qS (sz x) n k) w') (fun i _ => K - (intOf i).toNat)
  case atStart => exact ⟨0, _, Nat.zero_le _, rfl, HR, HS.out⟩
  case round =>
    obtain ⟨k, R, hk, rfl, HR1, hs⟩ := hrel
    have HS1 := Lib.hid hs
    have c1 : wr.cell? ⟨h, 0, none⟩ = some (.slice (some ⟨b, o, none⟩) n c) := by rw [hs.box.cell]; rfl
    have c2 : wr.cell? ⟨h + 2, 0, none⟩ = some (.slice (some ⟨h + 1, 0, none⟩) n n) := by rw [hs.sl.cell]; rfl
    clear hs HS HR
    by_cases hlt : k < K
    · have hA : aS (sz x) n k ≤ 8388608 := by
        have := a_le (U := 1048576) h0 (fun i hi => show sz x i ≤ 1048576 by have := HX.out i hi; unfold sz; omega) k
        omega
      have hQ : qS (sz x) n k ≤ 64 := Nat.le_trans (q_le _ _ _) (Nat.mul_le_mul (show k ≤ 8 by omega) (show k ≤ 8 by omega))
      have hY : ∀ i, yS (sz x) n k i ≤ 8 := fun i => Nat.le_trans (y_le _ _ _ _) (by omega)
      have HB := Lib.hid (fun j i w (hj : j < n) (hi : i < n) hw => better_as w (h + 3) h (h + 4) (h + 2) b o n c (h + 1) (aS (sz x) n k) (qS (sz x) n k) j i x (yS (sz x) n k) hw hj hi HX.out hA hQ hY)
      have HW := Lib.hid (fun i u p w (hi : i < n) hu hp hw => with_as w (h + 3) h (h + 4) (h + 2) b o n c (h + 1) (aS (sz x) n k) (qS (sz x) n k) i u p x (yS (sz x) n k) hw hi (HX.out i hi) hA hQ hu hp (hp ▸ hY i))
      have HAN := Lib.hid (a_next (sz x) n k)
      have HQN := Lib.hid (q_next (sz x) n k)
      have hY2 := Lib.hid hY
      have hlb := Lib.hid (b_lt (u := sz x) (k := k) (Nat.le_refl n) h0)
      obtain ⟨A, eA⟩ : ∃ A, aS (sz x) n k = A := ⟨_, rfl⟩
      obtain ⟨Q, eQ⟩ : ∃ Q, qS (sz x) n k = Q := ⟨_, rfl⟩
      rw [eA] at hA HB HW HAN HS1
      rw [eQ] at hQ HB HW HQN HS1
      clear hY
      go_wp2_with fail
      go_loopw [9, 20] (fun m i w' => ∃ j : Nat, j ≤ n ∧ i = .int .i64 j ∧ m = .int .i64 (bS (sz x) n k j) ∧ FdS W h b o n c x R A Q w') (fun _ i _ => n - (intOf i).toNat)
      case atStart => exact ⟨0, Nat.zero_le _, rfl, rfl, HS1.out⟩
      case round =>
        obtain ⟨j, hj, rfl, rfl, hs⟩ := hrel
        have HS2 := Lib.hid hs
        clear hs HS1
        by_cases hlt2 : j < n
        · have HN := Lib.hid (b_next (sz x) n k j)
          have HC := Lib.hid (HB.out j (bS (sz x) n k j) wr hlt2 (b_lt (by omega) h0) (HS2.out.wth HR1.out))
          rw [eA, eQ] at HN
          obtain ⟨m, hm⟩ : ∃ m, bS (sz x) n k j = m := ⟨_, rfl⟩
          rw [hm] at HN HC ⊢
          obtain ⟨r, hr⟩ : ∃ r, bt (sz x) (yS (sz x) n k) A Q j m = r := ⟨_, rfl⟩
          rw [hr] at HN HC
          clear hr
          go_wp2_with fail
          refine HC.out.mono ?_
          rintro e w1 ⟨rfl, d, rfl⟩
          have HS3 := Lib.hid (HS2.out.drewN d)
          clear HC HS2
          cases r
          · go_wp2_with fail
            go_roundw
            case rel => exact ⟨j + 1, by omega, by go_num, by rw [HN.out]; rfl, HS3.out⟩
            case measure => simp [intOf]; omega
          · go_wp2_with fail
            go_roundw
            case rel => exact ⟨j + 1, by omega, by go_num, by rw [HN.out]; rfl, HS3.out⟩
            case measure => simp [intOf]; omega
        · obtain rfl : j = n := by omega
          clear HB
          have hm := hlb.out
          have HC := Lib.hid (HW.out (bS (sz x) j k j) (sz x (bS (sz x) j k j)) (yS (sz x) j k (bS (sz x) j k j)) wr hm rfl rfl (HS2.out.wth HR1.out))
          have HR2 := Lib.hid ((HR1.out.set (yI x j k (bS (sz x) j k j) + 1) hm).ext fun i _ => yI_next x j k i)
          have hp8 := hY2.out (bS (sz x) j k j)
          have cr := HR1.out.cell (HS2.out.row) (bS (sz x) j k j) hm
          rw [show yI x j k (bS (sz x) j k j) = ((yS (sz x) j k (bS (sz x) j k j) : Nat) : Int) from rfl] at HR2 cr
          obtain ⟨p, hp⟩ : ∃ p, yS (sz x) j k (bS (sz x) j k j) = p := ⟨_, rfl⟩
          rw [hp] at HC HR2 hp8 cr HQN
          obtain ⟨m, hme⟩ : ∃ m, bS (sz x) j k j = m := ⟨_, rfl⟩
          rw [hme] at HC HR2 hm cr HAN ⊢
          obtain ⟨u, hu⟩ : ∃ u, sz x m = u := ⟨_, rfl⟩
          rw [hu] at HC HAN
          clear hp hme hu HW hlb hY2 c1 c2
          go_wp2_with fail
          refine HC.out.mono ?_
          rintro e w1 ⟨rfl, d, rfl⟩
          have HS3 := Lib.hid (HS2.out.drewN d)
          clear HC HS2
          obtain ⟨w1, hw1⟩ : ∃ w1, wr.drewN d = w1 := ⟨_, rfl⟩
          have cr1 : w1.cell? ⟨h + 1, m, none⟩ = some (.int .i64 p) := by rw [← hw1]; exact cr
          rw [hw1] at HS3 ⊢
          clear cr hw1
          have f0 := HS3.out.a.frozen 0
          have f1 := HS3.out.q.frozen 0
          have f2 := HS3.out.row.frozen m
          have k0 := HS3.out.a.cell 0
          have k1 := HS3.out.q.cell 0
          have k2 := HS3.out.sl.cell 0
          simp only [List.getElem?_toArray, List.getElem?_cons_zero] at k0 k1 k2
          have HS4 := Lib.hid (((HS3.out.setA (A + u)).setQ (Q + 2 * p + 1)).setR m (.int .i64 ((p : Int) + 1)))
          rw [show ((A + u : Nat) : Int) = (A : Int) + u by omega, show ((Q + 2 * p + 1 : Nat) : Int) = (Q : Int) + 2 * p + 1 by omega] at HS4
          clear HS3
          go_wp2_with fail
          go_roundw
          case rel => exact ⟨k + 1, _, by omega, by go_num, HR2, by rw [HAN.out, HQN.out]; exact HS4.out⟩
          case measure => simp [intOf]; omega
    · obtain rfl : k = K := by omega
      have HB2 := Lib.hid HS1.out.below
      have HG := Lib.hid HS1.out.row
      have hle : W.heap.size ≤ h + 1 := by omega
      go_wp2_with fail
      go_ret
      exact ⟨h + 1, R, rfl, hle, HR1.out, HG.out, HB2.out⟩
end Go.Proofs.YtfohinlldchdpaaGreatDoor.Sh
end

section
/- Contracts of shape's Find and Gain. -/
set_option maxRecDepth 100000
set_option linter.unusedVariables false
namespace Go.Proofs.YtfohinlldchdpaaGreatDoor.Sh
open Go.RowKit Go.Proofs.YtfohinlldchdpaaGreatDoor.Row

/-- The first k numbers have their signs. -/
def mx (x : Nat → Int) (n K k i : Nat) : Int := if i < k then fS x n K i else yI x n K i
theorem mx_zero (x : Nat → Int) (n K i : Nat) : yI x n K i = mx x n K 0 i := by unfold mx; rw [if_neg (by omega)]
theorem mx_all {x : Nat → Int} {n K i : Nat} (h : i < n) : mx x n K n i = fS x n K i := if_pos h
theorem mx_here (x : Nat → Int) (n K k : Nat) : mx x n K k k = yI x n K k := if_neg (by omega)
theorem mx_neg {x : Nat → Int} {n K k : Nat} (h : x k < 0) (i : Nat) : (if i = k then -(yI x n K k) else mx x n K k i) = mx x n K (k + 1) i := by
  unfold mx
  by_cases e : i = k
  · subst e
    rw [if_pos rfl, if_pos (by omega)]
    unfold fS sg yI
    rw [if_pos h]
  · rw [if_neg e]
    by_cases l : i < k
    · rw [if_pos l, if_pos (by omega)]
    · rw [if_neg l, if_neg (by omega)]
theorem mx_pos {x : Nat → Int} {n K k : Nat} (h : ¬ x k < 0) (i : Nat) : mx x n K k i = mx x n K (k + 1) i := by
  unfold mx
  by_cases e : i = k
  · subst e
    rw [if_neg (by omega), if_pos (by omega)]
    unfold fS sg yI
    rw [if_neg h]
  · by_cases l : i < k
    · rw [if_pos l, if_pos (by omega)]
    · rw [if_neg l, if_neg (by omega)]

/-- What stands while the signs are laid: the row. -/
def FnS (W : World) (g : Nat) (R : Array Value) (w' : World) : Prop := Below W.heap.size W w' ∧ At w' g R 3 ∧ W.heap.size ≤ g
theorem FnS.set {W w : World} {g : Nat} {R : Array Value} (h : FnS W g R w) (i : Nat) (v : Value) : FnS W g (R.setIfInBounds i v) (w.setCell ⟨g, i, none⟩ v) := ⟨h.1.setCell h.2.2 _, h.2.1.setCell, h.2.2⟩

/-- A new row, f's n numbers, and OK are handed back. -/
def RetVec (w w' : World) (e : Ending) (n : Nat) (f : Nat → Int) : Prop := ∃ g U, e = .returned (.tuple #[.slice (some ⟨g, 0, none⟩) n n, .int .i64 0]) ∧ w.heap.size ≤ g ∧ IsRow n f U ∧ At w' g U 3 ∧ Below w.heap.size w w'

set_option maxHeartbeats 400000 in
theorem find_yes (a : Option Addr) (n c K : Nat) (x : Nat → Int) (W : World) (hS : Sl .i64 W a n c x) (h : okC x n = true) (hK : K ≤ 8) :
    Calls Tryz.prog 171 #[.slice a n c, .int .i64 K] W fun e w' => RetVec W w' e n (fS x n K) := by
  have HC := Lib.hid (searched_any a n c x W hS)
  obtain ⟨h0, h8, hx⟩ := (okC_iff x n).1 h
  obtain ⟨b, o, rfl, hc⟩ := hS.2.2 h0
  rw [h] at HC
  have HF := Lib.hid (found_as b o n c K x W hc h0 h8 hx hK)
  have HW := Lib.hid hc
  clear hS h hx hc
  go_enter Tryz.func171, Tryz.ntmps171
  go_wp2_with fail
  refine HC.out.mono ?_
  rintro e w1 ⟨rfl, rfl⟩
  clear HC
  go_wp2_with fail
  refine HF.out.mono ?_
  rintro e w1 ⟨g, U, rfl, hg, hU, hA, hb⟩
  have HS := Lib.hid (show FnS W g U w1 from ⟨hb, hA, hg⟩)
  have HU := Lib.hid (hU.ext fun i _ => mx_zero x n K i)
  clear hg hU hA hb HF
  go_wp2_with fail
  go_loopw [25] (fun i w' => ∃ (k : Nat) (R : Array Value), k ≤ n ∧ i = .int .i64 k ∧ Hid (IsRow n (mx x n K k) R) ∧ FnS W g R w') (fun i _ => n - (intOf i).toNat)
  case atStart => exact ⟨0, U, Nat.zero_le _, rfl, HU, HS.out⟩
  case round =>
    obtain ⟨k, R, hk, rfl, HR, hs⟩ := hrel
    have HS1 := Lib.hid hs
    clear hs HS HU
    by_cases hlt : k < n
    · have c0 := (Below.cell HS1.out.1 (block_lt_of_cell (HW.out k hlt))).trans (HW.out k hlt)
      have c1 := HR.out.cell HS1.out.2.1 k hlt
      have f1 := HS1.out.2.1.frozen k
      have HN := Lib.hid (fun h => (HR.out.set (-(yI x n K k)) hlt).ext fun i _ => mx_neg h i)
      have HP := Lib.hid (fun h => HR.out.ext fun i _ => mx_pos h i)
      have hy : yI x n K k ≤ 8 ∧ 0 ≤ yI x n K k := by have := y_le (sz x) n K k; unfold yI; omega
      rw [mx_here] at c1
      obtain ⟨p, hp⟩ : ∃ p, yI x n K k = p := ⟨_, rfl⟩
      obtain ⟨v, hv⟩ : ∃ v, x k = v := ⟨_, rfl⟩
      rw [hp] at c1 hy HN
      rw [hv] at c0 HN HP
      clear hp hv
      have HS2 := Lib.hid (HS1.out.set k (.int .i64 (-p)))
      by_cases hneg : v < 0
      · have HN1 := Lib.hid (HN.out hneg)
        clear HN HP
        go_wp2_with fail
        go_roundw
        case rel => exact ⟨k + 1, _, by omega, by go_num, HN1, HS2.out⟩
        case measure => simp [intOf]; omega
      · have HN1 := Lib.hid (HP.out hneg)
        clear HN HP HS2
        go_wp2_with fail
        go_roundw
        case rel => exact ⟨k + 1, _, by omega, by go_num, HN1, HS1.out⟩
        case measure => simp [intOf]; omega
    · obtain rfl : k = n := by omega
      have HR2 := Lib.hid (HR.out.ext fun i hi => mx_all hi)
      go_wp2_with fail
      go_ret2
      exact ⟨g, R, rfl, HS1.out.2.2, HR2.out, HS1.out.2.1, HS1.out.1⟩

end Go.Proofs.YtfohinlldchdpaaGreatDoor.Sh
end

section
/- Contracts of the document's Size, Both and Find. -/
set_option maxRecDepth 100000
set_option linter.unusedVariables false
namespace Go.Proofs.YtfohinlldchdpaaGreatDoor.Sh
open Go.RowKit Go.Proofs.YtfohinlldchdpaaGreatDoor.Row

theorem refSize_as (x : Int) (r : Nat) (w : World) (h1 : -1099511627776 ≤ x) (h2 : x ≤ 1099511627776) (h : x.natAbs = r) :
    Calls Tryz.prog 96 #[.int .i64 x] w fun e w' => e = .returned (.int .i64 r) ∧ w = w' := by
  subst h
  by_cases c3 : x < 0
  · go_enter Tryz.func96, Tryz.ntmps96
    go_wp2
    go_ret
    exact ⟨ret_int (by omega), rfl⟩
  · go_enter Tryz.func96, Tryz.ntmps96
    go_wp2
    go_ret
    exact ⟨ret_int (by omega), rfl⟩

set_option maxHeartbeats 400000 in
theorem refBoth_as (b o b2 o2 n c e : Nat) (x : Nat → Int) (z : Nat → Nat) (W : World) (hc : ∀ i, i < n → W.cell? ⟨b, o + i, none⟩ = some (.int .i64 (x i))) (hc2 : ∀ i, i < n → W.cell? ⟨b2, o2 + i, none⟩ = some (.int .i64 (z i))) (h8 : n ≤ 8) (hx : ∀ i, i < n → -1048576 ≤ x i ∧ x i ≤ 1048576) (hz : ∀ i, i < n → z i ≤ 9) :
    Calls Tryz.prog 102 #[.slice (some ⟨b, o, none⟩) n c, .slice (some ⟨b2, o2, none⟩) n e] W fun r w' => r = .returned (.tuple #[.int .i64 (S (fun i => sz x i * z i) n), .int .i64 (S (fun i => z i * z i) n)]) ∧ ∃ m, w' = W.drewN m := by
  have HC := Lib.hid hc
  have HC2 := Lib.hid hc2
  have HX := Lib.hid hx
  have HZ := Lib.hid hz
  clear hc hc2 hx hz
  go_enter Tryz.func102, Tryz.ntmps102
  go_wp2_with fail
  go_loopw [6, 7, 8] (fun s q i w' => ∃ k d : Nat, k ≤ n ∧ i = .int .i64 k ∧ s = .int .i64 (S (fun i => sz x i * z i) k) ∧ q = .int .i64 (S (fun i => z i * z i) k) ∧ w' = W.drewN d) (fun _ _ i _ => n - (intOf i).toNat)
  case atStart => exact ⟨0, 0, Nat.zero_le _, rfl, rfl, rfl, rfl⟩
  case round =>
    obtain ⟨k, d, hk, rfl, rfl, rfl, hw⟩ := hrel
    have HD := Lib.hid hw
    by_cases hlt : k < n
    · have c0 : wr.cell? ⟨b, o + k, none⟩ = some (.int .i64 (x k)) := by rw [hw]; exact HC.out k hlt
      have c1 : wr.cell? ⟨b2, o2 + k, none⟩ = some (.int .i64 (z k)) := by rw [hw]; exact HC2.out k hlt
      have hs := S_bd (n := k) (f := fun i => sz x i * z i) (M := 9437184) fun i hi => by
        have h1 := HX.out i (by omega)
        have h2 := HZ.out i (by omega)
        exact Nat.mul_le_mul (show sz x i ≤ 1048576 by unfold sz; omega) h2
      have hq := S_bd (n := k) (f := fun i => z i * z i) (M := 81) fun i hi => Nat.mul_le_mul (HZ.out i (by omega)) (HZ.out i (by omega))
      obtain ⟨x1, x2⟩ := HX.out k hlt
      have hz9 := HZ.out k hlt
      have HA := Lib.hid (show S (fun i => sz x i * z i) (k + 1) = S (fun i => sz x i * z i) k + sz x k * z k from rfl)
      have HB := Lib.hid (show S (fun i => z i * z i) (k + 1) = S (fun i => z i * z i) k + z k * z k from rfl)
      have HU := Lib.hid (show (x k).natAbs = sz x k from rfl)
      have hu8 : sz x k ≤ 1048576 := by unfold sz; omega
      obtain ⟨u, hu⟩ : ∃ u, sz x k = u := ⟨_, rfl⟩
      obtain ⟨v, hv⟩ : ∃ v, x k = v := ⟨_, rfl⟩
      obtain ⟨p, hp⟩ : ∃ p, z k = p := ⟨_, rfl⟩
      obtain ⟨s, hse⟩ : ∃ s, S (fun i => sz x i * z i) k = s := ⟨_, rfl⟩
      obtain ⟨q, hqe⟩ : ∃ q, S (fun i => z i * z i) k = q := ⟨_, rfl⟩
      rw [hu] at HA HU hu8
      rw [hv] at c0 x1 x2 HU
      rw [hp] at c1 hz9 HA HB
      rw [hse] at hs HA ⊢
      rw [hqe] at hq HB ⊢
      have m1 := Nat.mul_le_mul hu8 hz9
      have m2 := Nat.mul_le_mul hz9 hz9
      have m1i : (0 : Int) ≤ (u : Int) * p ∧ (u : Int) * p ≤ 9437184 := by
        have : ((u * p : Nat) : Int) ≤ ((1048576 * 9 : Nat) : Int) := Int.ofNat_le.2 m1
        have h0 := Int.natCast_nonneg (u * p)
        rw [Int.natCast_mul] at this h0
        omega
      have m2i : (0 : Int) ≤ (p : Int) * p ∧ (p : Int) * p ≤ 81 := by
        have : ((p * p : Nat) : Int) ≤ ((9 * 9 : Nat) : Int) := Int.ofNat_le.2 m2
        have h0 := Int.natCast_nonneg (p * p)
        rw [Int.natCast_mul] at this h0
        omega
      clear hu hv hp hse hqe m1 m2
      have hsb : s ≤ 75497472 := by omega
      have hqb : q ≤ 648 := by omega
      have k0 : (0 : Int) ≤ (k : Int) := by omega
      have k1 : (k : Int) < (n : Int) := by omega
      clear hs hq hw
      go_wp2_with fail
      go_quiet (first
        | (go_at_call 96; with_reducible exact quiet_int (refSize_as v u _ (by omega) (by omega) HU.out))
        | (go_at_call 96; with_reducible exact quiet_int (refSize_as p p _ (by omega) (by omega) (by omega))))
      go_wp2_with fail
      go_quiet (fail)
      go_wp2_with fail
      go_roundw
      case rel => exact ⟨k + 1, _, by omega, by go_num, congrArg (Value.int .i64) (by rw [HA.out, Int.natCast_add, Int.natCast_mul]), congrArg (Value.int .i64) (by rw [HB.out, Int.natCast_add, Int.natCast_mul]), by rw [HD.out]; exact World.drewN_drewN _ _ _⟩
      case measure => simp [intOf]; omega
    · obtain rfl : k = n := by omega
      clear hw
      go_wp2_with fail
      go_ret2
      exact ⟨rfl, d, HD.out⟩

theorem S_bump {z : Nat → Nat} {u : Nat → Nat} {n i : Nat} (hi : i < n) : S (fun j => u j * (if j = i then z j + 1 else z j)) n = S (fun j => u j * z j) n + u i := by
  have h := S_put (f := fun j => u j * z j) (g := fun j => u j * (if j = i then z j + 1 else z j)) hi fun j _ hj => by show u j * _ = _; rw [if_neg hj]
  have h2 : S (fun j => u j * (if j = i then z j + 1 else z j)) n + u i * z i = S (fun j => u j * z j) n + u i * (if i = i then z i + 1 else z i) := h
  rw [if_pos rfl, Nat.mul_add, Nat.mul_one] at h2
  omega
theorem S_bump2 {z : Nat → Nat} {n i : Nat} (hi : i < n) : S (fun j => (if j = i then z j + 1 else z j) * (if j = i then z j + 1 else z j)) n = S (fun j => z j * z j) n + 2 * z i + 1 := by
  have h := S_put (f := fun j => z j * z j) (g := fun j => (if j = i then z j + 1 else z j) * (if j = i then z j + 1 else z j)) hi fun j _ hj => by show (if j = i then _ else _) * _ = _; rw [if_neg hj]
  have h2 : S (fun j => (if j = i then z j + 1 else z j) * (if j = i then z j + 1 else z j)) n + z i * z i = S (fun j => z j * z j) n + (if i = i then z i + 1 else z i) * (if i = i then z i + 1 else z i) := h
  rw [if_pos rfl, Nat.mul_add, Nat.add_mul] at h2
  omega
/-- a and q with one pulse more at the wave i. -/
theorem both_a {u : Nat → Nat} {n k i : Nat} (hn : 0 < n) (hi : i < n) : S (fun j => u j * (if j = i then yS u n k j + 1 else yS u n k j)) n = aS u n k + u i := by rw [S_bump hi, a_sum hn]
theorem both_q {u : Nat → Nat} {n k i : Nat} (hn : 0 < n) (hi : i < n) : S (fun j => (if j = i then yS u n k j + 1 else yS u n k j) * (if j = i then yS u n k j + 1 else yS u n k j)) n = qS u n k + 2 * yS u n k i + 1 := by rw [S_bump2 hi, q_sum hn]

/-- What stands while the document's pulses are found: the waves, the row. -/
structure RfS (W : World) (g b o n : Nat) (x : Nat → Int) (R : Array Value) (w : World) : Prop where
  below : Below W.heap.size W w
  wave : ∀ i, i < n → w.cell? ⟨b, o + i, none⟩ = some (.int .i64 (x i))
  bl : b < W.heap.size
  gl : W.heap.size ≤ g
  row : At w g R 3
theorem RfS.drewN {W w : World} {g b o n : Nat} {x : Nat → Int} {R : Array Value} (s : RfS W g b o n x R w) (k : Nat) : RfS W g b o n x R (w.drewN k) := ⟨below_drewN s.below k, s.wave, s.bl, s.gl, s.row⟩
theorem RfS.more {W w w' : World} {g b o n : Nat} {x : Nat → Int} {R : Array Value} (s : RfS W g b o n x R w) (h : Below w.heap.size w w') : RfS W g b o n x R w' :=
  ⟨below_trans s.below h s.below.size, fun i hi => (Below.cell h (block_lt_of_cell (s.wave i hi))).trans (s.wave i hi), s.bl, s.gl, s.row.below h s.row.lt⟩
theorem RfS.set {W w : World} {g b o n : Nat} {x : Nat → Int} {R : Array Value} (s : RfS W g b o n x R w) (i : Nat) (v : Value) : RfS W g b o n x (R.setIfInBounds i v) (w.setCell ⟨g, i, none⟩ v) := by
  have := s.bl
  have := s.gl
  exact ⟨s.below.setCell s.gl _, fun i hi => (cell_set_other _ _ _ _ (by dsimp only; omega)).trans (s.wave i hi), s.bl, s.gl, s.row.setCell⟩
theorem RfS.setOther {W w : World} {g b o n h : Nat} {x : Nat → Int} {R : Array Value} (s : RfS W g b o n x R w) (hh : g < h) (i : Nat) (v : Value) : RfS W g b o n x R (w.setCell ⟨h, i, none⟩ v) := by
  have := s.bl
  have := s.gl
  exact ⟨s.below.setCell (by dsimp only; omega) _, fun i hi => (cell_set_other _ _ _ _ (by dsimp only; omega)).trans (s.wave i hi), s.bl, s.gl, s.row.setCell_other (by dsimp only; omega)⟩
theorem RfS.moreAt {W w w' : World} {g b o n B : Nat} {x : Nat → Int} {R : Array Value} (s : RfS W g b o n x R w) (h : Below B w w') (hb : b < B) (hg : g < B) (hB : W.heap.size ≤ B) : RfS W g b o n x R w' :=
  ⟨s.below.trans ⟨h.os, h.tape, h.output, h.size, fun k hk => h.block k (by omega)⟩, fun i hi => (Below.cell h hb).trans (s.wave i hi), s.bl, s.gl, s.row.below h hg⟩
end Go.Proofs.YtfohinlldchdpaaGreatDoor.Sh
end

section
/- Contract of the document's Find. -/
set_option maxRecDepth 100000
set_option linter.unusedVariables false
namespace Go.Proofs.YtfohinlldchdpaaGreatDoor.Sh
open Go.RowKit Go.Proofs.YtfohinlldchdpaaGreatDoor.Row

/-- What the document's search knows behind j waves. -/
def Bst (u y : Nat → Nat) (A Q j b : Nat) (m up dn : Int) : Prop :=
  (j = 0 ∧ m = -1 ∧ up = 0 ∧ dn = 1) ∨ (0 < j ∧ m = b ∧ up = ((A + u b : Nat) : Int) * ((A + u b : Nat) : Int) ∧ dn = ((Q + 2 * y b + 1 : Nat) : Int))

set_option maxHeartbeats 1000000 in
theorem refFind_as (b o n c K : Nat) (x : Nat → Int) (W : World) (hc : ∀ i, i < n → W.cell? ⟨b, o + i, none⟩ = some (.int .i64 (x i))) (h0 : 0 < n) (h8 : n ≤ 8) (hx : ∀ i, i < n → -1048576 ≤ x i ∧ x i ≤ 1048576) (hK : K ≤ 8) :
    Calls Tryz.prog 50 #[.slice (some ⟨b, o, none⟩) n c, .int .i64 K] W fun e w' => RetRow W w' e n (fS x n K) := by
  have hbl := block_lt_of_cell (hc 0 h0)
  have HS := Lib.hid (show RfS W W.heap.size b o n x (rowL n (fun _ => 0) 0) (W.alloc (.cells (rowL n (fun _ => 0) 0) 3)) from
    ⟨(Below.refl _ _).alloc (Nat.le_refl _) _, fun i hi => (Below.cell ((Below.refl W.heap.size W).alloc (Nat.le_refl _) _) (block_lt_of_cell (hc i hi))).trans (hc i hi), hbl, Nat.le_refl _, At.new _ _ _⟩)
  have HR := Lib.hid (show IsRow n (yI x n 0) (rowL n (fun _ => 0) 0) by rw [row_of0]; exact isRow_zero n)
  have HX := Lib.hid hx
  clear hc hx
  go_enter Tryz.func50, Tryz.ntmps50
  go_wp2_with (at_make; refine wpList_make_rowL (fun _ => 0) rfl _ _ rfl n _ _ rfl rfl (by omega) ?_)
  obtain ⟨g, hg⟩ : ∃ g, W.heap.size = g := ⟨_, rfl⟩
  rw [hg] at HS ⊢
  go_loopw [6] (fun i w' => ∃ (k : Nat) (R : Array Value), k ≤ K ∧ i = .int .i64 k ∧ Hid (IsRow n (yI x n k) R) ∧ RfS W g b o n x R w') (fun i _ => K - (intOf i).toNat)
  case atStart => exact ⟨0, _, Nat.zero_le _, rfl, HR, HS.out⟩
  case round =>
    obtain ⟨k, R, hk, rfl, HR1, hs⟩ := hrel
    have HS1 := Lib.hid hs
    clear hs HS HR
    by_cases hlt : k < K
    · have hA : aS (sz x) n k ≤ 8388608 := by
        have := a_le (U := 1048576) h0 (fun i hi => show sz x i ≤ 1048576 by have := HX.out i hi; unfold sz; omega) k
        omega
      have hQ : qS (sz x) n k ≤ 64 := Nat.le_trans (q_le _ _ _) (Nat.mul_le_mul (show k ≤ 8 by omega) (show k ≤ 8 by omega))
      have hY := Lib.hid (fun i => show yS (sz x) n k i ≤ 8 from Nat.le_trans (y_le _ _ _ _) (by omega))
      have hlb := Lib.hid (fun j (hj : j ≤ n) => b_lt (u := sz x) (k := k) hj h0)
      have HBA := Lib.hid (fun i (hi : i < n) => both_a (u := sz x) (k := k) h0 hi)
      have HBQ := Lib.hid (fun i (hi : i < n) => both_q (u := sz x) (k := k) h0 hi)
      have HN := Lib.hid (b_next (sz x) n k)
      have hbA := Lib.hid (fun i (hi : i < n) => show aS (sz x) n k + sz x i ≤ 9437184 by have := HX.out i hi; unfold sz at *; omega)
      have hbQ := Lib.hid (fun i (hi : i < n) => show qS (sz x) n k + 2 * yS (sz x) n k i + 1 ≤ 81 by have := hY.out i; omega)
      obtain ⟨A, eA⟩ : ∃ A, aS (sz x) n k = A := ⟨_, rfl⟩
      obtain ⟨Q, eQ⟩ : ∃ Q, qS (sz x) n k = Q := ⟨_, rfl⟩
      rw [eA] at HBA hbA
      rw [eQ] at HBQ hbQ
      rw [eA, eQ] at HN
      clear hA hQ eA eQ
      go_wp2_with fail
      go_loopw [7, 8, 9, 10] (fun m up dn i w' => ∃ (j : Nat) (m' u' d' : Int), j ≤ n ∧ i = .int .i64 j ∧ m = .int .i64 m' ∧ up = .int .i64 u' ∧ dn = .int .i64 d' ∧ Hid (Bst (sz x) (yS (sz x) n k) A Q j (bS (sz x) n k j) m' u' d') ∧ RfS W g b o n x R w') (fun _ _ _ i _ => n - (intOf i).toNat)
      case atStart => exact ⟨0, -1, 0, 1, Nat.zero_le _, rfl, rfl, rfl, rfl, Lib.hid (.inl ⟨rfl, rfl, rfl, rfl⟩), HS1.out⟩
      case round =>
        obtain ⟨j, m, up, dn, hj, rfl, rfl, rfl, rfl, HB, hs⟩ := hrel
        have HS2 := Lib.hid hs
        clear hs HS1
        by_cases hlt2 : j < n
        · have hal : Below wr.heap.size wr (wr.alloc (.cells #[] 3)) := (Below.refl _ _).alloc (Nat.le_refl _) _
          have HS3 := Lib.hid (HS2.out.more hal)
          have HE := Lib.hid (show OwnS (wr.alloc (.cells #[] 3)) wr.heap.size (some ⟨wr.heap.size, 0, none⟩) 0 0 (fun _ => 0) from OwnS.empty (Nat.le_refl _) (At.new _ _ _))
          have HL := Lib.hid (Sl.of_isRow HR1.out HS3.out.row (by unfold maxLen; omega))
          have HZ := Lib.hid hal.size
          have HYJ := Lib.hid (show cat (fun _ => 0) 0 (yI x n k) j = ((yS (sz x) n k j : Nat) : Int) from cat_0 _ _ j)
          have hyj := hY.out j
          clear hal
          go_wp2_with (at_builtin; refine wpList_append_many rfl (.tmp 29) (.tmp 30) rfl wr.heap.size (fun _ => 0) (yI x n k) _ 0 0 rfl HE.out _ n n rfl HL.out h0 n (Nat.zero_add n) (by omega) HZ.out ?_; intro g3 c3 w3 hG3 hb3 hgr hat; have cz := hG3.cell j hlt2; have fz := hG3.frozen j; rw [HYJ.out] at cz)
          have hgl := HS2.out.row.lt
          have HS4 := Lib.hid (HS3.out.moreAt hb3 (by have := HS2.out.bl; have := HS2.out.gl; omega) hgl HS2.out.below.size)
          have hG3' := hG3.ext fun i _ => cat_0 (fun _ => 0) (yI x n k) i
          have HS5 := Lib.hid (HS4.out.setOther (h := g3) (by have := hG3'.1; omega) j (.int .i64 ((yS (sz x) n k j : Int) + 1)))
          have HG5 := Lib.hid ((hG3'.set hlt2 ((yS (sz x) n k j : Int) + 1)).ext fun i _ => show _ = (((if i = j then yS (sz x) n k i + 1 else yS (sz x) n k i) : Nat) : Int) by
            by_cases e : i = j
            · subst e; rw [if_pos rfl, if_pos rfl]; rfl
            · rw [if_neg e, if_neg e]; rfl)
          have HCB := Lib.hid (fun w hw1 hw2 => refBoth_as b o g3 0 n c c3 x (fun i => if i = j then yS (sz x) n k i + 1 else yS (sz x) n k i) w hw1 hw2 h8 HX.out (fun i _ => by have := hY.out i; show (if i = j then _ else _) ≤ 9; split <;> omega))
          rw [show S (fun i => sz x i * (if i = j then yS (sz x) n k i + 1 else yS (sz x) n k i)) n = A + sz x j from HBA.out j hlt2, show S (fun i => (if i = j then yS (sz x) n k i + 1 else yS (sz x) n k i) * (if i = j then yS (sz x) n k i + 1 else yS (sz x) n k i)) n = Q + 2 * yS (sz x) n k j + 1 from HBQ.out j hlt2] at HCB
          have HC5 := Lib.hid (HCB.out _ (fun i hi => HS5.out.wave i hi) fun i hi => by rw [Nat.zero_add]; exact HG5.out.cell i hi)
          have hN := HN.out j
          have ha1 := hbA.out j hlt2
          have hq1 := hbQ.out j hlt2
          obtain ⟨a1, ea1⟩ : ∃ a, A + sz x j = a := ⟨_, rfl⟩
          obtain ⟨q1, eq1⟩ : ∃ a, Q + 2 * yS (sz x) n k j + 1 = a := ⟨_, rfl⟩
          have HBT := Lib.hid (show ∀ b, bt (sz x) (yS (sz x) n k) A Q j b = decide ((A + sz x b) * (A + sz x b) * q1 < a1 * a1 * (Q + 2 * yS (sz x) n k b + 1)) from fun b => by rw [← ea1, ← eq1]; rfl)
          have HE1 := Lib.hid (And.intro ea1 eq1)
          rw [ea1] at ha1 HC5
          rw [eq1] at hq1 HC5
          obtain ⟨p, hp⟩ : ∃ p, yS (sz x) n k j = p := ⟨_, rfl⟩
          rw [hp] at HS5 HC5 hyj ⊢
          have HN1 := Lib.hid hN
          clear hN ea1 eq1 hG3 hG3' hb3 hgr hat hgl HG5 HCB HE HL HZ HS3 HS4 hp HYJ cz fz
          obtain ⟨aa1, aa2, aa3, aa4⟩ := prod_bd ha1 hq1
          have fin : bS (sz x) n k (j + 1) = j → Bst (sz x) (yS (sz x) n k) A Q (j + 1) (bS (sz x) n k (j + 1)) j ((a1 : Int) * a1) q1 := fun h1 => by
            rw [h1]
            exact .inr ⟨Nat.succ_pos j, rfl, by rw [← HE1.out.1], by rw [← HE1.out.2]⟩
          have FIN := Lib.hid fin
          clear fin
          rcases HB.out with ⟨rfl, rfl, rfl, rfl⟩ | ⟨hj0, rfl, rfl, rfl⟩
          · have e1 : bS (sz x) n k (0 + 1) = 0 := by rw [HN1.out]; show (if _ then 0 else 0) = 0; split <;> rfl
            have HF := Lib.hid (FIN.out e1)
            clear FIN HN1 HBT e1
            go_wp2_with fail
            refine HC5.out.mono ?_
            rintro e w5 ⟨rfl, d, rfl⟩
            have HS6 := Lib.hid (HS5.out.drewN d)
            clear HC5 HS5 HS2
            go_wp2_with fail
            go_roundw
            case rel => exact ⟨1, 0, _, _, by omega, by go_num, rfl, rfl, rfl, HF, HS6.out⟩
            case measure => simp [intOf]; omega
          · have hmn := hlb.out j (by omega)
            have hb1 := hbA.out _ hmn
            have hr1 := hbQ.out _ hmn
            have hBT := HBT.out (bS (sz x) n k j)
            obtain ⟨m, hm⟩ : ∃ m, bS (sz x) n k j = m := ⟨_, rfl⟩
            have hN1 := HN1.out
            rw [hm] at hb1 hr1 hBT hN1 hmn ⊢
            obtain ⟨b1, eb1⟩ : ∃ a, A + sz x m = a := ⟨_, rfl⟩
            obtain ⟨r1, er1⟩ : ∃ a, Q + 2 * yS (sz x) n k m + 1 = a := ⟨_, rfl⟩
            have HE2 := Lib.hid (And.intro eb1 er1)
            rw [eb1] at hb1 hBT ⊢
            rw [er1] at hr1 hBT ⊢
            obtain ⟨bb1, bb2, bb3, bb4⟩ := prod_bd hb1 hq1
            obtain ⟨cc1, cc2, cc3, cc4⟩ := prod_bd ha1 hr1
            have hBI : decide ((b1 : Int) * b1 * q1 < (a1 : Int) * a1 * r1) = decide (b1 * b1 * q1 < a1 * a1 * r1) := by
              rw [decide_eq_decide]
              constructor
              · intro h; exact_mod_cast h
              · intro h; exact_mod_cast h
            rw [hBT] at hN1
            obtain ⟨r, hr⟩ : ∃ r, decide (b1 * b1 * q1 < a1 * a1 * r1) = r := ⟨_, rfl⟩
            rw [hr] at hN1 hBI
            have HM := Lib.hid hm
            have HN2 := Lib.hid hN1
            clear hBT hN1 hr eb1 er1 hm HBT HN1
            cases r
            · have e1 : bS (sz x) n k (j + 1) = m := HN2.out
              have HF := Lib.hid (show Bst (sz x) (yS (sz x) n k) A Q (j + 1) (bS (sz x) n k (j + 1)) m ((b1 : Int) * b1) r1 from .inr ⟨Nat.succ_pos j, by rw [e1], by rw [e1, HE2.out.1], by rw [e1, HE2.out.2]⟩)
              clear FIN HN2 e1 HB
              go_wp2_with fail
              refine HC5.out.mono ?_
              rintro e w5 ⟨rfl, d, rfl⟩
              have HS6 := Lib.hid (HS5.out.drewN d)
              clear HC5 HS5 HS2
              go_wp2_with fail
              go_roundw
              case rel => exact ⟨j + 1, m, _, _, by omega, by go_num, rfl, rfl, rfl, HF, HS6.out⟩
              case measure => simp [intOf]; omega
            · have HF := Lib.hid (FIN.out HN2.out)
              clear FIN HN2 HB
              go_wp2_with fail
              refine HC5.out.mono ?_
              rintro e w5 ⟨rfl, d, rfl⟩
              have HS6 := Lib.hid (HS5.out.drewN d)
              clear HC5 HS5 HS2
              go_wp2_with fail
              go_roundw
              case rel => exact ⟨j + 1, j, _, _, by omega, by go_num, rfl, rfl, rfl, HF, HS6.out⟩
              case measure => simp [intOf]; omega
        · obtain rfl : j = n := by omega
          rcases HB.out with ⟨e, _⟩ | ⟨_, rfl, _, _⟩
          · omega
          have hm := hlb.out j (Nat.le_refl _)
          have HR2 := Lib.hid ((HR1.out.set (yI x j k (bS (sz x) j k j) + 1) hm).ext fun i _ => yI_next x j k i)
          have hp8 := hY.out (bS (sz x) j k j)
          have cr := HR1.out.cell (HS2.out.row) (bS (sz x) j k j) hm
          rw [show yI x j k (bS (sz x) j k j) = ((yS (sz x) j k (bS (sz x) j k j) : Nat) : Int) from rfl] at HR2 cr
          obtain ⟨p, hp⟩ : ∃ p, yS (sz x) j k (bS (sz x) j k j) = p := ⟨_, rfl⟩
          rw [hp] at HR2 hp8 cr
          obtain ⟨m, hme⟩ : ∃ m, bS (sz x) j k j = m := ⟨_, rfl⟩
          rw [hme] at HR2 hm cr ⊢
          have f2 := HS2.out.row.frozen m
          have HS4 := Lib.hid (HS2.out.set m (.int .i64 ((p : Int) + 1)))
          clear hp hme HB HN HBA HBQ hbA hbQ HS2
          go_wp2_with fail
          go_roundw
          case rel => exact ⟨k + 1, _, by omega, by go_num, HR2, HS4.out⟩
          case measure => simp [intOf]; omega
    · obtain rfl : k = K := by omega
      have HM := Lib.hid (HR1.out.ext fun i _ => mx_zero x n k i)
      clear HR1
      go_wp2_with fail
      go_loopw [14] (fun i w' => ∃ (j : Nat) (R : Array Value), j ≤ n ∧ i = .int .i64 j ∧ Hid (IsRow n (mx x n k j) R) ∧ RfS W g b o n x R w') (fun i _ => n - (intOf i).toNat)
      case atStart => exact ⟨0, R, Nat.zero_le _, rfl, HM, HS1.out⟩
      case round =>
        obtain ⟨j, R, hj, rfl, HR, hs⟩ := hrel
        have HS2 := Lib.hid hs
        clear hs HS1 HM
        by_cases hlt2 : j < n
        · have c0 := HS2.out.wave j hlt2
          have c1 := HR.out.cell HS2.out.row j hlt2
          have f1 := HS2.out.row.frozen j
          have HN := Lib.hid (fun h => (HR.out.set (-(yI x n k j)) hlt2).ext fun i _ => mx_neg h i)
          have HP := Lib.hid (fun h => HR.out.ext fun i _ => mx_pos h i)
          have hy : yI x n k j ≤ 8 ∧ 0 ≤ yI x n k j := by have := y_le (sz x) n k j; unfold yI; omega
          rw [mx_here] at c1
          obtain ⟨p, hp⟩ : ∃ p, yI x n k j = p := ⟨_, rfl⟩
          obtain ⟨v, hv⟩ : ∃ v, x j = v := ⟨_, rfl⟩
          rw [hp] at c1 hy HN
          rw [hv] at c0 HN HP
          clear hp hv
          have HS3 := Lib.hid (HS2.out.set j (.int .i64 (-p)))
          by_cases hneg : v < 0
          · have HN1 := Lib.hid (HN.out hneg)
            clear HN HP
            go_wp2_with fail
            go_roundw
            case rel => exact ⟨j + 1, _, by omega, by go_num, HN1, HS3.out⟩
            case measure => simp [intOf]; omega
          · have HN1 := Lib.hid (HP.out hneg)
            clear HN HP HS3
            go_wp2_with fail
            go_roundw
            case rel => exact ⟨j + 1, _, by omega, by go_num, HN1, HS2.out⟩
            case measure => simp [intOf]; omega
        · obtain rfl : j = n := by omega
          have HR2 := Lib.hid (HR.out.ext fun i hi => mx_all hi)
          go_wp2_with fail
          go_ret
          exact ⟨g, R, rfl, by omega, HR2.out, HS2.out.row, HS2.out.below⟩
end Go.Proofs.YtfohinlldchdpaaGreatDoor.Sh
end

section
/- Slices of strings of the function's own: what they hold, one more appended. For every package. -/
set_option maxRecDepth 100000
set_option linter.unusedVariables false
namespace Go.Proofs.YtfohinlldchdpaaGreatDoor.Row
open Go.RowKit

def sgL (G : Nat → ByteArray) (n : Nat) : List Value := (List.range n).map fun i => .string (G i)
theorem sgL_length (G : Nat → ByteArray) (n : Nat) : (sgL G n).length = n := by unfold sgL; simp
theorem sgL_get (G : Nat → ByteArray) (n i : Nat) (hi : i < n) : (sgL G n)[i]? = some (.string (G i)) := by unfold sgL; simp [hi]
/-- 'a, n, c' is a slice of its own, of n strings. -/
def Sgs (w : World) (B : Nat) (a : Option Addr) (n c : Nat) (G : Nat → ByteArray) : Prop := w.ownsRow B 9 1 (.slice a n c) n (sgL G n)
theorem Sgs.nil (w : World) (B : Nat) (G : Nat → ByteArray) : Sgs w B none 0 0 G := ⟨by rw [sgL_length], .inl ⟨rfl, rfl⟩⟩
theorem Sgs.below {w w' : World} {B n c : Nat} {a : Option Addr} {G : Nat → ByteArray} (h : Sgs w B a n c G) (hb : Below w.heap.size w w') : Sgs w' B a n c G := owns_below h hb
theorem Sgs.wide {w : World} {B B' n c : Nat} {a : Option Addr} {G : Nat → ByteArray} (h : Sgs w B a n c G) (hB : B' ≤ B) : Sgs w B' a n c G := by
  obtain ⟨h1, h2 | ⟨g, cap, cur, e, h3, h4⟩⟩ := h
  · exact ⟨h1, .inl h2⟩
  · exact ⟨h1, .inr ⟨g, cap, cur, e, by omega, h4⟩⟩
/-- What leaves its block on. -/
theorem Sgs.keep {w w' : World} {B n c : Nat} {a : Option Addr} {G : Nat → ByteArray} (h : Sgs w B a n c G) (hk : ∀ g, (Value.slice a n c).ownBlock = some g → w'.heap[g]? = w.heap[g]?) : Sgs w' B a n c G := by
  obtain ⟨h1, h2 | ⟨g, cap, cur, e, h3, h4, h5⟩⟩ := h
  · exact ⟨h1, .inl h2⟩
  · refine ⟨h1, .inr ⟨g, cap, cur, e, h3, ?_, h5⟩⟩
    rw [hk g (by rw [e]; rfl)]; exact h4
theorem Sgs.block {w : World} {B n c : Nat} {a : Option Addr} {G : Nat → ByteArray} (h : Sgs w B a n c G) (k : Nat) (hk : (Value.slice a n c).ownBlock = some k) : B ≤ k ∧ k < w.heap.size := by
  obtain ⟨_, ⟨e, _⟩ | ⟨g, cap, cur, e, h3, h4, _⟩⟩ := h
  · rw [e] at hk; cases hk
  · rw [e] at hk
    simp only [Value.ownBlock, Option.some.injEq] at hk
    subst hk
    exact ⟨h3, (Array.getElem?_eq_some_iff.1 h4).1⟩
theorem Sgs.setRow {w : World} {B n c b : Nat} {a : Option Addr} {G : Nat → ByteArray} (h : Sgs w B a n c G) (hb : b < B) (C : Array Value) : Sgs (w.setRow b C) B a n c G :=
  h.keep fun g hg => by
    have hne : b ≠ g := by have := (h.block g hg).1; omega
    unfold World.setRow
    simp [Array.getElem?_modify, hne]
theorem Sgs.addr {w : World} {B n c : Nat} {a : Option Addr} {G : Nat → ByteArray} (h : Sgs w B a n c G) (hn : 0 < n) : ∃ g, a = some ⟨g, 0, none⟩ ∧ B ≤ g ∧ g < w.heap.size := by
  obtain ⟨_, h2 | ⟨g, cap, cur, e, h3, h4, _⟩⟩ := h
  · omega
  · simp only [Value.slice.injEq] at e
    exact ⟨g, e.1, h3, (Array.getElem?_eq_some_iff.1 h4).1⟩
theorem Sgs.cap {w : World} {B n c : Nat} {a : Option Addr} {G : Nat → ByteArray} (h : Sgs w B a n c G) : n ≤ c ∧ c ≤ maxLen := by
  obtain ⟨_, ⟨e, h0⟩ | ⟨g, cap, cur, e, _, _, h5, h6, _⟩⟩ := h
  · simp only [Value.slice.injEq] at e
    rw [h0, e.2.2]; exact ⟨by omega, by unfold maxLen; omega⟩
  · simp only [Value.slice.injEq] at e
    rw [e.2.2]; exact ⟨h5, h6⟩
theorem Sgs.cell {w : World} {B n c g i : Nat} {G : Nat → ByteArray} (h : Sgs w B (some ⟨g, 0, none⟩) n c G) (hi : i < n) : w.cell? ⟨g, i, none⟩ = some (.string (G i)) := by
  have := World.ownsRow.cells h (g := g) rfl i _ (sgL_get G n i hi)
  rw [Go.WideShapes.add_plain, Nat.zero_add] at this
  exact this
theorem Sgs.ext {w : World} {B n c : Nat} {a : Option Addr} {G H : Nat → ByteArray} (h : Sgs w B a n c G) (e : ∀ i, i < n → G i = H i) : Sgs w B a n c H := by
  have : sgL G n = sgL H n := by
    unfold sgL
    refine List.map_congr_left fun q hq => ?_
    rw [e q (List.mem_range.1 hq)]
  unfold Sgs; rw [← this]; exact h

end Go.Proofs.YtfohinlldchdpaaGreatDoor.Row
end

section
/- Slices of blocks (16 numbers each, by value) of the function's own: what they hold, one more appended, a slice of one block written out. For every package. -/
set_option maxRecDepth 100000
set_option linter.unusedVariables false
namespace Go.Proofs.YtfohinlldchdpaaGreatDoor.Row
open Go.RowKit

/-- A row that grows changes no block but its own. -/
theorem At.grown {w w' : World} {b : Nat} {A : Array Value} {t : TypeId} {row : Option Nat} (hA : At w b A t) (h : w.grownBy w' row) (hr : row ≠ some b) : At w' b A t :=
  (h.block b hA.lt fun e => hr e.symm).trans hA

end Go.Proofs.YtfohinlldchdpaaGreatDoor.Row
end

section
/- Slices of blocks in regions: an index, a block or a number loaded, whether the region draws its order or not. For every package. -/
set_option maxRecDepth 100000
set_option linter.unusedVariables false
namespace Go.Proofs.YtfohinlldchdpaaGreatDoor.Row
open Go.RowKit

theorem run_bj {t : TypeId} {g o k m : Nat} (hu : Tryz.prog.underlying t = some (.array m 3)) (hk : k < m) (w : World) :
    (Instr.indexAt t (.pointer (some ⟨g, o, none⟩)) (.int .i64 k)).run Tryz.prog w = .ok (.pointer (some ⟨g, o + k, none⟩)) w := by
  have h : (0 : Int) ≤ (k : Int) ∧ (k : Int) < (m : Int) := by omega
  unfold Instr.indexAt
  simp only [Sem.run_bind, asIntOf, Sem.run_pure, Result.andThen_ok, Instr.sureAddr, run_underlying hu, if_pos h, sizeOf_int]
  simp only [Addr.add, Nat.mul_one, Int.toNat_natCast]
  split <;> simp_all
section
variable {ops : Array Oper} {S : World → Prop} {a : Act} {oi : Oper}
theorem y_bj {t : TypeId} {y z : Operand} {g o k m : Nat} {x : Int} (hw : Region.wanted oi (yielded ops a.tmps) = true) (ho : oi.op = .indexAddr t y z) (hu : Tryz.prog.underlying t = some (.array m 3)) (hy : a.eval y = .pointer (some ⟨g, o, none⟩)) (hz : a.eval z = .int .i64 x)
    (hx : x = k) (hk : k < m) : YieldsIf Tryz.prog ops S oi (.pointer (some ⟨g, o + k, none⟩)) a :=
  y_run hw fun w => by
    subst hx
    unfold execOp
    simp only [ho, hy, hz, run_bj hu hk, Sem.run_bind, Result.andThen_ok, Sem.run_pure]
theorem y_load_range {ty : TypeId} {x : Operand} (hw : Region.wanted oi (yielded ops a.tmps) = true) (ho : oi.op = .load ty x) {g l : Nat} (hx : a.eval x = .pointer (some ⟨g, l, none⟩)) {U : Array Value} (hc : ∀ w, S w → w.rangeAt g l U.toList)
    {d : TypeDesc} (hu : Tryz.prog.underlying ty = some d) (hd : d.isRow = true) (hi : (Tryz.prog.info? ty).map (·.size) = some U.size) : YieldsIf Tryz.prog ops S oi (.agg U) a := by
  have := yieldsIf_load_mid (P := Tryz.prog) (S := S) hw ty x ho g l hx U.toList d hc hu hd (by rw [Array.length_toList]; exact hi)
  rwa [Array.toArray_toList] at this
end
end Go.Proofs.YtfohinlldchdpaaGreatDoor.Row
end

section
/- Slices of cells of the function's own. -/
set_option maxRecDepth 100000
set_option linter.unusedVariables false
namespace Go.Proofs.YtfohinlldchdpaaGreatDoor.Rg
open Go.RowKit Go.Proofs.YtfohinlldchdpaaGreatDoor.Row

def cvals (L : List Cl) : List Value := L.flatMap fun c => [.int .i64 c.s, .int .i64 c.w, .int .i64 c.t]

theorem cvals_append (L M : List Cl) : cvals (L ++ M) = cvals L ++ cvals M := by unfold cvals; rw [List.flatMap_append]

theorem cvals_get : ∀ (L : List Cl) (i : Nat) (c : Cl), L[i]? = some c → (cvals L)[i * 3]? = some (.int .i64 c.s) ∧ (cvals L)[i * 3 + 1]? = some (.int .i64 c.w) ∧ (cvals L)[i * 3 + 2]? = some (.int .i64 c.t)
  | [], i, c, h => by simp at h
  | d :: L, 0, c, h => by
    have : d = c := by simpa using h
    subst this
    exact ⟨rfl, rfl, rfl⟩
  | d :: L, i + 1, c, h => by
    obtain ⟨h1, h2, h3⟩ := cvals_get L i c (by simpa using h)
    have e : cvals (d :: L) = [.int .i64 d.s, .int .i64 d.w, .int .i64 d.t] ++ cvals L := rfl
    rw [e]
    refine ⟨?_, ?_, ?_⟩
    · rw [List.getElem?_append_right (by simp; omega), show (i + 1) * 3 - [Value.int .i64 d.s, .int .i64 d.w, .int .i64 d.t].length = i * 3 by simp; omega]; exact h1
    · rw [List.getElem?_append_right (by simp; omega), show (i + 1) * 3 + 1 - [Value.int .i64 d.s, .int .i64 d.w, .int .i64 d.t].length = i * 3 + 1 by simp; omega]; exact h2
    · rw [List.getElem?_append_right (by simp; omega), show (i + 1) * 3 + 2 - [Value.int .i64 d.s, .int .i64 d.w, .int .i64 d.t].length = i * 3 + 2 by simp; omega]; exact h3

/-- A slice of its own: the cells L. -/
def Cls (w : World) (B : Nat) (a : Option Addr) (n c : Nat) (L : List Cl) : Prop := L.length = n ∧ w.ownsRow B 92 3 (.slice a n c) n (cvals L)

theorem Cls.nil (w : World) (B : Nat) : Cls w B none 0 0 [] := ⟨rfl, rfl, .inl ⟨rfl, rfl⟩⟩

theorem Cls.below {w w' : World} {B n c : Nat} {a : Option Addr} {L : List Cl} (h : Cls w B a n c L) (hb : Below w.heap.size w w') : Cls w' B a n c L := ⟨h.1, owns_below h.2 hb⟩

theorem Cls.addr {w : World} {B n c : Nat} {a : Option Addr} {L : List Cl} (h : Cls w B a n c L) (hn : 0 < n) : ∃ g, a = some ⟨g, 0, none⟩ ∧ B ≤ g := by
  obtain ⟨_, h1, h2 | ⟨g', cap, cur, e1, h3, h4, _⟩⟩ := h
  · have := h2.2; omega
  · simp only [Value.slice.injEq] at e1
    exact ⟨g', e1.1, h3⟩

theorem Cls.at {w : World} {B n c g i : Nat} {L : List Cl} {C : Cl} (h : Cls w B (some ⟨g, 0, none⟩) n c L) (hi : L[i]? = some C) :
    w.cell? ⟨g, i * 3, none⟩ = some (.int .i64 C.s) ∧ w.cell? ⟨g, i * 3 + 1, none⟩ = some (.int .i64 C.w) ∧ w.cell? ⟨g, i * 3 + 2, none⟩ = some (.int .i64 C.t) := by
  obtain ⟨h1, h2, h3⟩ := cvals_get L i C hi
  have key : ∀ (j : Nat) (v : Value), (cvals L)[j]? = some v → w.cell? ⟨g, j, none⟩ = some v := fun j v hv => by
    have := World.ownsRow.cells h.2 (g := g) rfl j v hv
    rw [Go.WideShapes.add_plain, Nat.zero_add] at this
    exact this
  exact ⟨key _ _ h1, key _ _ h2, key _ _ h3⟩

theorem info_cell : ∃ i, Tryz.prog.info? 92 = some i ∧ i.zero = some (.agg #[.int .i64 0, .int .i64 0, .int .i64 0]) ∧ i.size = 3 ∧ i.bytes = 24 := info_parts (by kernel_rfl)

/-- 'p = append(p, y)', one cell. -/
theorem wpList_append_cell {ops : Array Oper} {rest : List Oper} {o : Oper} {a : Act} {w : World} {Q : Exit → Act → World → Prop} (hgd : o.guard = none) (s x : Operand)
    (ho : o.op = .call { callee := .builtin .append, args := #[s, x], argTypes := #[96, 96] })
    (B : Nat) (L : List Cl) (y : Cl) (ao : Option Addr) (n c : Nat) (hs : a.eval s = .slice ao n c) (hown : Cls w B ao n c L)
    (b : Nat) (hx : a.eval x = .slice (some ⟨b, 0, none⟩) 1 1) (hnew : At w b #[.int .i64 y.s, .int .i64 y.w, .int .i64 y.t] 92) (hn : n + 1 ≤ 1000000) (hB : B ≤ w.heap.size)
    (h : ∀ a' c' w', Cls w' B a' (n + 1) c' (L ++ [y]) → Below B w w' → w.grownBy w' (Value.slice ao n c).ownBlock → wpList Tryz.prog ops Q rest (a.put o.dst (.slice a' (n + 1) c')) w') : wpList Tryz.prog ops Q (o :: rest) a w := by
  obtain ⟨i, hi, hz, hsz, hby⟩ := info_cell
  have e1 : cvals [y] = [.int .i64 y.s, .int .i64 y.w, .int .i64 y.t] := rfl
  refine wpList_append_own_at w hgd s x 96 ho B 92 i _ 3 24 Tryz.underlying96 hi hz hsz hby rfl (by decide) (.slice ao n c) n (cvals L) hs hown.2 ⟨b, 0, none⟩ 1 1 (cvals [y]) hx rfl ?_ ?_ (by unfold maxLen; omega) (by omega) hB ?_
  · intro j u hj
    rw [Go.WideShapes.add_plain, Nat.zero_add, hnew.cell]
    rw [e1] at hj
    simpa using hj
  · intro u hu
    rw [e1] at hu
    simp at hu
    rcases hu with rfl | rfl | rfl <;> rfl
  · intro v' w' hown' hg _ hat
    rw [← cvals_append] at hown'
    obtain ⟨_, h2⟩ := id hown'
    rcases h2 with ⟨_, h0⟩ | ⟨g, c', cur, rfl, _⟩
    · omega
    · refine h _ c' w' ⟨by rw [List.length_append, hown.1]; rfl, hown'⟩ ((Below.refl B w).grown hg hB fun k hk => ?_) hg
      rcases hown.2.2 with ⟨h3, _⟩ | ⟨g3, _, _, h3, h4, _⟩
      · rw [h3] at hk; cases hk
      · rw [h3] at hk
        simp only [Value.ownBlock, Option.some.injEq] at hk
        omega

def RetCls (w : World) (L : List Cl) (e : Ending) (w' : World) : Prop := ∃ a c, e = .returned (.slice a L.length c) ∧ Cls w' w.heap.size a L.length c L ∧ Below w.heap.size w w'
end Go.Proofs.YtfohinlldchdpaaGreatDoor.Rg
end
