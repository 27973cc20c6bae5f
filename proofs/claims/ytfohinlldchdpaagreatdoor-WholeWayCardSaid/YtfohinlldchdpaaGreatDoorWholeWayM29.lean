/- Texts of the walk, one behind the other. -/
import Derived.Test.YtfohinlldchdpaaGreatDoorWholeWayM28
import Derived.Test.YtfohinlldchdpaaGreatDoorWholeWayM3

section
/- Contract of shape's found. -/
set_option maxRecDepth 100000
set_option linter.unusedVariables false
namespace Go.Proofs.YtfohinlldchdpaaGreatDoor.Sh
open Go.RowKit Go.Proofs.YtfohinlldchdpaaGreatDoor.Row

/-- The row of pulses. -/
def yI (x : Nat → Int) (n k i : Nat) : Int := yS (sz x) n k i
theorem yI_zero (x : Nat → Int) (n i : Nat) : (0 : Int) = yI x n 0 i := rfl
theorem yI_next (x : Nat → Int) (n k i : Nat) : (if i = bS (sz x) n k n then yI x n k (bS (sz x) n k n) + 1 else yI x n k i) = yI x n (k + 1) i := by
  unfold yI
  rw [y_next]
  by_cases h : i = bS (sz x) n k n
  · rw [if_pos h, if_pos h, h]; rfl
  · rw [if_neg h, if_neg h]

/-- What stands while pulses are found: the waves' slice, the row, its slice, a, q. -/
structure FdS (W : World) (h b o n c : Nat) (x : Nat → Int) (R : Array Value) (A Q : Nat) (w : World) : Prop where
  below : Below W.heap.size W w
  hh : W.heap.size = h
  wave : ∀ i, i < n → w.cell? ⟨b, o + i, none⟩ = some (.int .i64 (x i))
  bl : b < h
  box : At w h #[.slice (some ⟨b, o, none⟩) n c] 68
  row : At w (h + 1) R 3
  sl : At w (h + 2) #[.slice (some ⟨h + 1, 0, none⟩) n n] 68
  a : At w (h + 3) #[.int .i64 A] 3
  q : At w (h + 4) #[.int .i64 Q] 3

theorem FdS.drewN {W w : World} {h b o n c A Q : Nat} {x : Nat → Int} {R : Array Value} (s : FdS W h b o n c x R A Q w) (k : Nat) : FdS W h b o n c x R A Q (w.drewN k) :=
  ⟨below_drewN s.below k, s.hh, s.wave, s.bl, s.box, s.row, s.sl, s.a, s.q⟩
theorem FdS.wth {W w : World} {h b o n c A Q k : Nat} {x : Nat → Int} {R : Array Value} (s : FdS W h b o n c x R A Q w) (hR : IsRow n (yI x n k) R) : Wth w (h + 3) h (h + 4) (h + 2) b o n c (h + 1) A Q x (yS (sz x) n k) :=
  ⟨by rw [s.a.cell]; rfl, by rw [s.box.cell]; rfl, by rw [s.q.cell]; rfl, by rw [s.sl.cell]; rfl, s.wave, fun i hi => hR.cell s.row i hi⟩
theorem FdS.setA {W w : World} {h b o n c A Q : Nat} {x : Nat → Int} {R : Array Value} (s : FdS W h b o n c x R A Q w) (v : Nat) : FdS W h b o n c x R v Q (w.setCell ⟨h + 3, 0, none⟩ (.int .i64 v)) := by
  have := s.bl
  have := s.hh
  exact ⟨s.below.setCell (by dsimp only; omega) _, s.hh, fun i hi => (cell_set_other _ _ _ _ (by dsimp only; omega)).trans (s.wave i hi), s.bl, s.box.setCell_other (by dsimp only; omega), s.row.setCell_other (by dsimp only; omega), s.sl.setCell_other (by dsimp only; omega), s.a.setCell, s.q.setCell_other (by dsimp only; omega)⟩
theorem FdS.setQ {W w : World} {h b o n c A Q : Nat} {x : Nat → Int} {R : Array Value} (s : FdS W h b o n c x R A Q w) (v : Nat) : FdS W h b o n c x R A v (w.setCell ⟨h + 4, 0, none⟩ (.int .i64 v)) := by
  have := s.bl
  have := s.hh
  exact ⟨s.below.setCell (by dsimp only; omega) _, s.hh, fun i hi => (cell_set_other _ _ _ _ (by dsimp only; omega)).trans (s.wave i hi), s.bl, s.box.setCell_other (by dsimp only; omega), s.row.setCell_other (by dsimp only; omega), s.sl.setCell_other (by dsimp only; omega), s.a.setCell_other (by dsimp only; omega), s.q.setCell⟩
theorem FdS.setR {W w : World} {h b o n c A Q : Nat} {x : Nat → Int} {R : Array Value} (s : FdS W h b o n c x R A Q w) (i : Nat) (v : Value) : FdS W h b o n c x (R.setIfInBounds i v) A Q (w.setCell ⟨h + 1, i, none⟩ v) := by
  have := s.bl
  have := s.hh
  exact ⟨s.below.setCell (by dsimp only; omega) _, s.hh, fun i hi => (cell_set_other _ _ _ _ (by dsimp only; omega)).trans (s.wave i hi), s.bl, s.box.setCell_other (by dsimp only; omega), s.row.setCell, s.sl.setCell_other (by dsimp only; omega), s.a.setCell_other (by dsimp only; omega), s.q.setCell_other (by dsimp only; omega)⟩

theorem FdS.start {W : World} {b o n c : Nat} {x : Nat → Int} (R : Array Value) (hc : ∀ i, i < n → W.cell? ⟨b, o + i, none⟩ = some (.int .i64 (x i))) (hb : b < W.heap.size) :
    FdS W W.heap.size b o n c x R 0 0 (((((W.alloc (.cells #[.slice (some ⟨b, o, none⟩) n c] 68)).alloc (.cells R 3)).alloc (.cells #[.slice (some ⟨W.heap.size + 1, 0, none⟩) n n] 68)).alloc (.cells #[.int .i64 0] 3)).alloc (.cells #[.int .i64 0] 3)) := by
  have z0 := At.new W #[.slice (some ⟨b, o, none⟩) n c] 68
  obtain ⟨w1, h1⟩ : ∃ w1, W.alloc (.cells #[.slice (some ⟨b, o, none⟩) n c] 68) = w1 := ⟨_, rfl⟩
  have s1 : w1.heap.size = W.heap.size + 1 := by rw [← h1]; simp
  have b1 : Below W.heap.size W w1 := by rw [← h1]; exact (Below.refl _ _).alloc (Nat.le_refl _) _
  rw [h1] at z0 ⊢
  have z1 := At.new w1 R 3
  rw [s1] at z1
  obtain ⟨w2, h2⟩ : ∃ w2, w1.alloc (.cells R 3) = w2 := ⟨_, rfl⟩
  have z0 := z0.alloc (.cells R 3)
  have s2 : w2.heap.size = W.heap.size + 2 := by rw [← h2]; simp [s1]
  have b2 : Below W.heap.size W w2 := by rw [← h2]; exact b1.alloc (by omega) _
  rw [h2] at z0 z1 ⊢
  have z2 := At.new w2 #[.slice (some ⟨W.heap.size + 1, 0, none⟩) n n] 68
  rw [s2] at z2
  obtain ⟨w3, h3⟩ : ∃ w3, w2.alloc (.cells #[.slice (some ⟨W.heap.size + 1, 0, none⟩) n n] 68) = w3 := ⟨_, rfl⟩
  have z0 := z0.alloc (.cells #[.slice (some ⟨W.heap.size + 1, 0, none⟩) n n] 68)
  have z1 := z1.alloc (.cells #[.slice (some ⟨W.heap.size + 1, 0, none⟩) n n] 68)
  have s3 : w3.heap.size = W.heap.size + 3 := by rw [← h3]; simp [s2]
  have b3 : Below W.heap.size W w3 := by rw [← h3]; exact b2.alloc (by omega) _
  rw [h3] at z0 z1 z2 ⊢
  have z3 := At.new w3 #[.int .i64 0] 3
  rw [s3] at z3
  obtain ⟨w4, h4⟩ : ∃ w4, w3.alloc (.cells #[.int .i64 0] 3) = w4 := ⟨_, rfl⟩
  have z0 := z0.alloc (.cells #[.int .i64 0] 3)
  have z1 := z1.alloc (.cells #[.int .i64 0] 3)
  have z2 := z2.alloc (.cells #[.int .i64 0] 3)
  have s4 : w4.heap.size = W.heap.size + 4 := by rw [← h4]; simp [s3]
  have b4 : Below W.heap.size W w4 := by rw [← h4]; exact b3.alloc (by omega) _
  rw [h4] at z0 z1 z2 z3 ⊢
  have z4 := At.new w4 #[.int .i64 0] 3
  rw [s4] at z4
  have b5 := b4.alloc (show W.heap.size ≤ w4.heap.size by omega) (.cells #[.int .i64 0] 3)
  exact ⟨b5, rfl, fun i hi => (Below.cell b5 hb).trans (hc i hi), hb, z0.alloc _, z1.alloc _, z2.alloc _, z3.alloc _, z4⟩

/-- A new row of pulses is handed back. -/
def RetRow (w w' : World) (e : Ending) (n : Nat) (f : Nat → Int) : Prop := ∃ g U, e = .returned (.slice (some ⟨g, 0, none⟩) n n) ∧ w.heap.size ≤ g ∧ IsRow n f U ∧ At w' g U 3 ∧ Below w.heap.size w w'

set_option maxHeartbeats 800000 in
theorem found_as (b o n c K : Nat) (x : Nat → Int) (W : World) (hc : ∀ i, i < n → W.cell? ⟨b, o + i, none⟩ = some (.int .i64 (x i))) (h0 : 0 < n) (h8 : n ≤ 8) (hx : ∀ i, i < n → -1048576 ≤ x i ∧ x i ≤ 1048576) (hK : K ≤ 8) :
    Calls Tryz.prog 199 #[.slice (some ⟨b, o, none⟩) n c, .int .i64 K] W fun e w' => RetRow W w' e n (yI x n K) := by
  have hmf : ∀ (fn : Fn) (first cap : Array Value) (w : World), (Instr.makeFunc fn first cap).run Tryz.prog w = .ok (.func fn first cap) w := fun _ _ _ _ => rfl
  have HS := Lib.hid (FdS.start (c := c) (rowL n (fun _ => 0) 0) hc (block_lt_of_cell (hc 0 h0)))
  have HR := Lib.hid (show IsRow n (yI x n 0) (rowL n (fun _ => 0) 0) by rw [row_of0]; exact isRow_zero n)
  have HX := Lib.hid hx
  clear hc hx
  go_enter Tryz.func199, Tryz.ntmps199
  go_wp2_with (at_make; refine wpList_make_rowL (fun _ => 0) rfl _ _ rfl n _ _ rfl rfl (by omega) ?_)
  obtain ⟨h, hh⟩ : ∃ h, W.heap.size = h := ⟨_, rfl⟩
  rw [hh] at HS ⊢
  go_loopw [16] (fun i w' => ∃ (k : Nat) (R : Array Value), k ≤ K ∧ i = .int .i64 k ∧ Hid (IsRow n (yI x n k) R) ∧ FdS W h b o n c x R (aS (sz x) n k) (qS (sz x) n k) w') (fun i _ => K - (intOf i).toNat)
  case atStart => exact ⟨0, _, Nat.zero_le _, rfl, HR, HS.out⟩
  case round =>
    obtain ⟨k, R, hk, rfl, HR1, hs⟩ := hrel
    have HS1 := Lib.hid hs
    have c1 : wr.cell? ⟨h, 0, none⟩ = some (.slice (some ⟨b, o, none⟩) n c) := by rw [hs.box.cell]; rfl
    have c2 : wr.cell? ⟨h + 2, 0, none⟩ = some (.slice (some ⟨h + 1, 0, none⟩) n n) := by rw [hs.sl.cell]; rfl
    clear hs HS HR
    by_cases hlt : k < K
    · have hA : aS (sz x) n k ≤ 8388608 := by
        have := a_le (U := 1048576) h0 (fun i hi => show sz x i ≤ 1048576 by have := HX.out i hi; unfold sz; omega) k
        omega
      have hQ : qS (sz x) n k ≤ 64 := Nat.le_trans (q_le _ _ _) (Nat.mul_le_mul (show k ≤ 8 by omega) (show k ≤ 8 by omega))
      have hY : ∀ i, yS (sz x) n k i ≤ 8 := fun i => Nat.le_trans (y_le _ _ _ _) (by omega)
      have HB := Lib.hid (fun j i w (hj : j < n) (hi : i < n) hw => better_as w (h + 3) h (h + 4) (h + 2) b o n c (h + 1) (aS (sz x) n k) (qS (sz x) n k) j i x (yS (sz x) n k) hw hj hi HX.out hA hQ hY)
      have HW := Lib.hid (fun i u p w (hi : i < n) hu hp hw => with_as w (h + 3) h (h + 4) (h + 2) b o n c (h + 1) (aS (sz x) n k) (qS (sz x) n k) i u p x (yS (sz x) n k) hw hi (HX.out i hi) hA hQ hu hp (hp ▸ hY i))
      have HAN := Lib.hid (a_next (sz x) n k)
      have HQN := Lib.hid (q_next (sz x) n k)
      have hY2 := Lib.hid hY
      have hlb := Lib.hid (b_lt (u := sz x) (k := k) (Nat.le_refl n) h0)
      obtain ⟨A, eA⟩ : ∃ A, aS (sz x) n k = A := ⟨_, rfl⟩
      obtain ⟨Q, eQ⟩ : ∃ Q, qS (sz x) n k = Q := ⟨_, rfl⟩
      rw [eA] at hA HB HW HAN HS1
      rw [eQ] at hQ HB HW HQN HS1
      clear hY
      go_wp2_with fail
      go_loopw [9, 20] (fun m i w' => ∃ j : Nat, j ≤ n ∧ i = .int .i64 j ∧ m = .int .i64 (bS (sz x) n k j) ∧ FdS W h b o n c x R A Q w') (fun _ i _ => n - (intOf i).toNat)
      case atStart => exact ⟨0, Nat.zero_le _, rfl, rfl, HS1.out⟩
      case round =>
        obtain ⟨j, hj, rfl, rfl, hs⟩ := hrel
        have HS2 := Lib.hid hs
        clear hs HS1
        by_cases hlt2 : j < n
        · have HN := Lib.hid (b_next (sz x) n k j)
          have HC := Lib.hid (HB.out j (bS (sz x) n k j) wr hlt2 (b_lt (by omega) h0) (HS2.out.wth HR1.out))
          rw [eA, eQ] at HN
          obtain ⟨m, hm⟩ : ∃ m, bS (sz x) n k j = m := ⟨_, rfl⟩
          rw [hm] at HN HC ⊢
          obtain ⟨r, hr⟩ : ∃ r, bt (sz x) (yS (sz x) n k) A Q j m = r := ⟨_, rfl⟩
          rw [hr] at HN HC
          clear hr
          go_wp2_with fail
          refine HC.out.mono ?_
          rintro e w1 ⟨rfl, d, rfl⟩
          have HS3 := Lib.hid (HS2.out.drewN d)
          clear HC HS2
          cases r
          · go_wp2_with fail
            go_roundw
            case rel => exact ⟨j + 1, by omega, by go_num, by rw [HN.out]; rfl, HS3.out⟩
            case measure => simp [intOf]; omega
          · go_wp2_with fail
            go_roundw
            case rel => exact ⟨j + 1, by omega, by go_num, by rw [HN.out]; rfl, HS3.out⟩
            case measure => simp [intOf]; omega
        · obtain rfl : j = n := by omega
          clear HB
          have hm := hlb.out
          have HC := Lib.hid (HW.out (bS (sz x) j k j) (sz x (bS (sz x) j k j)) (yS (sz x) j k (bS (sz x) j k j)) wr hm rfl rfl (HS2.out.wth HR1.out))
          have HR2 := Lib.hid ((HR1.out.set (yI x j k (bS (sz x) j k j) + 1) hm).ext fun i _ => yI_next x j k i)
          have hp8 := hY2.out (bS (sz x) j k j)
          have cr := HR1.out.cell (HS2.out.row) (bS (sz x) j k j) hm
          rw [show yI x j k (bS (sz x) j k j) = ((yS (sz x) j k (bS (sz x) j k j) : Nat) : Int) from rfl] at HR2 cr
          obtain ⟨p, hp⟩ : ∃ p, yS (sz x) j k (bS (sz x) j k j) = p := ⟨_, rfl⟩
          rw [hp] at HC HR2 hp8 cr HQN
          obtain ⟨m, hme⟩ : ∃ m, bS (sz x) j k j = m := ⟨_, rfl⟩
          rw [hme] at HC HR2 hm cr HAN ⊢
          obtain ⟨u, hu⟩ : ∃ u, sz x m = u := ⟨_, rfl⟩
          rw [hu] at HC HAN
          clear hp hme hu HW hlb hY2 c1 c2
          go_wp2_with fail
          refine HC.out.mono ?_
          rintro e w1 ⟨rfl, d, rfl⟩
          have HS3 := Lib.hid (HS2.out.drewN d)
          clear HC HS2
          obtain ⟨w1, hw1⟩ : ∃ w1, wr.drewN d = w1 := ⟨_, rfl⟩
          have cr1 : w1.cell? ⟨h + 1, m, none⟩ = some (.int .i64 p) := by rw [← hw1]; exact cr
          rw [hw1] at HS3 ⊢
          clear cr hw1
          have f0 := HS3.out.a.frozen 0
          have f1 := HS3.out.q.frozen 0
          have f2 := HS3.out.row.frozen m
          have k0 := HS3.out.a.cell 0
          have k1 := HS3.out.q.cell 0
          have k2 := HS3.out.sl.cell 0
          simp only [List.getElem?_toArray, List.getElem?_cons_zero] at k0 k1 k2
          have HS4 := Lib.hid (((HS3.out.setA (A + u)).setQ (Q + 2 * p + 1)).setR m (.int .i64 ((p : Int) + 1)))
          rw [show ((A + u : Nat) : Int) = (A : Int) + u by omega, show ((Q + 2 * p + 1 : Nat) : Int) = (Q : Int) + 2 * p + 1 by omega] at HS4
          clear HS3
          go_wp2_with fail
          go_roundw
          case rel => exact ⟨k + 1, _, by omega, by go_num, HR2, by rw [HAN.out, HQN.out]; exact HS4.out⟩
          case measure => simp [intOf]; omega
    · obtain rfl : k = K := by omega
      have HB2 := Lib.hid HS1.out.below
      have HG := Lib.hid HS1.out.row
      have hle : W.heap.size ≤ h + 1 := by omega
      go_wp2_with fail
      go_ret
      exact ⟨h + 1, R, rfl, hle, HR1.out, HG.out, HB2.out⟩
end Go.Proofs.YtfohinlldchdpaaGreatDoor.Sh
end

section
/- Contracts of shape's Find and Gain. -/
set_option maxRecDepth 100000
set_option linter.unusedVariables false
namespace Go.Proofs.YtfohinlldchdpaaGreatDoor.Sh
open Go.RowKit Go.Proofs.YtfohinlldchdpaaGreatDoor.Row

theorem find_no (a : Option Addr) (n c : Nat) (x : Nat → Int) (k : Int) (W : World) (hS : Sl .i64 W a n c x) (h : okC x n = false ∨ k < 0 ∨ 8 < k) :
    Calls Tryz.prog 171 #[.slice a n c, .int .i64 k] W fun e w' => e = .returned (.tuple #[.slice none 0 0, .int .i64 1]) ∧ W = w' := by
  have HC := Lib.hid (searched_any a n c x W hS)
  clear hS
  rcases hr : okC x n with _ | _
  · rw [hr] at HC
    clear h hr
    go_enter Tryz.func171, Tryz.ntmps171
    go_wp2_with fail
    refine HC.out.mono ?_
    rintro e w1 ⟨rfl, rfl⟩
    go_wp2_with fail
    go_ret2
    exact ⟨rfl, rfl⟩
  · rw [hr] at HC
    have h : k < 0 ∨ 8 < k := by
      rcases h with h | h
      · rw [hr] at h; cases h
      · exact h
    clear hr
    by_cases h1 : k < 0
    · clear h
      go_enter Tryz.func171, Tryz.ntmps171
      go_wp2_with fail
      refine HC.out.mono ?_
      rintro e w1 ⟨rfl, rfl⟩
      go_wp2_with fail
      go_ret2
      exact ⟨rfl, rfl⟩
    · have h2 : 8 < k := by omega
      clear h
      go_enter Tryz.func171, Tryz.ntmps171
      go_wp2_with fail
      refine HC.out.mono ?_
      rintro e w1 ⟨rfl, rfl⟩
      go_wp2_with fail
      go_ret2
      exact ⟨rfl, rfl⟩

/-- The first k numbers have their signs. -/
def mx (x : Nat → Int) (n K k i : Nat) : Int := if i < k then fS x n K i else yI x n K i
theorem mx_zero (x : Nat → Int) (n K i : Nat) : yI x n K i = mx x n K 0 i := by unfold mx; rw [if_neg (by omega)]
theorem mx_all {x : Nat → Int} {n K i : Nat} (h : i < n) : mx x n K n i = fS x n K i := if_pos h
theorem mx_here (x : Nat → Int) (n K k : Nat) : mx x n K k k = yI x n K k := if_neg (by omega)
theorem mx_neg {x : Nat → Int} {n K k : Nat} (h : x k < 0) (i : Nat) : (if i = k then -(yI x n K k) else mx x n K k i) = mx x n K (k + 1) i := by
  unfold mx
  by_cases e : i = k
  · subst e
    rw [if_pos rfl, if_pos (by omega)]
    unfold fS sg yI
    rw [if_pos h]
  · rw [if_neg e]
    by_cases l : i < k
    · rw [if_pos l, if_pos (by omega)]
    · rw [if_neg l, if_neg (by omega)]
theorem mx_pos {x : Nat → Int} {n K k : Nat} (h : ¬ x k < 0) (i : Nat) : mx x n K k i = mx x n K (k + 1) i := by
  unfold mx
  by_cases e : i = k
  · subst e
    rw [if_neg (by omega), if_pos (by omega)]
    unfold fS sg yI
    rw [if_neg h]
  · by_cases l : i < k
    · rw [if_pos l, if_pos (by omega)]
    · rw [if_neg l, if_neg (by omega)]

/-- What stands while the signs are laid: the row. -/
def FnS (W : World) (g : Nat) (R : Array Value) (w' : World) : Prop := Below W.heap.size W w' ∧ At w' g R 3 ∧ W.heap.size ≤ g
theorem FnS.set {W w : World} {g : Nat} {R : Array Value} (h : FnS W g R w) (i : Nat) (v : Value) : FnS W g (R.setIfInBounds i v) (w.setCell ⟨g, i, none⟩ v) := ⟨h.1.setCell h.2.2 _, h.2.1.setCell, h.2.2⟩

/-- A new row, f's n numbers, and OK are handed back. -/
def RetVec (w w' : World) (e : Ending) (n : Nat) (f : Nat → Int) : Prop := ∃ g U, e = .returned (.tuple #[.slice (some ⟨g, 0, none⟩) n n, .int .i64 0]) ∧ w.heap.size ≤ g ∧ IsRow n f U ∧ At w' g U 3 ∧ Below w.heap.size w w'

set_option maxHeartbeats 400000 in
theorem find_yes (a : Option Addr) (n c K : Nat) (x : Nat → Int) (W : World) (hS : Sl .i64 W a n c x) (h : okC x n = true) (hK : K ≤ 8) :
    Calls Tryz.prog 171 #[.slice a n c, .int .i64 K] W fun e w' => RetVec W w' e n (fS x n K) := by
  have HC := Lib.hid (searched_any a n c x W hS)
  obtain ⟨h0, h8, hx⟩ := (okC_iff x n).1 h
  obtain ⟨b, o, rfl, hc⟩ := hS.2.2 h0
  rw [h] at HC
  have HF := Lib.hid (found_as b o n c K x W hc h0 h8 hx hK)
  have HW := Lib.hid hc
  clear hS h hx hc
  go_enter Tryz.func171, Tryz.ntmps171
  go_wp2_with fail
  refine HC.out.mono ?_
  rintro e w1 ⟨rfl, rfl⟩
  clear HC
  go_wp2_with fail
  refine HF.out.mono ?_
  rintro e w1 ⟨g, U, rfl, hg, hU, hA, hb⟩
  have HS := Lib.hid (show FnS W g U w1 from ⟨hb, hA, hg⟩)
  have HU := Lib.hid (hU.ext fun i _ => mx_zero x n K i)
  clear hg hU hA hb HF
  go_wp2_with fail
  go_loopw [25] (fun i w' => ∃ (k : Nat) (R : Array Value), k ≤ n ∧ i = .int .i64 k ∧ Hid (IsRow n (mx x n K k) R) ∧ FnS W g R w') (fun i _ => n - (intOf i).toNat)
  case atStart => exact ⟨0, U, Nat.zero_le _, rfl, HU, HS.out⟩
  case round =>
    obtain ⟨k, R, hk, rfl, HR, hs⟩ := hrel
    have HS1 := Lib.hid hs
    clear hs HS HU
    by_cases hlt : k < n
    · have c0 := (Below.cell HS1.out.1 (block_lt_of_cell (HW.out k hlt))).trans (HW.out k hlt)
      have c1 := HR.out.cell HS1.out.2.1 k hlt
      have f1 := HS1.out.2.1.frozen k
      have HN := Lib.hid (fun h => (HR.out.set (-(yI x n K k)) hlt).ext fun i _ => mx_neg h i)
      have HP := Lib.hid (fun h => HR.out.ext fun i _ => mx_pos h i)
      have hy : yI x n K k ≤ 8 ∧ 0 ≤ yI x n K k := by have := y_le (sz x) n K k; unfold yI; omega
      rw [mx_here] at c1
      obtain ⟨p, hp⟩ : ∃ p, yI x n K k = p := ⟨_, rfl⟩
      obtain ⟨v, hv⟩ : ∃ v, x k = v := ⟨_, rfl⟩
      rw [hp] at c1 hy HN
      rw [hv] at c0 HN HP
      clear hp hv
      have HS2 := Lib.hid (HS1.out.set k (.int .i64 (-p)))
      by_cases hneg : v < 0
      · have HN1 := Lib.hid (HN.out hneg)
        clear HN HP
        go_wp2_with fail
        go_roundw
        case rel => exact ⟨k + 1, _, by omega, by go_num, HN1, HS2.out⟩
        case measure => simp [intOf]; omega
      · have HN1 := Lib.hid (HP.out hneg)
        clear HN HP HS2
        go_wp2_with fail
        go_roundw
        case rel => exact ⟨k + 1, _, by omega, by go_num, HN1, HS1.out⟩
        case measure => simp [intOf]; omega
    · obtain rfl : k = n := by omega
      have HR2 := Lib.hid (HR.out.ext fun i hi => mx_all hi)
      go_wp2_with fail
      go_ret2
      exact ⟨g, R, rfl, HS1.out.2.2, HR2.out, HS1.out.2.1, HS1.out.1⟩

end Go.Proofs.YtfohinlldchdpaaGreatDoor.Sh
end
