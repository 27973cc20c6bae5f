/- Contracts of shape's Find and Gain. -/
import Derived.Test.YtncieojippiokaaShB
set_option maxRecDepth 100000
set_option linter.unusedVariables false
namespace Go.Proofs.Ytncieojippiokaa.Sh
open Go.RowKit Go.Proofs.Ytncieojippiokaa.Row

theorem find_no (a : Option Addr) (n c : Nat) (x : Nat → Int) (k : Int) (W : World) (hS : Sl .i64 W a n c x) (h : okC x n = false ∨ k < 0 ∨ 8 < k) :
    Calls Try.prog 9 #[.slice a n c, .int .i64 k] W fun e w' => e = .returned (.tuple #[.slice none 0 0, .int .i64 1]) ∧ W = w' := by
  have HC := Lib.hid (searched_any a n c x W hS)
  clear hS
  rcases hr : okC x n with _ | _
  · rw [hr] at HC
    clear h hr
    go_enter Try.func9, Try.ntmps9
    go_wp2_with fail
    refine HC.out.mono ?_
    rintro e w1 ⟨rfl, rfl⟩
    go_wp2_with fail
    go_ret2
    exact ⟨rfl, rfl⟩
  · rw [hr] at HC
    have h : k < 0 ∨ 8 < k := by
      rcases h with h | h
      · rw [hr] at h; cases h
      · exact h
    clear hr
    by_cases h1 : k < 0
    · clear h
      go_enter Try.func9, Try.ntmps9
      go_wp2_with fail
      refine HC.out.mono ?_
      rintro e w1 ⟨rfl, rfl⟩
      go_wp2_with fail
      go_ret2
      exact ⟨rfl, rfl⟩
    · have h2 : 8 < k := by omega
      clear h
      go_enter Try.func9, Try.ntmps9
      go_wp2_with fail
      refine HC.out.mono ?_
      rintro e w1 ⟨rfl, rfl⟩
      go_wp2_with fail
      go_ret2
      exact ⟨rfl, rfl⟩

/-- The first k numbers have their signs. -/
def mx (x : Nat → Int) (n K k i : Nat) : Int := if i < k then fS x n K i else yI x n K i
theorem mx_zero (x : Nat → Int) (n K i : Nat) : yI x n K i = mx x n K 0 i := by unfold mx; rw [if_neg (by omega)]
theorem mx_all {x : Nat → Int} {n K i : Nat} (h : i < n) : mx x n K n i = fS x n K i := if_pos h
theorem mx_here (x : Nat → Int) (n K k : Nat) : mx x n K k k = yI x n K k := if_neg (by omega)
theorem mx_neg {x : Nat → Int} {n K k : Nat} (h : x k < 0) (i : Nat) : (if i = k then -(yI x n K k) else mx x n K k i) = mx x n K (k + 1) i := by
  unfold mx
  by_cases e : i = k
  · subst e
    rw [if_pos rfl, if_pos (by omega)]
    unfold fS sg yI
    rw [if_pos h]
  · rw [if_neg e]
    by_cases l : i < k
    · rw [if_pos l, if_pos (by omega)]
    · rw [if_neg l, if_neg (by omega)]
theorem mx_pos {x : Nat → Int} {n K k : Nat} (h : ¬ x k < 0) (i : Nat) : mx x n K k i = mx x n K (k + 1) i := by
  unfold mx
  by_cases e : i = k
  · subst e
    rw [if_neg (by omega), if_pos (by omega)]
    unfold fS sg yI
    rw [if_neg h]
  · by_cases l : i < k
    · rw [if_pos l, if_pos (by omega)]
    · rw [if_neg l, if_neg (by omega)]

/-- What stands while the signs are laid: the row. -/
def FnS (W : World) (g : Nat) (R : Array Value) (w' : World) : Prop := Below W.heap.size W w' ∧ At w' g R 3 ∧ W.heap.size ≤ g
theorem FnS.set {W w : World} {g : Nat} {R : Array Value} (h : FnS W g R w) (i : Nat) (v : Value) : FnS W g (R.setIfInBounds i v) (w.setCell ⟨g, i, none⟩ v) := ⟨h.1.setCell h.2.2 _, h.2.1.setCell, h.2.2⟩

/-- A new row, f's n numbers, and OK are handed back. -/
def RetVec (w w' : World) (e : Ending) (n : Nat) (f : Nat → Int) : Prop := ∃ g U, e = .returned (.tuple #[.slice (some ⟨g, 0, none⟩) n n, .int .i64 0]) ∧ w.heap.size ≤ g ∧ IsRow n f U ∧ At w' g U 3 ∧ Below w.heap.size w w'

set_option maxHeartbeats 400000 in
theorem find_yes (a : Option Addr) (n c K : Nat) (x : Nat → Int) (W : World) (hS : Sl .i64 W a n c x) (h : okC x n = true) (hK : K ≤ 8) :
    Calls Try.prog 9 #[.slice a n c, .int .i64 K] W fun e w' => RetVec W w' e n (fS x n K) := by
  have HC := Lib.hid (searched_any a n c x W hS)
  obtain ⟨h0, h8, hx⟩ := (okC_iff x n).1 h
  obtain ⟨b, o, rfl, hc⟩ := hS.2.2 h0
  rw [h] at HC
  have HF := Lib.hid (found_as b o n c K x W hc h0 h8 hx hK)
  have HW := Lib.hid hc
  clear hS h hx hc
  go_enter Try.func9, Try.ntmps9
  go_wp2_with fail
  refine HC.out.mono ?_
  rintro e w1 ⟨rfl, rfl⟩
  clear HC
  go_wp2_with fail
  refine HF.out.mono ?_
  rintro e w1 ⟨g, U, rfl, hg, hU, hA, hb⟩
  have HS := Lib.hid (show FnS W g U w1 from ⟨hb, hA, hg⟩)
  have HU := Lib.hid (hU.ext fun i _ => mx_zero x n K i)
  clear hg hU hA hb HF
  go_wp2_with fail
  go_loopw [25] (fun i w' => ∃ (k : Nat) (R : Array Value), k ≤ n ∧ i = .int .i64 k ∧ Hid (IsRow n (mx x n K k) R) ∧ FnS W g R w') (fun i _ => n - (intOf i).toNat)
  case atStart => exact ⟨0, U, Nat.zero_le _, rfl, HU, HS.out⟩
  case round =>
    obtain ⟨k, R, hk, rfl, HR, hs⟩ := hrel
    have HS1 := Lib.hid hs
    clear hs HS HU
    by_cases hlt : k < n
    · have c0 := (Below.cell HS1.out.1 (block_lt_of_cell (HW.out k hlt))).trans (HW.out k hlt)
      have c1 := HR.out.cell HS1.out.2.1 k hlt
      have f1 := HS1.out.2.1.frozen k
      have HN := Lib.hid (fun h => (HR.out.set (-(yI x n K k)) hlt).ext fun i _ => mx_neg h i)
      have HP := Lib.hid (fun h => HR.out.ext fun i _ => mx_pos h i)
      have hy : yI x n K k ≤ 8 ∧ 0 ≤ yI x n K k := by have := y_le (sz x) n K k; unfold yI; omega
      rw [mx_here] at c1
      obtain ⟨p, hp⟩ : ∃ p, yI x n K k = p := ⟨_, rfl⟩
      obtain ⟨v, hv⟩ : ∃ v, x k = v := ⟨_, rfl⟩
      rw [hp] at c1 hy HN
      rw [hv] at c0 HN HP
      clear hp hv
      have HS2 := Lib.hid (HS1.out.set k (.int .i64 (-p)))
      by_cases hneg : v < 0
      · have HN1 := Lib.hid (HN.out hneg)
        clear HN HP
        go_wp2_with fail
        go_roundw
        case rel => exact ⟨k + 1, _, by omega, by go_num, HN1, HS2.out⟩
        case measure => simp [intOf]; omega
      · have HN1 := Lib.hid (HP.out hneg)
        clear HN HP HS2
        go_wp2_with fail
        go_roundw
        case rel => exact ⟨k + 1, _, by omega, by go_num, HN1, HS1.out⟩
        case measure => simp [intOf]; omega
    · obtain rfl : k = n := by omega
      have HR2 := Lib.hid (HR.out.ext fun i hi => mx_all hi)
      go_wp2_with fail
      go_ret2
      exact ⟨g, R, rfl, HS1.out.2.2, HR2.out, HS1.out.2.1, HS1.out.1⟩

theorem gain_no (a d : Option Addr) (n c m e : Nat) (x y : Nat → Int) (W : World) (hS : Sl .i64 W a n c x) (hY : Sl .i64 W d m e y) (h : okC x n = false ∨ m ≠ n ∨ okW y 8 m = false) :
    Calls Try.prog 12 #[.slice a n c, .slice d m e] W fun r w' => r = .returned (.tuple #[.int .i64 0, .int .i64 0]) ∧ W = w' := by
  have HC := Lib.hid (searched_any a n c x W hS)
  have HD := Lib.hid (within_any d m e y 8 W hY (by omega) (by omega))
  have hn : n ≤ 9223372036854775807 := by have := hS.1; have := hS.2.1; unfold maxLen at this; omega
  have hm : m ≤ 9223372036854775807 := by have := hY.1; have := hY.2.1; unfold maxLen at this; omega
  clear hS hY
  rcases hr : okC x n with _ | _
  · rw [hr] at HC
    clear h hr
    go_enter Try.func12, Try.ntmps12
    go_wp2_with fail
    refine HC.out.mono ?_
    rintro e w1 ⟨rfl, rfl⟩
    go_wp2_with fail
    go_ret2
    exact ⟨rfl, rfl⟩
  · rw [hr] at HC
    have h : m ≠ n ∨ okW y 8 m = false := by
      rcases h with h | h
      · rw [hr] at h; cases h
      · exact h
    clear hr
    by_cases h1 : m = n
    · subst h1
      have h2 := h.resolve_left (fun h => h rfl)
      rw [h2] at HD
      have e1 : ((m : Int) != (m : Int)) = false := by simp
      clear h h2
      go_enter Try.func12, Try.ntmps12
      go_wp2_with fail
      refine HC.out.mono ?_
      rintro e w1 ⟨rfl, rfl⟩
      go_wp2_with fail
      refine HD.out.mono ?_
      rintro e w1 ⟨rfl, rfl⟩
      go_wp2_with fail
      go_ret2
      exact ⟨rfl, rfl⟩
    · have e1 : ((m : Int) != (n : Int)) = true := by simp; omega
      clear h HD
      go_enter Try.func12, Try.ntmps12
      go_wp2_with fail
      refine HC.out.mono ?_
      rintro e w1 ⟨rfl, rfl⟩
      go_wp2_with fail
      go_ret2
      exact ⟨rfl, rfl⟩

set_option maxHeartbeats 400000 in
theorem gain_yes (a d : Option Addr) (n c e : Nat) (x y : Nat → Int) (W : World) (hS : Sl .i64 W a n c x) (hY : Sl .i64 W d n e y) (h : okC x n = true) (hy : okW y 8 n = true) :
    Calls Try.prog 12 #[.slice a n c, .slice d n e] W fun r w' => r = .returned (.tuple #[.int .i64 (aI x y n), .int .i64 (qI y n)]) ∧ W = w' := by
  have HC := Lib.hid (searched_any a n c x W hS)
  have HD := Lib.hid (within_any d n e y 8 W hY (by omega) (by omega))
  obtain ⟨h0, h8, hx⟩ := (okC_iff x n).1 h
  have hyb := (okW_iff y 8 n).1 hy
  obtain ⟨b, o, rfl, hc⟩ := hS.2.2 h0
  obtain ⟨b2, o2, rfl, hc2⟩ := hY.2.2 h0
  rw [h] at HC
  rw [hy] at HD
  have HX := Lib.hid (fun i hi => mul_bd (hx i hi).1 (hx i hi).2 (hyb i hi).1 (hyb i hi).2)
  have HQ := Lib.hid (fun i hi => mul_bd (hyb i hi).1 (hyb i hi).2 (hyb i hi).1 (hyb i hi).2)
  have H1 := Lib.hid hc
  have H2 := Lib.hid hc2
  have e1 : ((n : Int) != (n : Int)) = false := by simp
  clear hS hY h hy hx hyb hc hc2
  go_enter Try.func12, Try.ntmps12
  go_wp2_with fail
  refine HC.out.mono ?_
  rintro e w1 ⟨rfl, rfl⟩
  clear HC
  go_wp2_with fail
  refine HD.out.mono ?_
  rintro e w1 ⟨rfl, rfl⟩
  clear HD
  go_wp2_with fail
  go_loop [6, 7, 27] (fun s q i => ∃ k : Nat, k ≤ n ∧ i = .int .i64 k ∧ s = .int .i64 (aI x y k) ∧ q = .int .i64 (qI y k)) (fun _ _ i => n - (intOf i).toNat)
  case atStart => exact ⟨0, Nat.zero_le _, rfl, rfl, rfl⟩
  case round =>
    obtain ⟨k, hk, rfl, rfl, rfl⟩ := hrel
    have hs := aI_bd (n := k) fun i hi => HX.out i (by omega)
    have hq := qI_bd (y := y) (n := k) fun i hi => ⟨by rcases Int.le_total 0 (y i) with h | h; exact Int.mul_nonneg h h; exact Int.mul_nonneg_of_nonpos_of_nonpos h h, (HQ.out i (by omega)).2⟩
    by_cases hlt : k < n
    · have c0 := H1.out k hlt
      have c1 := H2.out k hlt
      obtain ⟨x1, x2⟩ := HX.out k hlt
      obtain ⟨y1, y2⟩ := HQ.out k hlt
      have HA := Lib.hid (show aI x y (k + 1) = aI x y k + x k * y k from rfl)
      have HB := Lib.hid (show qI y (k + 1) = qI y k + y k * y k from rfl)
      obtain ⟨v, hv⟩ : ∃ v, x k = v := ⟨_, rfl⟩
      obtain ⟨p, hp⟩ : ∃ p, y k = p := ⟨_, rfl⟩
      obtain ⟨s, hse⟩ : ∃ s, aI x y k = s := ⟨_, rfl⟩
      obtain ⟨q, hqe⟩ : ∃ q, qI y k = q := ⟨_, rfl⟩
      rw [hv] at c0 x1 x2 HA
      rw [hp] at c1 x1 x2 y1 y2 HA HB
      rw [hse] at hs HA ⊢
      rw [hqe] at hq HB ⊢
      clear hv hp hse hqe
      have k0 : (0 : Int) ≤ (k : Int) := by omega
      have k1 : (k : Int) < (n : Int) := by omega
      go_wp2_with fail
      go_round
      case rel => exact ⟨k + 1, by omega, by go_num, by rw [HA.out], by rw [HB.out]⟩
      case measure => simp [intOf]; omega
    · obtain rfl : k = n := by omega
      go_wp2_with fail
      go_ret2
      exact ⟨rfl, rfl⟩
