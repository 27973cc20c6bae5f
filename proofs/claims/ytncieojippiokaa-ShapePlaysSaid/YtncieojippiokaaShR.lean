/- Contracts of the document's Size, Both and Find. -/
import Derived.Test.YtncieojippiokaaShC
import Derived.Test.YtncieojippiokaaOwn2
set_option maxRecDepth 100000
set_option linter.unusedVariables false
namespace Go.Proofs.Ytncieojippiokaa.Sh
open Go.RowKit Go.Proofs.Ytncieojippiokaa.Row

theorem refSize_as (x : Int) (r : Nat) (w : World) (h1 : -1099511627776 ≤ x) (h2 : x ≤ 1099511627776) (h : x.natAbs = r) :
    Calls Try.prog 22 #[.int .i64 x] w fun e w' => e = .returned (.int .i64 r) ∧ w = w' := by
  subst h
  by_cases c3 : x < 0
  · go_enter Try.func22, Try.ntmps22
    go_wp2
    go_ret
    exact ⟨ret_int (by omega), rfl⟩
  · go_enter Try.func22, Try.ntmps22
    go_wp2
    go_ret
    exact ⟨ret_int (by omega), rfl⟩

set_option maxHeartbeats 400000 in
theorem refBoth_as (b o b2 o2 n c e : Nat) (x : Nat → Int) (z : Nat → Nat) (W : World) (hc : ∀ i, i < n → W.cell? ⟨b, o + i, none⟩ = some (.int .i64 (x i))) (hc2 : ∀ i, i < n → W.cell? ⟨b2, o2 + i, none⟩ = some (.int .i64 (z i))) (h8 : n ≤ 8) (hx : ∀ i, i < n → -1048576 ≤ x i ∧ x i ≤ 1048576) (hz : ∀ i, i < n → z i ≤ 9) :
    Calls Try.prog 18 #[.slice (some ⟨b, o, none⟩) n c, .slice (some ⟨b2, o2, none⟩) n e] W fun r w' => r = .returned (.tuple #[.int .i64 (S (fun i => sz x i * z i) n), .int .i64 (S (fun i => z i * z i) n)]) ∧ ∃ m, w' = W.drewN m := by
  have HC := Lib.hid hc
  have HC2 := Lib.hid hc2
  have HX := Lib.hid hx
  have HZ := Lib.hid hz
  clear hc hc2 hx hz
  go_enter Try.func18, Try.ntmps18
  go_wp2_with fail
  go_loopw [6, 7, 8] (fun s q i w' => ∃ k d : Nat, k ≤ n ∧ i = .int .i64 k ∧ s = .int .i64 (S (fun i => sz x i * z i) k) ∧ q = .int .i64 (S (fun i => z i * z i) k) ∧ w' = W.drewN d) (fun _ _ i _ => n - (intOf i).toNat)
  case atStart => exact ⟨0, 0, Nat.zero_le _, rfl, rfl, rfl, rfl⟩
  case round =>
    obtain ⟨k, d, hk, rfl, rfl, rfl, hw⟩ := hrel
    have HD := Lib.hid hw
    by_cases hlt : k < n
    · have c0 : wr.cell? ⟨b, o + k, none⟩ = some (.int .i64 (x k)) := by rw [hw]; exact HC.out k hlt
      have c1 : wr.cell? ⟨b2, o2 + k, none⟩ = some (.int .i64 (z k)) := by rw [hw]; exact HC2.out k hlt
      have hs := S_bd (n := k) (f := fun i => sz x i * z i) (M := 9437184) fun i hi => by
        have h1 := HX.out i (by omega)
        have h2 := HZ.out i (by omega)
        exact Nat.mul_le_mul (show sz x i ≤ 1048576 by unfold sz; omega) h2
      have hq := S_bd (n := k) (f := fun i => z i * z i) (M := 81) fun i hi => Nat.mul_le_mul (HZ.out i (by omega)) (HZ.out i (by omega))
      obtain ⟨x1, x2⟩ := HX.out k hlt
      have hz9 := HZ.out k hlt
      have HA := Lib.hid (show S (fun i => sz x i * z i) (k + 1) = S (fun i => sz x i * z i) k + sz x k * z k from rfl)
      have HB := Lib.hid (show S (fun i => z i * z i) (k + 1) = S (fun i => z i * z i) k + z k * z k from rfl)
      have HU := Lib.hid (show (x k).natAbs = sz x k from rfl)
      have hu8 : sz x k ≤ 1048576 := by unfold sz; omega
      obtain ⟨u, hu⟩ : ∃ u, sz x k = u := ⟨_, rfl⟩
      obtain ⟨v, hv⟩ : ∃ v, x k = v := ⟨_, rfl⟩
      obtain ⟨p, hp⟩ : ∃ p, z k = p := ⟨_, rfl⟩
      obtain ⟨s, hse⟩ : ∃ s, S (fun i => sz x i * z i) k = s := ⟨_, rfl⟩
      obtain ⟨q, hqe⟩ : ∃ q, S (fun i => z i * z i) k = q := ⟨_, rfl⟩
      rw [hu] at HA HU hu8
      rw [hv] at c0 x1 x2 HU
      rw [hp] at c1 hz9 HA HB
      rw [hse] at hs HA ⊢
      rw [hqe] at hq HB ⊢
      have m1 := Nat.mul_le_mul hu8 hz9
      have m2 := Nat.mul_le_mul hz9 hz9
      have m1i : (0 : Int) ≤ (u : Int) * p ∧ (u : Int) * p ≤ 9437184 := by
        have : ((u * p : Nat) : Int) ≤ ((1048576 * 9 : Nat) : Int) := Int.ofNat_le.2 m1
        have h0 := Int.natCast_nonneg (u * p)
        rw [Int.natCast_mul] at this h0
        omega
      have m2i : (0 : Int) ≤ (p : Int) * p ∧ (p : Int) * p ≤ 81 := by
        have : ((p * p : Nat) : Int) ≤ ((9 * 9 : Nat) : Int) := Int.ofNat_le.2 m2
        have h0 := Int.natCast_nonneg (p * p)
        rw [Int.natCast_mul] at this h0
        omega
      clear hu hv hp hse hqe m1 m2
      have hsb : s ≤ 75497472 := by omega
      have hqb : q ≤ 648 := by omega
      have k0 : (0 : Int) ≤ (k : Int) := by omega
      have k1 : (k : Int) < (n : Int) := by omega
      clear hs hq hw
      go_wp2_with fail
      go_quiet (first
        | (go_at_call 22; with_reducible exact quiet_int (refSize_as v u _ (by omega) (by omega) HU.out))
        | (go_at_call 22; with_reducible exact quiet_int (refSize_as p p _ (by omega) (by omega) (by omega))))
      go_wp2_with fail
      go_quiet (fail)
      go_wp2_with fail
      go_roundw
      case rel => exact ⟨k + 1, _, by omega, by go_num, congrArg (Value.int .i64) (by rw [HA.out, Int.natCast_add, Int.natCast_mul]), congrArg (Value.int .i64) (by rw [HB.out, Int.natCast_add, Int.natCast_mul]), by rw [HD.out]; exact World.drewN_drewN _ _ _⟩
      case measure => simp [intOf]; omega
    · obtain rfl : k = n := by omega
      clear hw
      go_wp2_with fail
      go_ret2
      exact ⟨rfl, d, HD.out⟩

theorem S_bump {z : Nat → Nat} {u : Nat → Nat} {n i : Nat} (hi : i < n) : S (fun j => u j * (if j = i then z j + 1 else z j)) n = S (fun j => u j * z j) n + u i := by
  have h := S_put (f := fun j => u j * z j) (g := fun j => u j * (if j = i then z j + 1 else z j)) hi fun j _ hj => by show u j * _ = _; rw [if_neg hj]
  have h2 : S (fun j => u j * (if j = i then z j + 1 else z j)) n + u i * z i = S (fun j => u j * z j) n + u i * (if i = i then z i + 1 else z i) := h
  rw [if_pos rfl, Nat.mul_add, Nat.mul_one] at h2
  omega
theorem S_bump2 {z : Nat → Nat} {n i : Nat} (hi : i < n) : S (fun j => (if j = i then z j + 1 else z j) * (if j = i then z j + 1 else z j)) n = S (fun j => z j * z j) n + 2 * z i + 1 := by
  have h := S_put (f := fun j => z j * z j) (g := fun j => (if j = i then z j + 1 else z j) * (if j = i then z j + 1 else z j)) hi fun j _ hj => by show (if j = i then _ else _) * _ = _; rw [if_neg hj]
  have h2 : S (fun j => (if j = i then z j + 1 else z j) * (if j = i then z j + 1 else z j)) n + z i * z i = S (fun j => z j * z j) n + (if i = i then z i + 1 else z i) * (if i = i then z i + 1 else z i) := h
  rw [if_pos rfl, Nat.mul_add, Nat.add_mul] at h2
  omega
/-- a and q with one pulse more at the wave i. -/
theorem both_a {u : Nat → Nat} {n k i : Nat} (hn : 0 < n) (hi : i < n) : S (fun j => u j * (if j = i then yS u n k j + 1 else yS u n k j)) n = aS u n k + u i := by rw [S_bump hi, a_sum hn]
theorem both_q {u : Nat → Nat} {n k i : Nat} (hn : 0 < n) (hi : i < n) : S (fun j => (if j = i then yS u n k j + 1 else yS u n k j) * (if j = i then yS u n k j + 1 else yS u n k j)) n = qS u n k + 2 * yS u n k i + 1 := by rw [S_bump2 hi, q_sum hn]

/-- What stands while the document's pulses are found: the waves, the row. -/
structure RfS (W : World) (g b o n : Nat) (x : Nat → Int) (R : Array Value) (w : World) : Prop where
  below : Below W.heap.size W w
  wave : ∀ i, i < n → w.cell? ⟨b, o + i, none⟩ = some (.int .i64 (x i))
  bl : b < W.heap.size
  gl : W.heap.size ≤ g
  row : At w g R 3
theorem RfS.drewN {W w : World} {g b o n : Nat} {x : Nat → Int} {R : Array Value} (s : RfS W g b o n x R w) (k : Nat) : RfS W g b o n x R (w.drewN k) := ⟨below_drewN s.below k, s.wave, s.bl, s.gl, s.row⟩
theorem RfS.more {W w w' : World} {g b o n : Nat} {x : Nat → Int} {R : Array Value} (s : RfS W g b o n x R w) (h : Below w.heap.size w w') : RfS W g b o n x R w' :=
  ⟨below_trans s.below h s.below.size, fun i hi => (Below.cell h (block_lt_of_cell (s.wave i hi))).trans (s.wave i hi), s.bl, s.gl, s.row.below h s.row.lt⟩
theorem RfS.set {W w : World} {g b o n : Nat} {x : Nat → Int} {R : Array Value} (s : RfS W g b o n x R w) (i : Nat) (v : Value) : RfS W g b o n x (R.setIfInBounds i v) (w.setCell ⟨g, i, none⟩ v) := by
  have := s.bl
  have := s.gl
  exact ⟨s.below.setCell s.gl _, fun i hi => (cell_set_other _ _ _ _ (by dsimp only; omega)).trans (s.wave i hi), s.bl, s.gl, s.row.setCell⟩
theorem RfS.setOther {W w : World} {g b o n h : Nat} {x : Nat → Int} {R : Array Value} (s : RfS W g b o n x R w) (hh : g < h) (i : Nat) (v : Value) : RfS W g b o n x R (w.setCell ⟨h, i, none⟩ v) := by
  have := s.bl
  have := s.gl
  exact ⟨s.below.setCell (by dsimp only; omega) _, fun i hi => (cell_set_other _ _ _ _ (by dsimp only; omega)).trans (s.wave i hi), s.bl, s.gl, s.row.setCell_other (by dsimp only; omega)⟩
theorem RfS.moreAt {W w w' : World} {g b o n B : Nat} {x : Nat → Int} {R : Array Value} (s : RfS W g b o n x R w) (h : Below B w w') (hb : b < B) (hg : g < B) (hB : W.heap.size ≤ B) : RfS W g b o n x R w' :=
  ⟨s.below.trans ⟨h.os, h.tape, h.output, h.size, fun k hk => h.block k (by omega)⟩, fun i hi => (Below.cell h hb).trans (s.wave i hi), s.bl, s.gl, s.row.below h hg⟩
end Go.Proofs.Ytncieojippiokaa.Sh
