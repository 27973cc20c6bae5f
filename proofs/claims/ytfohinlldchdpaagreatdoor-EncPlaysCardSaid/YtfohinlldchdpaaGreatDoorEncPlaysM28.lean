/- Texts of the walk, one behind the other. -/
import Derived.Test.YtfohinlldchdpaaGreatDoorEncPlaysM7
import Derived.Test.YtfohinlldchdpaaGreatDoorEncPlaysM14
import Derived.Test.YtfohinlldchdpaaGreatDoorEncPlaysM1

section
/- Contracts of shape's unsigned, within, searched; the closure that tells what a wave would have with one pulse more; better. -/
set_option maxRecDepth 100000
set_option linter.unusedVariables false
namespace Go.Proofs.YtfohinlldchdpaaGreatDoor.Sh
open Go.RowKit Go.Proofs.YtfohinlldchdpaaGreatDoor.Row

theorem unsigned_as (x : Int) (u : Nat) (w : World) (h : -1048576 ≤ x) (h' : x ≤ 1048576) (hu : x.natAbs = u) :
    Calls Tryz.prog 215 #[.int .i64 x] w fun e w' => e = .returned (.int .i64 u) ∧ w = w' := by
  go_enter Tryz.func215, Tryz.ntmps215
  go_wp2
  all_goals
    go_ret
    refine ⟨ret_int ?_, rfl⟩
    omega

/-- Whether the first n numbers are from -e to e. -/
def okW (f : Nat → Int) (e : Int) : Nat → Bool
  | 0 => true
  | n + 1 => okW f e n && decide (-e ≤ f n ∧ f n ≤ e)
theorem okW_iff (f : Nat → Int) (e : Int) : ∀ n, okW f e n = true ↔ ∀ i, i < n → -e ≤ f i ∧ f i ≤ e
  | 0 => ⟨fun _ i h => absurd h (Nat.not_lt_zero i), fun _ => rfl⟩
  | n + 1 => by
    rw [okW, Bool.and_eq_true, decide_eq_true_eq, okW_iff f e n]
    constructor
    · intro ⟨h1, h2⟩ i hi
      by_cases c : i = n
      · rw [c]; exact h2
      · exact h1 i (by omega)
    · intro h
      exact ⟨fun i hi => h i (by omega), h n (by omega)⟩
theorem okW_no {f : Nat → Int} {e : Int} {n k : Nat} (hk : k < n) (h : ¬ (-e ≤ f k ∧ f k ≤ e)) : okW f e n = false := by
  rw [Bool.eq_false_iff]
  intro hh
  exact h ((okW_iff f e n).1 hh k hk)

theorem within_any (a : Option Addr) (n c : Nat) (f : Nat → Int) (e : Int) (w : World) (hS : Sl .i64 w a n c f) (he : 0 ≤ e) (he2 : e ≤ 1048576) :
    Calls Tryz.prog 213 #[.slice a n c, .int .i64 e] w fun r w' => r = .returned (.bool (okW f e n)) ∧ w = w' := by
  have HS := Lib.hid hS.2.2
  have hn : n ≤ 9223372036854775807 := by have := hS.1; have := hS.2.1; unfold maxLen at this; omega
  clear hS
  go_enter Tryz.func213, Tryz.ntmps213
  go_wp2_with fail
  go_loop [9] (fun i => ∃ k : Nat, k ≤ n ∧ i = .int .i64 k ∧ Hid (okW f e k = true)) (fun i => n - (intOf i).toNat)
  case atStart => exact ⟨0, Nat.zero_le _, rfl, Lib.hid rfl⟩
  case round =>
    obtain ⟨k, hk, rfl, HK⟩ := hrel
    by_cases hlt : k < n
    · obtain ⟨b, o, rfl, hc⟩ := HS.out (by omega)
      have c0 := hc k hlt
      clear hc
      have HN := Lib.hid (okW_no (f := f) (e := e) hlt)
      have HO := Lib.hid (show okW f e (k + 1) = (okW f e k && decide (-e ≤ f k ∧ f k ≤ e)) from rfl)
      obtain ⟨x, hx⟩ : ∃ x, f k = x := ⟨_, rfl⟩
      rw [hx] at c0 HN HO
      clear hx
      by_cases c1 : x < -e
      · have HZ := Lib.hid (HN.out (by omega))
        clear HN HO
        go_wp2_with fail
        go_ret
        exact ⟨ret_bool HZ.out.symm, rfl⟩
      by_cases c2 : e < x
      · have HZ := Lib.hid (HN.out (by omega))
        clear HN HO
        go_wp2_with fail
        go_ret
        exact ⟨ret_bool HZ.out.symm, rfl⟩
      clear HN
      go_wp2_with fail
      go_round
      case rel => exact ⟨k + 1, by omega, by go_num, Lib.hid (by rw [HO.out, HK.out, Bool.true_and, decide_eq_true_eq]; omega)⟩
      case measure => simp [intOf]; omega
    · obtain rfl : k = n := by omega
      go_wp2_with fail
      go_ret
      exact ⟨ret_bool HK.out.symm, rfl⟩

/-- Whether pulses are found. -/
def okC (f : Nat → Int) (n : Nat) : Bool := decide (0 < n ∧ n ≤ 8) && okW f 1048576 n
theorem okC_iff (f : Nat → Int) (n : Nat) : okC f n = true ↔ 0 < n ∧ n ≤ 8 ∧ ∀ i, i < n → -1048576 ≤ f i ∧ f i ≤ 1048576 := by
  unfold okC
  rw [Bool.and_eq_true, decide_eq_true_eq, okW_iff, and_assoc]

theorem searched_any (a : Option Addr) (n c : Nat) (f : Nat → Int) (w : World) (hS : Sl .i64 w a n c f) :
    Calls Tryz.prog 198 #[.slice a n c] w fun r w' => r = .returned (.bool (okC f n)) ∧ w = w' := by
  have HW := Lib.hid (within_any a n c f 1048576 w hS (by omega) (by omega))
  have HD := Lib.hid (show okC f n = (decide (0 < n ∧ n ≤ 8) && okW f 1048576 n) from rfl)
  have hn : n ≤ 9223372036854775807 := by have := hS.1; have := hS.2.1; unfold maxLen at this; omega
  clear hS
  by_cases h0 : n = 0
  · subst h0
    have HZ := Lib.hid (show okC f 0 = false from rfl)
    clear HD HW
    go_enter Tryz.func198, Tryz.ntmps198
    go_wp2_with fail
    go_ret
    exact ⟨ret_bool HZ.out.symm, rfl⟩
  by_cases h8 : 8 < n
  · have HZ := Lib.hid (show okC f n = false by rw [HD.out, decide_eq_false (by omega), Bool.false_and])
    clear HD HW
    go_enter Tryz.func198, Tryz.ntmps198
    go_wp2_with fail
    go_ret
    exact ⟨ret_bool HZ.out.symm, rfl⟩
  · have HZ := Lib.hid (show okC f n = okW f 1048576 n by rw [HD.out, decide_eq_true (by omega), Bool.true_and])
    clear HD
    obtain ⟨r, hr⟩ : ∃ r, okW f 1048576 n = r := ⟨_, rfl⟩
    rw [hr] at HW HZ
    clear hr
    go_enter Tryz.func198, Tryz.ntmps198
    go_wp2_with fail
    refine HW.out.mono ?_
    rintro e w1 ⟨rfl, rfl⟩
    go_wp2_with fail
    go_ret
    exact ⟨ret_bool HZ.out.symm, rfl⟩

/-- What the closure reads: the waves' slice, a, q, the pulses' slice. -/
structure Wth (w : World) (pa pc pq py b o n c g A Q : Nat) (x : Nat → Int) (y : Nat → Nat) : Prop where
  ca : w.cell? ⟨pa, 0, none⟩ = some (.int .i64 A)
  cc : w.cell? ⟨pc, 0, none⟩ = some (.slice (some ⟨b, o, none⟩) n c)
  cq : w.cell? ⟨pq, 0, none⟩ = some (.int .i64 Q)
  cy : w.cell? ⟨py, 0, none⟩ = some (.slice (some ⟨g, 0, none⟩) n n)
  wave : ∀ i, i < n → w.cell? ⟨b, o + i, none⟩ = some (.int .i64 (x i))
  puls : ∀ i, i < n → w.cell? ⟨g, i, none⟩ = some (.int .i64 (y i))
theorem Wth.drewN {w : World} {pa pc pq py b o n c g A Q : Nat} {x : Nat → Int} {y : Nat → Nat} (h : Wth w pa pc pq py b o n c g A Q x y) (k : Nat) : Wth (w.drewN k) pa pc pq py b o n c g A Q x y :=
  ⟨h.ca, h.cc, h.cq, h.cy, h.wave, h.puls⟩

theorem with_as (w : World) (pa pc pq py b o n c g A Q i u p : Nat) (x : Nat → Int) (y : Nat → Nat) (h : Wth w pa pc pq py b o n c g A Q x y) (hi : i < n) (hb : -1048576 ≤ x i ∧ x i ≤ 1048576) (hA : A ≤ 8388608) (hQ : Q ≤ 64) (hu : (x i).natAbs = u) (hy : y i = p) (hp : p ≤ 8) :
    Calls Tryz.prog 214 #[.int .i64 i, .pointer (some ⟨pa, 0, none⟩), .pointer (some ⟨pc, 0, none⟩), .pointer (some ⟨pq, 0, none⟩), .pointer (some ⟨py, 0, none⟩)] w fun e w' =>
      e = .returned (.tuple #[.int .i64 ((A + u : Nat) : Int), .int .i64 ((Q + 2 * p + 1 : Nat) : Int)]) ∧ ∃ m, w' = w.drewN m := by
  have c1 := h.ca
  have c2 := h.cc
  have c3 := h.cq
  have c4 := h.cy
  have c5 := h.wave i hi
  have c6 := h.puls i hi
  rw [hy] at c6
  obtain ⟨v, hv⟩ : ∃ v, x i = v := ⟨_, rfl⟩
  rw [hv] at c5 hu hb
  have HU := Lib.hid (fun w => unsigned_as v u w hb.1 hb.2 hu)
  have hu8 : u ≤ 1048576 := by omega
  have i0 : (0 : Int) ≤ (i : Int) := by omega
  have i1 : (i : Int) < (n : Int) := by omega
  clear h hv hu hb hy
  go_enter Tryz.func214, Tryz.ntmps214
  go_wp2_with fail
  go_quiet ((go_at_call 215; with_reducible exact quiet_int (HU.out _)))
  go_wp2_with fail
  go_ret2
  refine ⟨?_, _, rfl⟩
  congr 3

theorem prod_bd {a r : Nat} (ha : a ≤ 9437184) (hr : r ≤ 81) : (0 : Int) ≤ (a : Int) * a ∧ (a : Int) * a ≤ 89060441849856 ∧ (0 : Int) ≤ (a : Int) * a * r ∧ (a : Int) * a * r ≤ 7213895789838336 := by
  have h1 := Nat.mul_le_mul ha ha
  have h2 := Nat.mul_le_mul h1 hr
  have h3 : ((a * a : Nat) : Int) ≤ ((9437184 * 9437184 : Nat) : Int) := Int.ofNat_le.2 h1
  have h4 : ((a * a * r : Nat) : Int) ≤ ((9437184 * 9437184 * 81 : Nat) : Int) := Int.ofNat_le.2 h2
  have h5 : (0 : Int) ≤ ((a * a : Nat) : Int) := Int.natCast_nonneg _
  have h6 : (0 : Int) ≤ ((a * a * r : Nat) : Int) := Int.natCast_nonneg _
  rw [Int.natCast_mul] at h3 h5
  rw [Int.natCast_mul, Int.natCast_mul] at h4 h6
  omega

theorem better_as (w : World) (pa pc pq py b o n c g A Q i j : Nat) (x : Nat → Int) (y : Nat → Nat) (h : Wth w pa pc pq py b o n c g A Q x y) (hi : i < n) (hj : j < n) (hb : ∀ i, i < n → -1048576 ≤ x i ∧ x i ≤ 1048576) (hA : A ≤ 8388608) (hQ : Q ≤ 64) (hp : ∀ i, y i ≤ 8) :
    Calls Tryz.prog 216 #[.func (.func 214) #[] #[.pointer (some ⟨pa, 0, none⟩), .pointer (some ⟨pc, 0, none⟩), .pointer (some ⟨pq, 0, none⟩), .pointer (some ⟨py, 0, none⟩)], .int .i64 i, .int .i64 j] w fun e w' =>
      e = .returned (.bool (bt (sz x) y A Q i j)) ∧ ∃ m, w' = w.drewN m := by
  have HW := Lib.hid h
  have C1 := Lib.hid (fun w h => with_as w pa pc pq py b o n c g A Q i (sz x i) (y i) x y h hi (hb i hi) hA hQ rfl rfl (hp i))
  have C2 := Lib.hid (fun w h => with_as w pa pc pq py b o n c g A Q j (sz x j) (y j) x y h hj (hb j hj) hA hQ rfl rfl (hp j))
  have HR := Lib.hid (show bt (sz x) y A Q i j = decide ((A + sz x j) * (A + sz x j) * (Q + 2 * y i + 1) < (A + sz x i) * (A + sz x i) * (Q + 2 * y j + 1)) from rfl)
  have b1 : A + sz x i ≤ 9437184 := by have := hb i hi; unfold sz; omega
  have b2 : A + sz x j ≤ 9437184 := by have := hb j hj; unfold sz; omega
  have b3 : Q + 2 * y i + 1 ≤ 81 := by have := hp i; omega
  have b4 : Q + 2 * y j + 1 ≤ 81 := by have := hp j; omega
  obtain ⟨a1, h1⟩ : ∃ a, A + sz x i = a := ⟨_, rfl⟩
  obtain ⟨a2, h2⟩ : ∃ a, A + sz x j = a := ⟨_, rfl⟩
  obtain ⟨q1, h3⟩ : ∃ a, Q + 2 * y i + 1 = a := ⟨_, rfl⟩
  obtain ⟨q2, h4⟩ : ∃ a, Q + 2 * y j + 1 = a := ⟨_, rfl⟩
  rw [h1, h2, h3, h4] at HR
  rw [h1, h3] at C1
  rw [h2, h4] at C2
  rw [h1] at b1
  rw [h2] at b2
  rw [h3] at b3
  rw [h4] at b4
  obtain ⟨p1, p2, p3, p4⟩ := prod_bd b1 b4
  obtain ⟨p5, p6, p7, p8⟩ := prod_bd b2 b3
  clear h hi hj hb hA hQ hp h1 h2 h3 h4
  go_enter Tryz.func216, Tryz.ntmps216
  go_wp2_with fail
  refine (C1.out _ HW.out).mono ?_
  rintro e w1 ⟨rfl, m1, rfl⟩
  go_wp2_with fail
  refine (C2.out _ (HW.out.drewN _)).mono ?_
  rintro e w1 ⟨rfl, m2, rfl⟩
  go_wp2_with fail
  go_ret
  refine ⟨ret_bool ?_, _, rfl⟩
  rw [HR.out, decide_eq_decide]
  constructor
  · intro h; exact_mod_cast h
  · intro h; exact_mod_cast h
end Go.Proofs.YtfohinlldchdpaaGreatDoor.Sh
end
