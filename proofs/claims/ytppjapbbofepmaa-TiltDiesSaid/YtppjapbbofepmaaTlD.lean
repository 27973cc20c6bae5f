/- Rows that the statements write out; contracts: the statements' awake, the document's Pow, Cut, Lift, Lay. -/
import Derived.Test.YtppjapbbofepmaaTlC
namespace Go.Proofs.Ytppjapbbofepmaa.Tl
open Go.RowKit Go.Proofs.Ytppjapbbofepmaa.Row

theorem no_guard : Try.prog.eqGuardType Try.prog.depth 24 = false := by kernel_rfl

def twoS (i : Nat) : Int := if i < 2 then 100 else 0
def exS (i : Nat) : Int := if i = 0 then 100 else if i = 1 then 15 else if i = 2 then -85 else 0
theorem built_none : ∃ Z, IsRow 16 (fun _ => 0) Z ∧ ∀ a : Act, Try.prog.built 24 ((#[] : Array (Nat × Operand)).map fun (i, x) => (i, a.eval x)).toList = some Z := ⟨_, isRow_zero 16, fun a => by kernel_rfl⟩
theorem built_two : ∃ T, IsRow 16 twoS T ∧ ∀ a : Act, Try.prog.built 24 ((#[(0, .const (.int .i64 100)), (1, .const (.int .i64 100))] : Array (Nat × Operand)).map fun (i, x) => (i, a.eval x)).toList = some T := by
  refine ⟨#[.int .i64 100, .int .i64 100, .int .i64 0, .int .i64 0, .int .i64 0, .int .i64 0, .int .i64 0, .int .i64 0, .int .i64 0, .int .i64 0, .int .i64 0, .int .i64 0, .int .i64 0, .int .i64 0, .int .i64 0, .int .i64 0], ⟨rfl, by kernel_rfl, fun k hk => ?_⟩, fun a => by kernel_rfl⟩
  match k, hk with
  | 0, _ | 1, _ | 2, _ | 3, _ | 4, _ | 5, _ | 6, _ | 7, _ | 8, _ | 9, _ | 10, _ | 11, _ | 12, _ | 13, _ | 14, _ | 15, _ => rfl
  | n + 16, h => omega
theorem built_ex : ∃ T, IsRow 16 exS T ∧ ∀ a : Act, Try.prog.built 24 ((#[(0, .const (.int .i64 100)), (1, .const (.int .i64 15)), (2, .const (.int .i64 (-85)))] : Array (Nat × Operand)).map fun (i, x) => (i, a.eval x)).toList = some T := by
  refine ⟨#[.int .i64 100, .int .i64 15, .int .i64 (-85), .int .i64 0, .int .i64 0, .int .i64 0, .int .i64 0, .int .i64 0, .int .i64 0, .int .i64 0, .int .i64 0, .int .i64 0, .int .i64 0, .int .i64 0, .int .i64 0, .int .i64 0], ⟨rfl, by kernel_rfl, fun k hk => ?_⟩, fun a => by kernel_rfl⟩
  match k, hk with
  | 0, _ | 1, _ | 2, _ | 3, _ | 4, _ | 5, _ | 6, _ | 7, _ | 8, _ | 9, _ | 10, _ | 11, _ | 12, _ | 13, _ | 14, _ | 15, _ => rfl
  | n + 16, h => omega
theorem two_ex (k : Nat) (hk : k < 16) : liS 0 twoS k = exS k := by
  have : ∀ k : Fin 16, liS 0 twoS k.val = exS k.val := by decide +kernel
  exact this ⟨k, hk⟩

set_option maxRecDepth 100000 in
set_option maxHeartbeats 1000000 in
theorem awake_yes (w : World) :
    Calls Try.prog 8 #[] w fun e w' => e = .returned (.bool true) ∧ Below w.heap.size w w' := by
  obtain ⟨Z, hZ, hZ0, hz, hi⟩ := zero_block
  obtain ⟨E, hE, bE⟩ := built_ex
  obtain ⟨O, hO, bO⟩ := built_two
  have HZ := Lib.hid hZ
  have HE := Lib.hid hE
  have BE := Lib.hid bE
  have BO := Lib.hid bO
  have HI := Lib.hid hi
  obtain ⟨A, hA⟩ : ∃ A, rowL 16 (liS 0 twoS) 16 = A := ⟨_, rfl⟩
  have RA := Lib.hid (show IsRow 16 (liS 0 twoS) A by rw [← hA]; exact isRow _ _)
  have WA := Lib.hid (fun w => lift_any 0 O twoS w hO)
  rw [hA, show ct22 (twoS 15) = 0 by decide] at WA
  have e1 := rows_eq RA.out HE.out two_ex Try.underlying24
  have e0 := no_guard
  clear hZ hZ0 hi hE bE hO bO hA
  go_enter Try.func8, Try.ntmps8
  go_wp2_with (refine wpList_build_wanted (by rfl) 24 #[(0, .const (.int .i64 100)), (1, .const (.int .i64 100))] rfl O (BO.out _) ?_)
  refine (WA.out _).mono ?_
  rintro e w1 ⟨rfl, hw1⟩
  have HX := Lib.hid (At.new w1 A 24)
  have HB := Lib.hid (hw1.alloc hw1.size (.cells A 24))
  clear hw1
  go_wp2_with (first
    | (refine wpList_store_row rfl 24 _ _ rfl w1.heap.size A rfl rfl _ _ (heap_alloc_new _ _) (HI.out _ RA.out.1) (by rw [RA.out.1, HZ.out.1]) RA.out.2.1 ?_
       rw [World.setRow_alloc_new])
    | refine wpList_load_wanted (by rfl) 24 _ rfl w1.heap.size rfl _ _ _ _ HX.out Try.underlying24 (HI.out _ RA.out.1) ?_
    | refine wpList_build_wanted (by rfl) 24 #[(0, .const (.int .i64 100)), (1, .const (.int .i64 15)), (2, .const (.int .i64 (-85)))] rfl E (BE.out _) ?_)
  go_ret
  exact ⟨rfl, HB.out⟩

theorem pow_bd {k m : Nat} (h : k ≤ m) : (1 : Int) ≤ 2 ^ k ∧ (2 : Int) ^ k ≤ 2 ^ m := by
  have h1 : 1 ≤ 2 ^ k := Nat.one_le_two_pow
  have h2 : 2 ^ k ≤ 2 ^ m := Nat.pow_le_pow_right (by omega) h
  exact ⟨by exact_mod_cast h1, by exact_mod_cast h2⟩

theorem pow_any (n : Int) (w : World) (h1 : 0 ≤ n) (h2 : n ≤ 62) :
    Calls Try.prog 20 #[.int .i64 n] w fun e w' => e = .returned (.int .i64 (2 ^ n.toNat)) ∧ w = w' := by
  go_enter Try.func20, Try.ntmps20
  go_wp2
  go_loop [3, 4] (fun p i => ∃ k : Nat, (k : Int) ≤ n ∧ i = .int .i64 k ∧ p = .int .i64 (2 ^ k)) (fun _ i => n.toNat - (intOf i).toNat)
  case atStart => exact ⟨0, by omega, rfl, rfl⟩
  case round =>
    obtain ⟨k, hk, rfl, rfl⟩ := hrel
    by_cases hlt : (k : Int) < n
    · obtain ⟨hp, hq⟩ := pow_bd (show k ≤ 61 by omega)
      simp only [Int.reducePow] at hq
      go_wp2
      go_round
      case rel => exact ⟨k + 1, by omega, by go_num, by rw [Int.pow_succ, Int.mul_comm]⟩
      case measure => simp [intOf]; omega
    · go_wp2
      go_ret
      exact ⟨ret_int (by rw [show n.toNat = k by omega]), rfl⟩
theorem pow_as (n p : Int) (w : World) (h1 : 0 ≤ n) (h2 : n ≤ 62) (h : 2 ^ n.toNat = p) :
    Calls Try.prog 20 #[.int .i64 n] w fun e w' => e = .returned (.int .i64 p) ∧ w = w' := by
  subst h; exact pow_any n w h1 h2

theorem refCut22 (x p : Int) (w : World) (h : ct22 x = p) :
    Calls Try.prog 14 #[.int .i64 x, .int .i64 22] w fun e w' => e = .returned (.int .i64 p) ∧ w = w' := by
  subst h
  by_cases c1 : x < -2097152
  · go_enter Try.func14, Try.ntmps14
    go_wp2_with (go_at_call 20; (with_reducible refine (pow_as 21 2097152 _ (by omega) (by omega) (by decide)).mono ?_); rintro e w' ⟨rfl, rfl⟩)
    go_ret
    exact ⟨ret_int (by unfold ct22; omega), rfl⟩
  · by_cases c2 : 2097151 < x
    · go_enter Try.func14, Try.ntmps14
      go_wp2_with (go_at_call 20; (with_reducible refine (pow_as 21 2097152 _ (by omega) (by omega) (by decide)).mono ?_); rintro e w' ⟨rfl, rfl⟩)
      go_ret
      exact ⟨ret_int (by unfold ct22; omega), rfl⟩
    · go_enter Try.func14, Try.ntmps14
      go_wp2_with (go_at_call 20; (with_reducible refine (pow_as 21 2097152 _ (by omega) (by omega) (by decide)).mono ?_); rintro e w' ⟨rfl, rfl⟩)
      go_ret
      exact ⟨ret_int (by unfold ct22; omega), rfl⟩
theorem refCut16 (x p : Int) (w : World) (h : ct16 x = p) :
    Calls Try.prog 14 #[.int .i64 x, .int .i64 16] w fun e w' => e = .returned (.int .i64 p) ∧ w = w' := by
  subst h
  by_cases c1 : x < -32768
  · go_enter Try.func14, Try.ntmps14
    go_wp2_with (go_at_call 20; (with_reducible refine (pow_as 15 32768 _ (by omega) (by omega) (by decide)).mono ?_); rintro e w' ⟨rfl, rfl⟩)
    go_ret
    exact ⟨ret_int (by unfold ct16; omega), rfl⟩
  · by_cases c2 : 32767 < x
    · go_enter Try.func14, Try.ntmps14
      go_wp2_with (go_at_call 20; (with_reducible refine (pow_as 15 32768 _ (by omega) (by omega) (by decide)).mono ?_); rintro e w' ⟨rfl, rfl⟩)
      go_ret
      exact ⟨ret_int (by unfold ct16; omega), rfl⟩
    · go_enter Try.func14, Try.ntmps14
      go_wp2_with (go_at_call 20; (with_reducible refine (pow_as 15 32768 _ (by omega) (by omega) (by decide)).mono ?_); rintro e w' ⟨rfl, rfl⟩)
      go_ret
      exact ⟨ret_int (by unfold ct16; omega), rfl⟩
end Go.Proofs.Ytppjapbbofepmaa.Tl
