/- ShapePlays: the walk. -/
import Derived.Test.YtncieojippiokaaLaw10A
import Derived.Test.YtncieojippiokaaShT
set_option maxRecDepth 100000
set_option linter.unusedVariables false
namespace Go.Proofs.Ytncieojippiokaa.Sh
open Go.RowKit Go.Proofs.Ytncieojippiokaa.Row

theorem shapePlays_long (a d : Option Addr) (n c m e : Nat) (k : Int) (W : World) (h : 40 < n ∨ 40 < m) (hn : n ≤ maxLen) (hm : m ≤ maxLen) :
    Calls Try.prog 5 #[.slice a n c, .int .i64 k, .slice d m e] W fun e w' => e = .returned (.bool true) ∧ Below W.heap.size W w' := by
  unfold maxLen at hn hm
  by_cases h1 : 40 < n
  · clear h
    go_enter Try.func5, Try.ntmps5
    go_wp2_with fail
    refine (awake_yes _).mono ?_
    rintro e w1 ⟨rfl, h2⟩
    have HB := Lib.hid h2
    clear h2
    go_wp2_with fail
    refine (awake_yes _).mono ?_
    rintro e w2 ⟨rfl, h3⟩
    go_wp2_with fail
    go_ret
    exact ⟨rfl, below_trans HB.out h3 HB.out.size⟩
  · have h2 : 40 < m := by omega
    clear h
    go_enter Try.func5, Try.ntmps5
    go_wp2_with fail
    refine (awake_yes _).mono ?_
    rintro e w1 ⟨rfl, h2⟩
    have HB := Lib.hid h2
    clear h2
    go_wp2_with fail
    refine (awake_yes _).mono ?_
    rintro e w2 ⟨rfl, h3⟩
    go_wp2_with fail
    go_ret
    exact ⟨rfl, below_trans HB.out h3 HB.out.size⟩

/-- What stands while both rows of pulses are compared. -/
def T2P (W : World) (g h n : Nat) (y : Nat → Int) (w' : World) : Prop := Below W.heap.size W w' ∧ (∀ i, i < n → w'.cell? ⟨g, i, none⟩ = some (.int .i64 (y i))) ∧ ∀ i, i < n → w'.cell? ⟨h, i, none⟩ = some (.int .i64 (y i))
theorem T2P.drewN {W w : World} {g h n : Nat} {y : Nat → Int} (s : T2P W g h n y w) (k : Nat) : T2P W g h n y (w.drewN k) := ⟨below_drewN s.1 k, s.2⟩
/-- What stands while a and q are worked out. -/
def O2P (W : World) (b o h q n : Nat) (x y : Nat → Int) (w' : World) : Prop := Below W.heap.size W w' ∧ (∀ i, i < n → w'.cell? ⟨b, o + i, none⟩ = some (.int .i64 (x i))) ∧ ∀ i, i < n → w'.cell? ⟨h, q + i, none⟩ = some (.int .i64 (y i))
theorem O2P.drewN {W w : World} {b o h q n : Nat} {x y : Nat → Int} (s : O2P W b o h q n x y w) (k : Nat) : O2P W b o h q n x y (w.drewN k) := ⟨below_drewN s.1 k, s.2⟩

theorem okW_next (f : Nat → Int) (e : Int) (n : Nat) : okW f e (n + 1) = (okW f e n && decide (-e ≤ f n ∧ f n ≤ e)) := rfl

set_option maxHeartbeats 1000000 in
theorem shapePlays_c0a (a d : Option Addr) (n c m e : Nat) (x y : Nat → Int) (k : Int) (W : World) (hS : Sl .i64 W a n c x) (hY : Sl .i64 W d m e y) (hx : ∀ i, i < n → -9223372036854775808 ≤ x i ∧ x i ≤ 9223372036854775807) (hy : ∀ i, i < m → -9223372036854775808 ≤ y i ∧ y i ≤ 9223372036854775807) (hn : n ≤ 40) (hm : m ≤ 40) (hC : n = 0) :
    Calls Try.prog 5 #[.slice a n c, .int .i64 k, .slice d m e] W fun e w' => e = .returned (.bool true) ∧ Below W.heap.size W w' := by
  have HC := Lib.hid (show okC x n = false by rw [hC]; rfl)
  have HYB := Lib.hid hy
  clear hy
  subst hC
  have HS := Lib.hid hS
  have HY := Lib.hid hY
  clear hS hY
  go_enter Try.func5, Try.ntmps5
  go_wp2_with fail
  refine (awake_yes _).mono ?_
  rintro e w1 ⟨rfl, h1⟩
  have HB1 := Lib.hid h1
  have HS1 := Lib.hid (HS.out.below h1)
  have HY1 := Lib.hid (HY.out.below h1)
  clear h1 HS HY
  go_wp2_with fail
  refine wp_loop_rounds 1 ?_
  rw [rounds_succ]
  go_wp2_with fail
  go_wp2_with fail
  refine (find_no a 0 c x k _ HS1.out (.inl HC.out)).mono ?_
  rintro e w2 ⟨rfl, rfl⟩
  have HB2 := Lib.hid HB1.out
  have HS2 := Lib.hid HS1.out
  have HY2 := Lib.hid HY1.out
  clear HB1 HS1 HY1
  go_wp2_with fail
  refine (gain_no a d 0 c m e x y _ HS2.out HY2.out (.inl HC.out)).mono ?_
  rintro e w5 ⟨rfl, rfl⟩
  go_wp2_with fail
  go_loop [15, 16] (fun s i => ∃ q : Nat, q ≤ m ∧ i = .int .i64 q ∧ s = .bool false) (fun _ i => m - (intOf i).toNat)
  case atStart => exact ⟨0, Nat.zero_le _, rfl, rfl⟩
  case round =>
    obtain ⟨q, hq, rfl, rfl⟩ := hrel
    by_cases hlt : q < m
    · go_wp2_with fail
      go_round
      case rel => exact ⟨q + 1, by omega, by go_num, rfl⟩
      case measure => simp [intOf]; omega
    · obtain rfl : q = m := by omega
      go_wp2_with fail
      go_ret
      exact ⟨rfl, HB2.out⟩

set_option maxHeartbeats 1000000 in
theorem shapePlays_c0b (a d : Option Addr) (n c m e : Nat) (x y : Nat → Int) (k : Int) (W : World) (hS : Sl .i64 W a n c x) (hY : Sl .i64 W d m e y) (hx : ∀ i, i < n → -9223372036854775808 ≤ x i ∧ x i ≤ 9223372036854775807) (hy : ∀ i, i < m → -9223372036854775808 ≤ y i ∧ y i ≤ 9223372036854775807) (hn : n ≤ 40) (hm : m ≤ 40) (hC : 8 < n) :
    Calls Try.prog 5 #[.slice a n c, .int .i64 k, .slice d m e] W fun e w' => e = .returned (.bool true) ∧ Below W.heap.size W w' := by
  have HC := Lib.hid (show okC x n = false by unfold okC; rw [decide_eq_false (by omega)]; rfl)
  have HXB := Lib.hid hx
  have HYB := Lib.hid hy
  clear hy
  have HS := Lib.hid hS
  have HY := Lib.hid hY
  clear hS hY
  go_enter Try.func5, Try.ntmps5
  go_wp2_with fail
  refine (awake_yes _).mono ?_
  rintro e w1 ⟨rfl, h1⟩
  have HB1 := Lib.hid h1
  have HS1 := Lib.hid (HS.out.below h1)
  have HY1 := Lib.hid (HY.out.below h1)
  clear h1 HS HY
  go_wp2_with fail
  go_loop [7, 8] (fun s i => ∃ j : Nat, j ≤ n ∧ i = .int .i64 j ∧ s = .bool false) (fun _ i => n - (intOf i).toNat)
  case atStart => exact ⟨0, Nat.zero_le _, rfl, by first | rfl | exact congrArg Value.bool (decide_eq_false (by omega))⟩
  case round =>
    obtain ⟨j, hj, rfl, rfl⟩ := hrel
    by_cases hlt : j < n
    · go_wp2_with fail
      go_round
      case rel => exact ⟨j + 1, by omega, by go_num, rfl⟩
      case measure => simp [intOf]; omega
    · obtain rfl : j = n := by omega
      go_wp2_with fail
      refine (find_no a j c x k _ HS1.out (.inl HC.out)).mono ?_
      rintro e w2 ⟨rfl, rfl⟩
      have HB2 := Lib.hid HB1.out
      have HS2 := Lib.hid HS1.out
      have HY2 := Lib.hid HY1.out
      clear HB1 HS1 HY1
      go_wp2_with fail
      refine (gain_no a d j c m e x y _ HS2.out HY2.out (.inl HC.out)).mono ?_
      rintro e w5 ⟨rfl, rfl⟩
      go_wp2_with fail
      go_loop [15, 16] (fun s i => ∃ q : Nat, q ≤ m ∧ i = .int .i64 q ∧ s = .bool false) (fun _ i => m - (intOf i).toNat)
      case atStart => exact ⟨0, Nat.zero_le _, rfl, rfl⟩
      case round =>
        obtain ⟨q, hq, rfl, rfl⟩ := hrel
        by_cases hlt : q < m
        · go_wp2_with fail
          go_round
          case rel => exact ⟨q + 1, by omega, by go_num, rfl⟩
          case measure => simp [intOf]; omega
        · obtain rfl : q = m := by omega
          go_wp2_with fail
          go_ret
          exact ⟨rfl, HB2.out⟩

set_option maxHeartbeats 1000000 in
theorem shapePlays_c0c (a d : Option Addr) (n c m e : Nat) (x y : Nat → Int) (k : Int) (W : World) (hS : Sl .i64 W a n c x) (hY : Sl .i64 W d m e y) (hx : ∀ i, i < n → -9223372036854775808 ≤ x i ∧ x i ≤ 9223372036854775807) (hy : ∀ i, i < m → -9223372036854775808 ≤ y i ∧ y i ≤ 9223372036854775807) (hn : n ≤ 40) (hm : m ≤ 40) (h0 : 0 < n) (h8 : n ≤ 8) (hC : okW x 1048576 n = false) :
    Calls Try.prog 5 #[.slice a n c, .int .i64 k, .slice d m e] W fun e w' => e = .returned (.bool true) ∧ Below W.heap.size W w' := by
  have HC := Lib.hid (show okC x n = false by unfold okC; rw [hC, Bool.and_false])
  have HW0 := Lib.hid hC
  have HXB := Lib.hid hx
  clear hC
  have HYB := Lib.hid hy
  clear hy
  have HS := Lib.hid hS
  have HY := Lib.hid hY
  clear hS hY
  go_enter Try.func5, Try.ntmps5
  go_wp2_with fail
  refine (awake_yes _).mono ?_
  rintro e w1 ⟨rfl, h1⟩
  have HB1 := Lib.hid h1
  have HS1 := Lib.hid (HS.out.below h1)
  have HY1 := Lib.hid (HY.out.below h1)
  clear h1 HS HY
  go_wp2_with fail
  go_loop [7, 8] (fun s i => ∃ j : Nat, j ≤ n ∧ i = .int .i64 j ∧ s = .bool (okW x 1048576 j)) (fun _ i => n - (intOf i).toNat)
  case atStart => exact ⟨0, Nat.zero_le _, rfl, by first | rfl | exact congrArg Value.bool (decide_eq_true (by omega))⟩
  case round =>
    obtain ⟨j, hj, rfl, rfl⟩ := hrel
    by_cases hlt : j < n
    · obtain ⟨b, o, rfl, hc⟩ := HS1.out.2.2 (by omega)
      have c0 := hc j hlt
      have xb := HXB.out j hlt
      have HR := Lib.hid (okW_next x 1048576 j)
      obtain ⟨v, hv⟩ : ∃ v, x j = v := ⟨_, rfl⟩
      rw [hv] at c0 xb HR
      clear hc hv
      obtain ⟨r, hr⟩ : ∃ r, okW x 1048576 j = r := ⟨_, rfl⟩
      rw [hr] at HR ⊢
      clear hr
      cases r
      · go_wp2_with fail
        go_round
        case rel => exact ⟨j + 1, by omega, by go_num, congrArg Value.bool (by rw [HR.out]; rfl)⟩
        case measure => simp [intOf]; omega
      · by_cases v1 : -1048576 ≤ v
        · by_cases v2 : v ≤ 1048576
          · go_wp2_with fail
            go_round
            case rel => exact ⟨j + 1, by omega, by go_num, congrArg Value.bool (by rw [HR.out, decide_eq_true ⟨v1, v2⟩]; rfl)⟩
            case measure => simp [intOf]; omega
          · go_wp2_with fail
            go_round
            case rel => exact ⟨j + 1, by omega, by go_num, congrArg Value.bool (by rw [HR.out, decide_eq_false (by omega)]; rfl)⟩
            case measure => simp [intOf]; omega
        · go_wp2_with fail
          go_round
          case rel => exact ⟨j + 1, by omega, by go_num, congrArg Value.bool (by rw [HR.out, decide_eq_false (by omega)]; rfl)⟩
          case measure => simp [intOf]; omega
    · obtain rfl : j = n := by omega
      rw [HW0.out]
      go_wp2_with fail
      refine (find_no a j c x k _ HS1.out (.inl HC.out)).mono ?_
      rintro e w2 ⟨rfl, rfl⟩
      have HB2 := Lib.hid HB1.out
      have HS2 := Lib.hid HS1.out
      have HY2 := Lib.hid HY1.out
      clear HB1 HS1 HY1
      go_wp2_with fail
      refine (gain_no a d j c m e x y _ HS2.out HY2.out (.inl HC.out)).mono ?_
      rintro e w5 ⟨rfl, rfl⟩
      go_wp2_with fail
      go_loop [15, 16] (fun s i => ∃ q : Nat, q ≤ m ∧ i = .int .i64 q ∧ s = .bool false) (fun _ i => m - (intOf i).toNat)
      case atStart => exact ⟨0, Nat.zero_le _, rfl, rfl⟩
      case round =>
        obtain ⟨q, hq, rfl, rfl⟩ := hrel
        by_cases hlt : q < m
        · go_wp2_with fail
          go_round
          case rel => exact ⟨q + 1, by omega, by go_num, rfl⟩
          case measure => simp [intOf]; omega
        · obtain rfl : q = m := by omega
          go_wp2_with fail
          go_ret
          exact ⟨rfl, HB2.out⟩

set_option maxHeartbeats 1000000 in
theorem shapePlays_c1f0ag0a (a d : Option Addr) (n c m e : Nat) (x y : Nat → Int) (k : Int) (W : World) (hS : Sl .i64 W a n c x) (hY : Sl .i64 W d m e y) (hx : ∀ i, i < n → -9223372036854775808 ≤ x i ∧ x i ≤ 9223372036854775807) (hy : ∀ i, i < m → -9223372036854775808 ≤ y i ∧ y i ≤ 9223372036854775807) (hn : n ≤ 40) (hm : m ≤ 40) (hC : okC x n = true) (hk : k < 0) (hG : m ≠ n) :
    Calls Try.prog 5 #[.slice a n c, .int .i64 k, .slice d m e] W fun e w' => e = .returned (.bool true) ∧ Below W.heap.size W w' := by
  obtain ⟨h0, h8, hxb⟩ := (okC_iff x n).1 hC
  have HXB := Lib.hid hxb
  clear hx hxb
  have HC := Lib.hid hC
  clear hC
  have HYB := Lib.hid hy
  clear hy
  have HG := Lib.hid hG
  have e1 : ((m : Int) == (n : Int)) = false := by rw [beq_eq_false_iff_ne]; omega
  clear hG
  have HS := Lib.hid hS
  have HY := Lib.hid hY
  clear hS hY
  go_enter Try.func5, Try.ntmps5
  go_wp2_with fail
  refine (awake_yes _).mono ?_
  rintro e w1 ⟨rfl, h1⟩
  have HB1 := Lib.hid h1
  have HS1 := Lib.hid (HS.out.below h1)
  have HY1 := Lib.hid (HY.out.below h1)
  clear h1 HS HY
  go_wp2_with fail
  go_loop [7, 8] (fun s i => ∃ j : Nat, j ≤ n ∧ i = .int .i64 j ∧ s = .bool true) (fun _ i => n - (intOf i).toNat)
  case atStart => exact ⟨0, Nat.zero_le _, rfl, by first | rfl | exact congrArg Value.bool (decide_eq_true (by omega))⟩
  case round =>
    obtain ⟨j, hj, rfl, rfl⟩ := hrel
    by_cases hlt : j < n
    · obtain ⟨b, o, rfl, hc⟩ := HS1.out.2.2 (by omega)
      have c0 := hc j hlt
      obtain ⟨v1, v2⟩ := HXB.out j hlt
      obtain ⟨v, hv⟩ : ∃ v, x j = v := ⟨_, rfl⟩
      rw [hv] at c0 v1 v2
      clear hc hv
      go_wp2_with fail
      go_round
      case rel => exact ⟨j + 1, by omega, by go_num, rfl⟩
      case measure => simp [intOf]; omega
    · obtain rfl : j = n := by omega
      go_wp2_with fail
      refine (find_no a j c x k _ HS1.out (.inr (.inl hk))).mono ?_
      rintro e w2 ⟨rfl, rfl⟩
      have HB2 := Lib.hid HB1.out
      have HS2 := Lib.hid HS1.out
      have HY2 := Lib.hid HY1.out
      clear HB1 HS1 HY1
      go_wp2_with fail
      refine (gain_no a d j c m e x y _ HS2.out HY2.out (.inr (.inl HG.out))).mono ?_
      rintro e w5 ⟨rfl, rfl⟩
      go_wp2_with fail
      go_loop [15, 16] (fun s i => ∃ q : Nat, q ≤ m ∧ i = .int .i64 q ∧ s = .bool false) (fun _ i => m - (intOf i).toNat)
      case atStart => exact ⟨0, Nat.zero_le _, rfl, rfl⟩
      case round =>
        obtain ⟨q, hq, rfl, rfl⟩ := hrel
        by_cases hlt : q < m
        · go_wp2_with fail
          go_round
          case rel => exact ⟨q + 1, by omega, by go_num, rfl⟩
          case measure => simp [intOf]; omega
        · obtain rfl : q = m := by omega
          go_wp2_with fail
          go_ret
          exact ⟨rfl, HB2.out⟩

set_option maxHeartbeats 1000000 in
theorem shapePlays_c1f0bg0a (a d : Option Addr) (n c m e : Nat) (x y : Nat → Int) (k : Int) (W : World) (hS : Sl .i64 W a n c x) (hY : Sl .i64 W d m e y) (hx : ∀ i, i < n → -9223372036854775808 ≤ x i ∧ x i ≤ 9223372036854775807) (hy : ∀ i, i < m → -9223372036854775808 ≤ y i ∧ y i ≤ 9223372036854775807) (hn : n ≤ 40) (hm : m ≤ 40) (hC : okC x n = true) (hk : 8 < k) (hG : m ≠ n) :
    Calls Try.prog 5 #[.slice a n c, .int .i64 k, .slice d m e] W fun e w' => e = .returned (.bool true) ∧ Below W.heap.size W w' := by
  obtain ⟨h0, h8, hxb⟩ := (okC_iff x n).1 hC
  have HXB := Lib.hid hxb
  clear hx hxb
  have HC := Lib.hid hC
  clear hC
  have HYB := Lib.hid hy
  clear hy
  have HG := Lib.hid hG
  have e1 : ((m : Int) == (n : Int)) = false := by rw [beq_eq_false_iff_ne]; omega
  clear hG
  have HS := Lib.hid hS
  have HY := Lib.hid hY
  clear hS hY
  go_enter Try.func5, Try.ntmps5
  go_wp2_with fail
  refine (awake_yes _).mono ?_
  rintro e w1 ⟨rfl, h1⟩
  have HB1 := Lib.hid h1
  have HS1 := Lib.hid (HS.out.below h1)
  have HY1 := Lib.hid (HY.out.below h1)
  clear h1 HS HY
  go_wp2_with fail
  go_loop [7, 8] (fun s i => ∃ j : Nat, j ≤ n ∧ i = .int .i64 j ∧ s = .bool true) (fun _ i => n - (intOf i).toNat)
  case atStart => exact ⟨0, Nat.zero_le _, rfl, by first | rfl | exact congrArg Value.bool (decide_eq_true (by omega))⟩
  case round =>
    obtain ⟨j, hj, rfl, rfl⟩ := hrel
    by_cases hlt : j < n
    · obtain ⟨b, o, rfl, hc⟩ := HS1.out.2.2 (by omega)
      have c0 := hc j hlt
      obtain ⟨v1, v2⟩ := HXB.out j hlt
      obtain ⟨v, hv⟩ : ∃ v, x j = v := ⟨_, rfl⟩
      rw [hv] at c0 v1 v2
      clear hc hv
      go_wp2_with fail
      go_round
      case rel => exact ⟨j + 1, by omega, by go_num, rfl⟩
      case measure => simp [intOf]; omega
    · obtain rfl : j = n := by omega
      go_wp2_with fail
      refine (find_no a j c x k _ HS1.out (.inr (.inr hk))).mono ?_
      rintro e w2 ⟨rfl, rfl⟩
      have HB2 := Lib.hid HB1.out
      have HS2 := Lib.hid HS1.out
      have HY2 := Lib.hid HY1.out
      clear HB1 HS1 HY1
      go_wp2_with fail
      refine (gain_no a d j c m e x y _ HS2.out HY2.out (.inr (.inl HG.out))).mono ?_
      rintro e w5 ⟨rfl, rfl⟩
      go_wp2_with fail
      go_loop [15, 16] (fun s i => ∃ q : Nat, q ≤ m ∧ i = .int .i64 q ∧ s = .bool false) (fun _ i => m - (intOf i).toNat)
      case atStart => exact ⟨0, Nat.zero_le _, rfl, rfl⟩
      case round =>
        obtain ⟨q, hq, rfl, rfl⟩ := hrel
        by_cases hlt : q < m
        · go_wp2_with fail
          go_round
          case rel => exact ⟨q + 1, by omega, by go_num, rfl⟩
          case measure => simp [intOf]; omega
        · obtain rfl : q = m := by omega
          go_wp2_with fail
          go_ret
          exact ⟨rfl, HB2.out⟩

set_option maxHeartbeats 1000000 in
theorem shapePlays_c1f1g0a (a d : Option Addr) (n c m e : Nat) (x y : Nat → Int) (K : Nat) (W : World) (hS : Sl .i64 W a n c x) (hY : Sl .i64 W d m e y) (hx : ∀ i, i < n → -9223372036854775808 ≤ x i ∧ x i ≤ 9223372036854775807) (hy : ∀ i, i < m → -9223372036854775808 ≤ y i ∧ y i ≤ 9223372036854775807) (hn : n ≤ 40) (hm : m ≤ 40) (hC : okC x n = true) (hK : K ≤ 8) (hG : m ≠ n) :
    Calls Try.prog 5 #[.slice a n c, .int .i64 K, .slice d m e] W fun e w' => e = .returned (.bool true) ∧ Below W.heap.size W w' := by
  obtain ⟨h0, h8, hxb⟩ := (okC_iff x n).1 hC
  have HXB := Lib.hid hxb
  clear hx hxb
  have HC := Lib.hid hC
  clear hC
  have HYB := Lib.hid hy
  clear hy
  have HG := Lib.hid hG
  have e1 : ((m : Int) == (n : Int)) = false := by rw [beq_eq_false_iff_ne]; omega
  clear hG
  have HS := Lib.hid hS
  have HY := Lib.hid hY
  clear hS hY
  go_enter Try.func5, Try.ntmps5
  go_wp2_with fail
  refine (awake_yes _).mono ?_
  rintro e w1 ⟨rfl, h1⟩
  have HB1 := Lib.hid h1
  have HS1 := Lib.hid (HS.out.below h1)
  have HY1 := Lib.hid (HY.out.below h1)
  clear h1 HS HY
  go_wp2_with fail
  go_loop [7, 8] (fun s i => ∃ j : Nat, j ≤ n ∧ i = .int .i64 j ∧ s = .bool true) (fun _ i => n - (intOf i).toNat)
  case atStart => exact ⟨0, Nat.zero_le _, rfl, by first | rfl | exact congrArg Value.bool (decide_eq_true (by omega))⟩
  case round =>
    obtain ⟨j, hj, rfl, rfl⟩ := hrel
    by_cases hlt : j < n
    · obtain ⟨b, o, rfl, hc⟩ := HS1.out.2.2 (by omega)
      have c0 := hc j hlt
      obtain ⟨v1, v2⟩ := HXB.out j hlt
      obtain ⟨v, hv⟩ : ∃ v, x j = v := ⟨_, rfl⟩
      rw [hv] at c0 v1 v2
      clear hc hv
      go_wp2_with fail
      go_round
      case rel => exact ⟨j + 1, by omega, by go_num, rfl⟩
      case measure => simp [intOf]; omega
    · obtain rfl : j = n := by omega
      go_wp2_with fail
      refine (find_yes a j c K x _ HS1.out HC.out hK).mono ?_
      rintro e w2 ⟨g, U, rfl, hg, hU, hA, h2⟩
      have HB2 := Lib.hid (below_trans HB1.out h2 HB1.out.size)
      have HS2 := Lib.hid (HS1.out.below h2)
      have HY2 := Lib.hid (HY1.out.below h2)
      have HU := Lib.hid hU
      have HA := Lib.hid hA
      obtain ⟨b, o, rfl, hc⟩ := HS2.out.2.2 h0
      have HRF := Lib.hid (refFind_as b o j c K x w2 hc h0 h8 HXB.out hK)
      clear hg hU hA h2 hc HB1 HS1 HY1
      go_wp2_with fail
      refine HRF.out.mono ?_
      rintro e w3 ⟨g2, V, rfl, hg, hV, hA, h3⟩
      have HT := Lib.hid (show T2P W g g2 j (fS x j K) w3 from ⟨below_trans HB2.out h3 HB2.out.size, fun i hi => HU.out.cell (HA.out.below h3 HA.out.lt) i hi, fun i hi => hV.cell hA i hi⟩)
      have HZ := Lib.hid (show ∀ w', Below w3.heap.size w3 w' → Sl .i64 w' (some ⟨b, o, none⟩) j c x ∧ Sl .i64 w' d m e y from fun w' h => ⟨(HS2.out.below h3).below h, (HY2.out.below h3).below h⟩)
      have hmm : ((j : Int) != (j : Int)) = false := by simp
      clear hg hV hA h3 HB2 HRF HU HA HS2 HY2
      go_wp2_with fail
      go_loopw [12] (fun i w' => ∃ p : Nat, p ≤ j ∧ i = .int .i64 p ∧ T2P W g g2 j (fS x j K) w' ∧ Below w3.heap.size w3 w') (fun i _ => j - (intOf i).toNat)
      case atStart => exact ⟨0, Nat.zero_le _, rfl, HT.out, Below.refl _ _⟩
      case round =>
        obtain ⟨p, hp, rfl, ht, hb⟩ := hrel
        have HTT := Lib.hid ht
        have HBB := Lib.hid hb
        clear ht HT hb
        by_cases hlt2 : p < j
        · have d0 := HTT.out.2.1 p hlt2
          have d1 := HTT.out.2.2 p hlt2
          obtain ⟨v, hv⟩ : ∃ v, fS x j K p = v := ⟨_, rfl⟩
          rw [hv] at d0 d1
          have q1 : (v != v) = false := by simp
          have k0 : (0 : Int) ≤ (p : Int) := by omega
          have k1 : (p : Int) < (j : Int) := by omega
          clear hv HZ
          go_wp2_with fail
          go_quiet (fail)
          go_wp2_with fail
          go_roundw
          case rel => exact ⟨p + 1, by omega, by go_num, HTT.out.drewN _, below_drewN HBB.out _⟩
          case measure => simp [intOf]; omega
        · obtain rfl : p = j := by omega
          have HB2 := Lib.hid HTT.out.1
          have HS2 := Lib.hid (HZ.out _ HBB.out).1
          have HY2 := Lib.hid (HZ.out _ HBB.out).2
          clear HTT HBB HZ hmm
          obtain ⟨w4, hw4⟩ : ∃ w4, wr = w4 := ⟨_, rfl⟩
          rw [hw4] at HB2 HS2 HY2 ⊢
          clear hw4
          go_wp2_with fail
          refine (gain_no (some ⟨b, o, none⟩) d p c m e x y _ HS2.out HY2.out (.inr (.inl HG.out))).mono ?_
          rintro e w5 ⟨rfl, rfl⟩
          go_wp2_with fail
          go_loop [15, 16] (fun s i => ∃ q : Nat, q ≤ m ∧ i = .int .i64 q ∧ s = .bool false) (fun _ i => m - (intOf i).toNat)
          case atStart => exact ⟨0, Nat.zero_le _, rfl, rfl⟩
          case round =>
            obtain ⟨q, hq, rfl, rfl⟩ := hrel
            by_cases hlt : q < m
            · go_wp2_with fail
              go_round
              case rel => exact ⟨q + 1, by omega, by go_num, rfl⟩
              case measure => simp [intOf]; omega
            · obtain rfl : q = m := by omega
              go_wp2_with fail
              go_ret
              exact ⟨rfl, HB2.out⟩

end Go.Proofs.Ytncieojippiokaa.Sh
