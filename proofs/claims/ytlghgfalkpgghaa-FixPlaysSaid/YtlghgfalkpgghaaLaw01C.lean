/- The statements' walks of layer 1, third part: FixPlays. -/
import Derived.Test.YtlghgfalkpgghaaLaw01B
namespace Go.Proofs.Ytlghgfalkpgghaa.Law01
open Go.RowKit Go.Proofs.Ytlghgfalkpgghaa.Fix
set_option linter.unusedVariables false

/-- One of the factors is out of bounds. -/
def farB (a b : Int) : Bool := decide (a < -2147483648 ∨ 2147483648 < a ∨ b < -2147483648 ∨ 2147483648 < b)
theorem far_yes {a b : Int} (h : a < -2147483648 ∨ 2147483648 < a ∨ b < -2147483648 ∨ 2147483648 < b) : true = farB a b := (decide_eq_true h).symm
theorem far_no {a b : Int} (h : ¬ (a < -2147483648 ∨ 2147483648 < a ∨ b < -2147483648 ∨ 2147483648 < b)) : false = farB a b := (decide_eq_false h).symm

/-- There are no such bits to cut to. -/
def outB (n : Int) : Bool := decide (n < 1) || decide (62 < n)
theorem out_yes {n : Int} (h : n < 1 ∨ 62 < n) : true = outB n := by unfold outB; simp; omega
theorem out_no {n : Int} (h : ¬ (n < 1 ∨ 62 < n)) : false = outB n := by unfold outB; simp; omega

theorem up_in (x n p : Int) (h1 : -1099511627776 ≤ x) (h2 : x ≤ 1099511627776) (h3 : -20 ≤ n) (h4 : n ≤ 0) (hp : 2 ^ (-n).toNat = p) : shiftS x n = x * p := by
  unfold shiftS
  rw [if_neg (by omega), if_neg (by omega), hp]
theorem out_in (x n : Int) (h : x < -1099511627776 ∨ 1099511627776 < x ∨ n < -20 ∨ 40 < n) : shiftS x n = 0 := by
  unfold shiftS
  rw [if_pos h]

theorem refcut_as (x n y : Int) (w : World) (h1 : 1 ≤ n) (h2 : n ≤ 62) (h : cutS x n = y) :
    Calls Try.prog 17 #[.int .i64 x, .int .i64 n] w fun e w' => e = .returned (.int .i64 y) ∧ w = w' := by
  subst h; exact Ref01.cut_any x n w h1 h2
theorem reflen_as (x : Int) (n : Nat) (w : World) (h1 : 0 ≤ x) (h2 : x ≤ 9223372036854775807) (h : Lib.bitLen x.natAbs = n) :
    Calls Try.prog 18 #[.int .i64 x] w fun e w' => e = .returned (.int .i64 (n : Int)) ∧ w = w' := by
  subst h; exact Ref01.length_any x w h1 h2

set_option maxHeartbeats 1000000 in
set_option maxRecDepth 100000 in
theorem fixPlays_walk (a0 : Int) (a1 : Int) (a2 : Int) (a3 : Int) (w0 : (Lit.int .i64 a0).wf = true) (w1 : (Lit.int .i64 a1).wf = true) (w2 : (Lit.int .i64 a2).wf = true) (w3 : (Lit.int .i64 a3).wf = true) (w : World) :
    Calls Try.prog 6 #[.int .i64 a0, .int .i64 a1, .int .i64 a2, .int .i64 a3] w fun e w' => e = .returned (.bool true) ∧ Grown w w' := by
  obtain ⟨c1, c2⟩ := bounds_i64 w2
  obtain ⟨d1, d2⟩ := bounds_i64 w3
  clear w0 w1 w2 w3
  go_enter Try.func6, Try.ntmps6
  go_upto_region 3 with (go_at_call 11; refine (awake_yes _).mono ?_; rintro e w' ⟨rfl, rfl⟩)
  go_cut [9] (fun s wx => s = .bool (farB a0 a1) ∧ w = wx)
  case first =>
    by_cases f1 : a0 < -2147483648
    · go_wp2_with fail
      go_meet
      case rel => exact ⟨congrArg Value.bool (far_yes (by omega)), rfl⟩
    · by_cases f2 : 2147483648 < a0
      · go_wp2_with fail
        go_meet
        case rel => exact ⟨congrArg Value.bool (far_yes (by omega)), rfl⟩
      · by_cases f3 : a1 < -2147483648
        · go_wp2_with fail
          go_meet
          case rel => exact ⟨congrArg Value.bool (far_yes (by omega)), rfl⟩
        · by_cases f4 : 2147483648 < a1
          · go_wp2_with fail
            go_meet
            case rel => exact ⟨congrArg Value.bool (far_yes (by omega)), rfl⟩
          · go_wp2_with fail
            go_meet
            case rel => exact ⟨congrArg Value.bool (far_no (by omega)), rfl⟩
  case rest =>
    obtain ⟨rfl, rfl⟩ := hcut
    go_upto_region 4 with fail
    go_cut [9, 46] (fun _ s wx => s = .bool false ∧ w = wx)
    case first =>
      by_cases f : a0 < -2147483648 ∨ 2147483648 < a0 ∨ a1 < -2147483648 ∨ 2147483648 < a1
      · have fb : farB a0 a1 = true := (far_yes f).symm
        have F := Lib.hid f
        clear f
        go_wp2_with (go_at_call 15; refine (mul_out _ _ _ F.out).mono ?_; rintro e w' ⟨rfl, rfl⟩)
        go_meet
        case rel => exact ⟨rfl, rfl⟩
      · have fb : farB a0 a1 = false := (far_no f).symm
        have f1 : -2147483648 ≤ a0 := by omega
        have f2 : a0 ≤ 2147483648 := by omega
        have f3 : -2147483648 ≤ a1 := by omega
        have f4 : a1 ≤ 2147483648 := by omega
        clear f
        go_wp2_with (first
          | (go_at_call 15; refine (mul_in _ _ _ (by omega) (by omega) (by omega) (by omega)).mono ?_; rintro e w' ⟨rfl, rfl⟩)
          | (go_at_call 16; refine (Ref01.mul_any _ _ _ (by omega) (by omega) (by omega) (by omega)).mono ?_; rintro e w' ⟨rfl, rfl⟩))
        go_meet
        case rel => exact ⟨rfl, rfl⟩
    case rest =>
      obtain ⟨rfl, rfl⟩ := hcut
      obtain ⟨c, hc⟩ : ∃ c, cutS a2 a3 = c := ⟨_, rfl⟩
      have HC := Lib.hid hc
      obtain ⟨l, hl⟩ : ∃ c : Nat, Lib.bitLen a2.natAbs = c := ⟨_, rfl⟩
      have HL := Lib.hid hl
      have HN := Lib.hid (show Lib.bitLen (-a2).natAbs = l by rw [Int.natAbs_neg]; exact hl)
      clear hl
      obtain ⟨p, hp⟩ : ∃ p : Int, 2 ^ (-a3).toNat = p := ⟨_, rfl⟩
      have HP := Lib.hid hp
      have hx : a2 ≤ -4611686018427387904 ∨ (-4611686018427387904 < a2 ∧ a2 < -1099511627776) ∨ (-1099511627776 ≤ a2 ∧ a2 < 0) ∨ (0 ≤ a2 ∧ a2 ≤ 1099511627776) ∨ 1099511627776 < a2 := by omega
      have HX := Lib.hid hx
      clear hx
      go_upto_region 6 with fail
      obtain ⟨o, ho⟩ : ∃ o, outB a3 = o := ⟨_, rfl⟩
      have HO := Lib.hid ho
      clear ho
      go_cut [46, 52] (fun _ s wx => s = .bool o ∧ w = wx)
      case first =>
        clear HX HL HN HP
        have hn : a3 < 1 ∨ (1 ≤ a3 ∧ a3 ≤ 62) ∨ 62 < a3 := by omega
        rcases hn with n1 | ⟨n1, n2⟩ | n1
        all_goals
          (go_wp2_with fail
           go_meet
           case rel => exact ⟨congrArg Value.bool (Eq.trans (by first | rfl | exact out_yes (n := a3) (by omega) | exact out_no (n := a3) (by omega)) HO.out), rfl⟩)
      case rest =>
      obtain ⟨rfl, rfl⟩ := hcut
      go_upto_if 52 with fail
      go_cut [52] (fun _ wx => w = wx)
      case first =>
        clear HX HL HN HP
        have HN : Hid ((o = true → a3 < 1 ∨ 62 < a3) ∧ (o = false → 1 ≤ a3 ∧ a3 ≤ 62)) := by
          refine Lib.hid ?_
          rw [← HO.out]
          by_cases h : a3 < 1 ∨ 62 < a3
          · exact ⟨fun _ => h, fun g => by rw [← out_yes h] at g; cases g⟩
          · exact ⟨fun g => (by rw [← out_no h] at g; cases g), fun _ => by omega⟩
        clear HO
        cases o
        all_goals
          (go_wp2_with (first
            | (go_at_call 9; (with_reducible refine (cut_out _ _ _ (HN.out.1 (by first | exact rfl | trivial))).mono ?_); rintro e w' ⟨rfl, rfl⟩)
            | (go_at_call 9; (with_reducible refine (cut_as _ _ c _ HC.out).mono ?_); rintro e w' ⟨rfl, rfl⟩)
            | (go_at_call 17; refine (refcut_as _ _ c _ (HN.out.2 (by first | exact rfl | trivial)).1 (HN.out.2 (by first | exact rfl | trivial)).2 HC.out).mono ?_; rintro e w' ⟨rfl, rfl⟩))
           go_meet
           case rel => exact rfl)
      case rest =>
        obtain rfl := hcut
        clear HC hc
        go_upto_region 11 with fail
        go_cut [89] (fun s wx => s = .bool false ∧ w = wx)
        case first =>
          clear HP
          rcases HX.out with x1 | ⟨x1, x2⟩ | ⟨x1, x2⟩ | ⟨x1, x2⟩ | x1
          all_goals
            (go_wp2_with (first
              | (go_at_call 13; (with_reducible refine (length_as _ l _ (by omega) (by omega) HL.out).mono ?_); rintro e w' ⟨rfl, rfl⟩)
              | (go_at_call 18; (with_reducible refine (reflen_as _ l _ (by omega) (by omega) (by with_reducible first | exact HL.out | exact HN.out)).mono ?_); rintro e w' ⟨rfl, rfl⟩))
             go_meet
             case rel => exact ⟨rfl, rfl⟩)
        case rest =>
          obtain ⟨rfl, rfl⟩ := hcut
          clear HL HN HX
          by_cases x1 : a2 < -1099511627776
          · have HS := Lib.hid (out_in a2 a3 (by omega))
            go_wp2_with (go_at_call 14; (with_reducible refine (shift_as _ _ 0 _ HS.out).mono ?_); rintro e w' ⟨rfl, rfl⟩)
            go_ret
            exact ⟨rfl, Grown.refl _⟩
          · by_cases x2 : 1099511627776 < a2
            · have HS := Lib.hid (out_in a2 a3 (by omega))
              go_wp2_with (go_at_call 14; (with_reducible refine (shift_as _ _ 0 _ HS.out).mono ?_); rintro e w' ⟨rfl, rfl⟩)
              go_ret
              exact ⟨rfl, Grown.refl _⟩
            · by_cases n1 : 40 < a3
              · have HS := Lib.hid (out_in a2 a3 (by omega))
                go_wp2_with (go_at_call 14; (with_reducible refine (shift_as _ _ 0 _ HS.out).mono ?_); rintro e w' ⟨rfl, rfl⟩)
                go_ret
                exact ⟨rfl, Grown.refl _⟩
              · by_cases n2 : a3 < -20
                · have HS := Lib.hid (out_in a2 a3 (by omega))
                  go_wp2_with (go_at_call 14; (with_reducible refine (shift_as _ _ 0 _ HS.out).mono ?_); rintro e w' ⟨rfl, rfl⟩)
                  go_ret
                  exact ⟨rfl, Grown.refl _⟩
                · by_cases n3 : a3 ≤ 0
                  · have HS := Lib.hid (up_in a2 a3 p (by omega) (by omega) (by omega) n3 hp)
                    obtain ⟨p1, p2⟩ := pow_bd (show (-a3).toNat ≤ 20 by omega)
                    rw [hp] at p1 p2
                    simp only [Int.reducePow] at p2
                    obtain ⟨q1, q2⟩ := mul_bd a2 p 1099511627776 1048576 (by omega) (by omega) (by omega) (by omega)
                    simp only [Int.reduceMul, Int.reduceNeg] at q1 q2
                    clear hp
                    go_wp2_with (first
                      | (go_at_call 14; (with_reducible refine (shift_as _ _ (a2 * p) _ HS.out).mono ?_); rintro e w' ⟨rfl, rfl⟩)
                      | (go_at_call 10; (with_reducible refine (pow_as _ p _ (by omega) (by omega) HP.out).mono ?_); rintro e w' ⟨rfl, rfl⟩))
                    go_ret
                    exact ⟨rfl, Grown.refl _⟩
                  · go_wp2_with (first
                      | (go_at_call 14; (with_reducible refine (shift_any _ _ _).mono ?_); rintro e w' ⟨rfl, rfl⟩)
                      | (go_at_call 19; refine (Ref01.shift_any _ _ _ (by omega) (by omega) (by omega) (by omega)).mono ?_; rintro e w' ⟨rfl, rfl⟩))
                    go_ret
                    exact ⟨rfl, Grown.refl _⟩

end Go.Proofs.Ytlghgfalkpgghaa.Law01
