/- Contracts of the document's Bounds, Cost, Right. -/
import Derived.Test.YtfcaigggacgfkaaDoorSpD
import Derived.Test.YtfcaigggacgfkaaDoorVeS
import Derived.Test.YtfcaigggacgfkaaDoorCRefLength
set_option maxRecDepth 100000
set_option linter.unusedVariables false
namespace Go.Proofs.YtfcaigggacgfkaaDoor.Sp
open Go.RowKit Go.Proofs.YtfcaigggacgfkaaDoor.Row

theorem bounds_as (b : Nat) (w : World) (h : b < 4) :
    Calls Tryd.prog 25 #[.int .i64 b] w fun e w' => e = .returned (.tuple #[.int .i64 (Lv.fs b : Nat), .int .i64 (Lv.fs (b + 1) : Nat)]) ∧ Below w.heap.size w w' := by
  have : b = 0 ∨ b = 1 ∨ b = 2 ∨ b = 3 := by omega
  rcases this with rfl | rfl | rfl | rfl
  all_goals
    clear h
    go_enter Tryd.func25, Tryd.ntmps25
    go_wp2_with fail
    go_quiet (fail)
    go_wp2_with fail
    go_ret2
    exact ⟨rfl, below_drewN ((Below.refl _ _).alloc (Nat.le_refl _) _) _⟩

theorem run_max0 (x u : Int) (h : max x 0 = u) (w : World) :
    (Builtin.max_ #[3, 3] 3 #[.int .i64 x, .int .i64 0]).run Tryd.prog w = .ok (.int .i64 u) w := by
  have e : (if x < 0 then 0 else x) = u := by rw [← h]; split <;> omega
  rw [← e]
  simp [Builtin.max_, Builtin.max2]
theorem refLength_as (x : Int) (b : Nat) (w : World) (h1 : 0 ≤ x) (h2 : x ≤ 9223372036854775807) (h : Lib.bitLen x.natAbs = b) :
    Calls Tryd.prog 26 #[.int .i64 x] w fun e w' => e = .returned (.int .i64 b) ∧ w = w' := by
  rw [← h]; exact Ref01.length_any x w h1 h2

theorem fs_size {b : Nat} (h : b < 4) : ((Lv.fs (b + 1) : Nat) : Int) - (Lv.fs b : Nat) = sB b := by
  have : b = 0 ∨ b = 1 ∨ b = 2 ∨ b = 3 := by omega
  rcases this with rfl | rfl | rfl | rfl <;> rfl
theorem sB_le {b : Nat} (h : b < 4) : sB b ≤ 8 := by
  have : b = 0 ∨ b = 1 ∨ b = 2 ∨ b = 3 := by omega
  rcases this with rfl | rfl | rfl | rfl <;> decide

theorem refCost_as (b k c : Nat) (w : World) (hb : b < 4) (hk : k ≤ 8) (hc : P b k = c) :
    Calls Tryd.prog 16 #[.int .i64 b, .int .i64 k] w fun e w' => e = .returned (.int .i64 c) ∧ Below w.heap.size w w' := by
  have HB := Lib.hid (bounds_as b w hb)
  have hs := fs_size hb
  have h8 := sB_le hb
  unfold P at hc
  rw [Ve.cI_nat h8 hk] at hc
  have hV := Ve.V_le h8 hk
  have f1 : Lv.fs b ≤ 16 := by
    have : b = 0 ∨ b = 1 ∨ b = 2 ∨ b = 3 := by omega
    rcases this with rfl | rfl | rfl | rfl <;> decide
  obtain ⟨p, hp⟩ : ∃ p, Lv.fs b = p := ⟨_, rfl⟩
  obtain ⟨q, hq⟩ : ∃ q, Lv.fs (b + 1) = q := ⟨_, rfl⟩
  obtain ⟨s, hse⟩ : ∃ s, sB b = s := ⟨_, rfl⟩
  obtain ⟨v, hv⟩ : ∃ v, Ve.V s k = v := ⟨_, rfl⟩
  rw [hp, hq] at HB
  rw [hp, hq, hse] at hs
  rw [hse] at hc h8 hV
  rw [hv] at hc hV
  rw [hp] at f1
  have HV : Hid (∀ w, Calls Tryd.prog 27 #[.int .i64 ((q : Int) - p), .int .i64 k] w fun e w' => e = .returned (.int .i64 v) ∧ Below w.heap.size w w') := Lib.hid fun w => by
    rw [hs, ← hv]; exact Ve.refCount_as s k w h8 hk
  have q16 : q ≤ 24 := by omega
  have HL := Lib.hid (fun w => refLength_as (max ((v : Int) - 1) 0) c w (by omega) (by omega) (by rw [show (max ((v : Int) - 1) 0).natAbs = v - 1 by omega]; exact hc))
  clear hp hq hse hv hb hk hc h8 hs
  go_enter Tryd.func16, Tryd.ntmps16
  go_wp2_with fail
  refine HB.out.mono ?_
  rintro e w1 ⟨rfl, h1⟩
  have H1 := Lib.hid h1
  clear h1 HB
  go_wp2_with fail
  with_reducible refine (HV.out _).mono ?_
  rintro e w2 ⟨rfl, h2⟩
  have H2 := Lib.hid (below_trans H1.out h2 H1.out.size)
  clear h2 HV H1
  go_wp2_with fail
  with_reducible refine (HL.out _).mono ?_
  rintro e w3 ⟨rfl, rfl⟩
  go_wp2_with fail
  go_ret
  exact ⟨rfl, H2.out⟩

/-- Whether pulses can be given. -/
def okP (L : Nat → Int) (bits : Int) : Prop := okL L ∧ 0 ≤ bits ∧ bits ≤ 1048576

theorem right_yes (T : Array Value) (L : Nat → Int) (bits : Int) (w : World) (hT : IsRow 4 L T) (h : okP L bits) :
    Calls Tryd.prog 14 #[.agg T, .int .i64 bits] w fun e w' => e = .returned (.bool true) ∧ Below w.heap.size w w' := by
  have HC := Lib.hid (hT.cell (At.new w T 22))
  obtain ⟨hL, h0, h1⟩ := h
  have HL := Lib.hid hL
  clear hT hL
  go_enter Tryd.func14, Tryd.ntmps14
  go_wp2_with fail
  go_loop [5] (fun i => ∃ k : Nat, k ≤ 4 ∧ i = .int .i64 k) (fun i => 4 - (intOf i).toNat)
  case atStart => exact ⟨0, by omega, rfl⟩
  case round =>
    obtain ⟨k, hk, rfl⟩ := hrel
    by_cases hlt : k < 4
    · have c0 := HC.out k hlt
      obtain ⟨x0, x1⟩ := HL.out k hlt
      obtain ⟨x, hx⟩ : ∃ x, L k = x := ⟨_, rfl⟩
      rw [hx] at c0 x0 x1
      clear hx
      have k0 : (0 : Int) ≤ (k : Int) := by omega
      have k1 : (k : Int) < 4 := by omega
      have b1 : decide (x < 0) = false := decide_eq_false (by omega)
      have b2 : decide (20 < x) = false := decide_eq_false (by omega)
      go_wp2_with fail
      go_round
      case rel => exact ⟨k + 1, by omega, by go_num⟩
      case measure => simp [intOf]; omega
    · obtain rfl : k = 4 := by omega
      have b1 : decide (0 ≤ bits) = true := decide_eq_true h0
      have b2 : decide (bits ≤ 1048576) = true := decide_eq_true h1
      go_wp2_with fail
      go_ret
      exact ⟨rfl, (Below.refl _ _).alloc (Nat.le_refl _) _⟩

theorem right_no (T : Array Value) (L : Nat → Int) (bits : Int) (w : World) (hT : IsRow 4 L T) (h : ¬ okP L bits) :
    Calls Tryd.prog 14 #[.agg T, .int .i64 bits] w fun e w' => e = .returned (.bool false) ∧ Below w.heap.size w w' := by
  have HC := Lib.hid (hT.cell (At.new w T 22))
  have HN := Lib.hid h
  clear hT h
  go_enter Tryd.func14, Tryd.ntmps14
  go_wp2_with fail
  go_loop [5] (fun i => ∃ k : Nat, k ≤ 4 ∧ i = .int .i64 k ∧ Hid (∀ j, j < k → 0 ≤ L j ∧ L j ≤ 20)) (fun i => 4 - (intOf i).toNat)
  case atStart => exact ⟨0, by omega, rfl, Lib.hid fun j hj => absurd hj (Nat.not_lt_zero j)⟩
  case round =>
    obtain ⟨k, hk, rfl, HK⟩ := hrel
    by_cases hlt : k < 4
    · have c0 := HC.out k hlt
      obtain ⟨x, hx⟩ : ∃ x, L k = x := ⟨_, rfl⟩
      have HX := Lib.hid hx
      rw [hx] at c0
      clear hx
      have k0 : (0 : Int) ≤ (k : Int) := by omega
      have k1 : (k : Int) < 4 := by omega
      by_cases x0 : x < 0
      · have b1 : decide (x < 0) = true := decide_eq_true x0
        go_wp2_with fail
        go_ret
        exact ⟨rfl, (Below.refl _ _).alloc (Nat.le_refl _) _⟩
      have b1 : decide (x < 0) = false := decide_eq_false x0
      by_cases x1 : 20 < x
      · have b2 : decide (20 < x) = true := decide_eq_true x1
        go_wp2_with fail
        go_ret
        exact ⟨rfl, (Below.refl _ _).alloc (Nat.le_refl _) _⟩
      have b2 : decide (20 < x) = false := decide_eq_false x1
      go_wp2_with fail
      go_round
      case rel =>
        refine ⟨k + 1, by omega, by go_num, Lib.hid fun j hj => ?_⟩
        by_cases c : j = k
        · rw [c, HX.out]; omega
        · exact HK.out j (by omega)
      case measure => simp [intOf]; omega
    · obtain rfl : k = 4 := by omega
      have hB : ¬ (0 ≤ bits ∧ bits ≤ 1048576) := fun hb => HN.out ⟨HK.out, hb⟩
      by_cases c : 0 ≤ bits
      · have b1 : decide (0 ≤ bits) = true := decide_eq_true c
        have b2 : decide (bits ≤ 1048576) = false := decide_eq_false fun c2 => hB ⟨c, c2⟩
        clear hB
        go_wp2_with fail
        go_ret
        exact ⟨ret_bool (by first | rfl | assumption | simp [b1, b2]), (Below.refl _ _).alloc (Nat.le_refl _) _⟩
      · have b1 : decide (0 ≤ bits) = false := decide_eq_false c
        clear hB
        go_wp2_with fail
        go_ret
        exact ⟨ret_bool (by first | rfl | assumption | simp [b1]), (Below.refl _ _).alloc (Nat.le_refl _) _⟩
end Go.Proofs.YtfcaigggacgfkaaDoor.Sp
