/- Texts of the walk, one behind the other. -/
import Derived.Test.YtfohinlldchdpaaGreatDoorEncPlaysM1
import Derived.Test.YtfohinlldchdpaaGreatDoorEncPlaysM10

section
/- Contracts of level's ends and Size. -/
namespace Go.Proofs.YtfohinlldchdpaaGreatDoor.Lv
open Go.RowKit Go.Proofs.YtfohinlldchdpaaGreatDoor.Row
set_option linter.unusedVariables false

/-- What stands in the list of the bands' first waves. -/
def Tab (w : World) : Prop :=
  w.cell? ⟨0, 0, none⟩ = some (.int .i64 0) ∧ w.cell? ⟨0, 1, none⟩ = some (.int .i64 2) ∧ w.cell? ⟨0, 2, none⟩ = some (.int .i64 4) ∧
    w.cell? ⟨0, 3, none⟩ = some (.int .i64 8) ∧ w.cell? ⟨0, 4, none⟩ = some (.int .i64 16)

theorem Tab.lt {w : World} (h : Tab w) : 0 < w.heap.size := block_lt_of_cell h.1

theorem Tab.below {B : Nat} {w w' : World} (h : Tab w) (hb : Below B w w') (hB : 0 < B) : Tab w' :=
  ⟨(Below.cell hb hB).trans h.1, (Below.cell hb hB).trans h.2.1, (Below.cell hb hB).trans h.2.2.1, (Below.cell hb hB).trans h.2.2.2.1, (Below.cell hb hB).trans h.2.2.2.2⟩

theorem Tab.next {w w' : World} (h : Tab w) (hb : Below w.heap.size w w') : Tab w' := h.below hb h.lt

theorem ends_no (b : Int) (w : World) (h : ¬ (0 ≤ b ∧ b < 4)) :
    Calls Tryz.prog 107 #[.int .i64 b] w fun e w' => e = .returned (.tuple #[.int .i64 0, .int .i64 0]) ∧ Below w.heap.size w w' := by
  by_cases c : b < 0
  · go_enter Tryz.func107, Tryz.ntmps107
    go_wp2
    go_ret2
    exact ⟨rfl, Below.refl _ _⟩
  · have c2 : 4 ≤ b := by omega
    clear h
    go_enter Tryz.func107, Tryz.ntmps107
    go_wp2
    go_ret2
    exact ⟨rfl, Below.refl _ _⟩

theorem ends_yes (b : Nat) (w : World) (hT : Tab w) (h : b < 4) :
    Calls Tryz.prog 107 #[.int .i64 b] w fun e w' => e = .returned (.tuple #[.int .i64 (fs b : Nat), .int .i64 (fs (b + 1) : Nat)]) ∧ Below w.heap.size w w' := by
  obtain ⟨t0, t1, t2, t3, t4⟩ := hT
  have : b = 0 ∨ b = 1 ∨ b = 2 ∨ b = 3 := by omega
  rcases this with rfl | rfl | rfl | rfl
  all_goals
    clear h
    go_enter Tryz.func107, Tryz.ntmps107
    go_wp2
    go_quiet (fail)
    go_wp2
    go_ret2
    exact ⟨rfl, below_drewN (Below.refl _ _) _⟩

theorem ends_as (b : Int) (l h : Nat) (w : World) (hT : Tab w) (hl : lo b = l) (hh : hi b = h) :
    Calls Tryz.prog 107 #[.int .i64 b] w fun e w' => e = .returned (.tuple #[.int .i64 l, .int .i64 h]) ∧ Below w.heap.size w w' := by
  subst hl hh
  by_cases hb : 0 ≤ b ∧ b < 4
  · obtain ⟨n, rfl⟩ := Int.eq_ofNat_of_zero_le hb.1
    have hn : n < 4 := by omega
    show Calls _ _ #[.int .i64 (n : Int)] _ _
    rw [show lo (n : Int) = fs n from lo_nat n hn, show hi (n : Int) = fs (n + 1) from hi_nat n hn]
    exact ends_yes n w hT hn
  · unfold lo hi
    rw [if_neg hb, if_neg hb]
    exact ends_no b w hb

theorem size_as (b r : Int) (w : World) (hT : Tab w) (h : ((hi b : Nat) : Int) - (lo b : Nat) = r) :
    Calls Tryz.prog 133 #[.int .i64 b] w fun e w' => e = .returned (.int .i64 r) ∧ Below w.heap.size w w' := by
  subst h
  have hb := band_cases b
  obtain ⟨l, hl⟩ : ∃ l, lo b = l := ⟨_, rfl⟩
  obtain ⟨h, hh⟩ : ∃ h, hi b = h := ⟨_, rfl⟩
  rw [hl, hh] at hb ⊢
  have b1 : l ≤ 16 ∧ h ≤ 16 := by omega
  obtain ⟨b1, b2⟩ := b1
  have HL := Lib.hid hl
  have HH := Lib.hid hh
  clear hl hh hb
  go_enter Tryz.func133, Tryz.ntmps133
  go_wp2_with (go_at_call 107; (with_reducible refine (ends_as b l h _ hT HL.out HH.out).mono ?_); rintro e w1 ⟨rfl, hw1⟩)
  go_ret
  exact ⟨rfl, by assumption⟩
end Go.Proofs.YtfohinlldchdpaaGreatDoor.Lv
end
