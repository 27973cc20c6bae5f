/- The statements' walks of layer 3, second part: AngleWindow, AnglePlays. -/
import Derived.Test.YthghbpghmbkjmaaAngB
import Derived.Test.YthghbpghmbkjmaaAngRef
import Derived.Test.YthghbpghmbkjmaaLaw03A
import Derived.Deep.QuietTactic
import Derived.BigQuiet
import Derived.Deep.WholeRow
namespace Go.Proofs.Ythghbpghmbkjmaa.Ang
open Go.RowKit

theorem below_drewN {B : Nat} {w0 w : World} (h : Below B w0 w) (k : Nat) : Below B w0 (w.drewN k) := ⟨h.os, h.tape, h.output, h.size, h.block⟩

/-- A number of a row. -/
theorem row_cell {w : World} {g m : Nat} {f : Nat → Int} {t : TypeId} (h : w.heap[g]? = some (.cells (rowL m f m) t (0, 0))) (k : Nat) (hk : k < m) : w.cell? ⟨g, k, none⟩ = some (.int .i64 (f k)) := by
  rw [cell_of_row _ _ k _ _ _ h, rowL_get _ _ _ _ hk, if_pos hk]

set_option maxHeartbeats 1000000 in
theorem angleWindow_walk (a0 : Int) (w0 : (Lit.int .u8 a0).wf = true) (w : World) :
    Calls Try.prog 6 #[.int .u8 a0] w fun e w' => e = .returned (.bool true) ∧ Below w.heap.size w w' := by
  obtain ⟨b1, b2⟩ := bounds_u8 w0
  clear w0
  obtain ⟨k, hk, hk16⟩ : ∃ k : Nat, a0 % 16 = (k : Int) ∧ k < 16 := ⟨(a0 % 16).toNat, by omega, by omega⟩
  go_enter Try.func6, Try.ntmps6
  go_wp2_with (first
    | (go_at_call 8; refine (awake_yes _).mono ?_; rintro e w' ⟨rfl, rfl⟩)
    | (go_at_call 12; refine (win_any _).mono ?_; rintro e w1 ⟨rfl, hw1⟩)
    | refine wpList_store_row rfl 28 _ _ rfl w1.heap.size (rowL 32 winS 32) rfl rfl _ _ (heap_alloc_new _ _) (win_size 32) (by rw [rowL_size]; rfl) (rowL_one 32 winS 32) ?_)
  rw [World.setRow_alloc_new, hk]
  have hbW : Below w.heap.size w (w1.alloc (.cells (rowL 32 winS 32) 28)) := hw1.alloc hw1.size _
  have hrow := heap_alloc_new w1 (.cells (rowL 32 winS 32) 28)
  revert hbW hrow
  generalize w1.alloc (.cells (rowL 32 winS 32) 28) = W
  generalize w1.heap.size = b
  intro hbW hrow
  clear hw1 hk
  obtain ⟨q1, q2, q3, q4, q5⟩ := window k hk16
  have c0 := row_cell hrow k (by omega)
  have c1 := row_cell hrow (k + 16) (by omega)
  obtain ⟨j, hj, hj32⟩ : ∃ j : Nat, 31 - k = j ∧ j < 32 := ⟨_, rfl, by omega⟩
  have hwr : IntKind.i64.wrap (31 - (k : Int)) = (j : Int) := by rw [IntKind.wrap_i64]; omega
  have j1 : (j : Int) < 32 := by omega
  have c2 := row_cell hrow j (by omega)
  have c3 := row_cell hrow (k + 1) (by omega)
  rw [hj] at q1
  rw [← q1] at c2
  clear hrow q1 hj hj32
  have r0 := sq0 (winS k)
  have r1 := sq0 (winS (k + 16))
  generalize winS k = p at *
  generalize winS (k + 16) = q at *
  generalize winS (k + 1) = n at *
  have i1 : (0 : Int) ≤ (k : Int) := by omega
  have i2 : (k : Int) < 16 := by omega
  have i3 : (k : Int) < 32 := by omega
  have i6 : (k : Int) + 1 < 32 := by omega
  have i7 : (k : Int) + 16 < 32 := by omega
  by_cases h15 : k = 15
  · have e15 : ((k : Int) == 15) = true := by rw [beq_iff_eq]; omega
    clear q3 c3 h15
    go_quiet (fail)
    go_wp2
    go_quiet (fail)
    go_wp2
    go_ret
    exact ⟨rfl, below_drewN (below_drewN hbW _) _⟩
  · have q6 := q3 h15
    have e15 : ((k : Int) == 15) = false := by rw [beq_eq_false_iff_ne]; omega
    clear q3
    go_quiet (fail)
    go_wp2
    go_quiet (fail)
    go_wp2
    go_ret
    exact ⟨rfl, below_drewN (below_drewN hbW _) _⟩
end Go.Proofs.Ythghbpghmbkjmaa.Ang
