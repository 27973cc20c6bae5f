/- Texts of the walk, one behind the other. -/
import Derived.Test.YtfohinlldchdpaaGreatDoorWholeWayM20
import Derived.Test.YtfohinlldchdpaaGreatDoorWholeWayM14

section
/- Contracts of vect's Count and Bits. -/
set_option maxRecDepth 100000
set_option linter.unusedVariables false
namespace Go.Proofs.YtfohinlldchdpaaGreatDoor.Ve
open Go.RowKit Go.Proofs.YtfohinlldchdpaaGreatDoor.Row Go.Maps Go.WideMaps

theorem of_any (b : Nat) (n k : Int) (w : World) (h : Cn w b) :
    Calls Tryz.prog 169 #[.map (some b), .int .i64 n, .int .i64 k] w fun e w' => e = .returned (.int .i64 (cI n k)) ∧ Ofs w b w' := by
  by_cases c : n < 0 ∨ 8 < n ∨ k < 0 ∨ 8 < k
  · exact of_end w b n k h (.inl c)
  · exact of_in b (n + k).toNat n k w (by omega) (by omega) (by omega) (by omega) (by omega) h

theorem of_as (b : Nat) (n k : Int) (c : Nat) (w : World) (e : cI n k = c) (h : Cn w b) :
    Calls Tryz.prog 169 #[.map (some b), .int .i64 n, .int .i64 k] w fun e w' => e = .returned (.int .i64 c) ∧ Ofs w b w' := by
  rw [← e]; exact of_any b n k w h

theorem ofs_made {w w' : World} (h : Ofs (w.alloc (.map #[] 0)) w.heap.size w') : Below w.heap.size w w' :=
  (((Fr.refl (Just w.heap.size) w).alloc _).same h.2).below (Nat.le_refl _) fun k e => by rw [e]; exact Nat.le_refl _

theorem count_any (n k : Int) (w : World) :
    Calls Tryz.prog 172 #[.int .i64 n, .int .i64 k] w fun e w' => e = .returned (.int .i64 (cI n k)) ∧ Below w.heap.size w w' := by
  have hmm := @run_makeMap Tryz.prog
  go_enter Tryz.func172, Tryz.ntmps172
  go_wp2_with fail
  refine (of_any w.heap.size n k _ (cn_made w)).mono ?_
  rintro e w1 ⟨rfl, h1⟩
  go_wp2_with fail
  go_ret
  exact ⟨rfl, ofs_made h1⟩

theorem count_as (n k : Int) (c : Nat) (w : World) (h : cI n k = c) :
    Calls Tryz.prog 172 #[.int .i64 n, .int .i64 k] w fun e w' => e = .returned (.int .i64 c) ∧ Below w.heap.size w w' := by
  rw [← h]; exact count_any n k w

/-- How few digits the numbers of n and k have. -/
def bI (n k : Int) : Nat := Lib.bitLen (cI n k - 1)

theorem bits_any (n k : Int) (w : World) :
    Calls Tryz.prog 123 #[.int .i64 n, .int .i64 k] w fun e w' => e = .returned (.int .i64 (bI n k)) ∧ Below w.heap.size w w' := by
  obtain ⟨c, hc⟩ : ∃ c : Nat, cI n k = c := ⟨_, rfl⟩
  have hle := cI_le n k
  rw [hc] at hle
  have HC := Lib.hid hc
  clear hc
  go_enter Tryz.func123, Tryz.ntmps123
  go_wp2_with fail
  refine (count_as n k c _ HC.out).mono ?_
  rintro e w1 ⟨rfl, h1⟩
  go_wp2_with fail
  all_goals
    refine (Fix.length_any _ _ (by omega) (by omega)).mono ?_
    rintro e w2 ⟨rfl, rfl⟩
    go_wp2_with fail
    go_ret
    refine ⟨ret_int ?_, h1⟩
    unfold bI
    rw [HC.out]
    congr 2
    omega
end Go.Proofs.YtfohinlldchdpaaGreatDoor.Ve
end

section
/- vect's Bits, the result named. -/
set_option maxRecDepth 100000
set_option linter.unusedVariables false
namespace Go.Proofs.YtfohinlldchdpaaGreatDoor.Ve
open Go.RowKit Go.Proofs.YtfohinlldchdpaaGreatDoor.Row

theorem bits_as (n k : Int) (b : Nat) (w : World) (h : bI n k = b) :
    Calls Tryz.prog 123 #[.int .i64 n, .int .i64 k] w fun e w' => e = .returned (.int .i64 b) ∧ Below w.heap.size w w' := by
  rw [← h]; exact bits_any n k w
end Go.Proofs.YtfohinlldchdpaaGreatDoor.Ve
end
