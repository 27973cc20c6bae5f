/- Contract of the statements' awake. -/
import Derived.Test.YtlnmpgbknalagaaDoorLvF
import Derived.Test.YtlnmpgbknalagaaDoorRowMvF
namespace Go.Proofs.YtlnmpgbknalagaaDoor.Lv
open Go.RowKit Go.Proofs.YtlnmpgbknalagaaDoor.Row

theorem no_guard : Tryd.prog.eqGuardType Tryd.prog.depth 25 = false := by kernel_rfl

def exS (i : Nat) : Int := if i = 0 then 3 else if i = 1 then -4 else 0
theorem built_ex : ∃ T, IsRow 16 exS T ∧ ∀ a : Act, Tryd.prog.built 25 ((#[(0, .const (.int .i64 3)), (1, .const (.int .i64 (-4)))] : Array (Nat × Operand)).map fun (i, x) => (i, a.eval x)).toList = some T := by
  refine ⟨#[.int .i64 3, .int .i64 (-4), .int .i64 0, .int .i64 0, .int .i64 0, .int .i64 0, .int .i64 0, .int .i64 0, .int .i64 0, .int .i64 0, .int .i64 0, .int .i64 0, .int .i64 0, .int .i64 0, .int .i64 0, .int .i64 0], ⟨rfl, by kernel_rfl, fun k hk => ?_⟩, fun a => by kernel_rfl⟩
  match k, hk with
  | 0, _ | 1, _ | 2, _ | 3, _ | 4, _ | 5, _ | 6, _ | 7, _ | 8, _ | 9, _ | 10, _ | 11, _ | 12, _ | 13, _ | 14, _ | 15, _ => rfl
  | n + 16, h => omega
theorem ex_level : lvB exS 0 = 3 := by decide +kernel

set_option maxRecDepth 100000 in
set_option maxHeartbeats 400000 in
theorem awake_yes (w : World) (hTab : Tab w) :
    Calls Tryd.prog 9 #[] w fun e w' => e = .returned (.bool true) ∧ Below w.heap.size w w' := by
  obtain ⟨E, hE, bE⟩ := built_ex
  have BE := Lib.hid bE
  have CL := Lib.hid (levels_any E exS w hE hTab)
  have HT := Lib.hid hTab
  clear hE bE hTab
  go_enter Tryd.func9, Tryd.ntmps9
  go_wp2_with (refine wpList_build_wanted (by rfl) 25 #[(0, .const (.int .i64 3)), (1, .const (.int .i64 (-4)))] rfl E (BE.out _) ?_)
  refine CL.out.mono ?_
  rintro e w1 ⟨U, rfl, hU, hw1⟩
  have hx : ∀ w, (Instr.index 30 (.agg U) (.int .i64 0)).run Tryd.prog w = .ok (.int .i64 3) w := run_index (t := 30) (m := 4) (k := 0) Tryd.underlying30 (by omega) (by rw [← ex_level]; exact hU.2.2 0 (by omega))
  have HT1 := Lib.hid (HT.out.next hw1)
  have HB := Lib.hid hw1
  clear hU hw1 HT
  go_wp2_with (go_at_call 11; (with_reducible refine (size_as 3 8 _ HT1.out (by decide)).mono ?_); rintro e w2 ⟨rfl, hw2⟩)
  go_ret
  exact ⟨rfl, below_trans HB.out (by assumption) HB.out.size⟩

/-- What a new row handed back is, as a value. -/
def RowV (w : World) (n : Nat) (f : Nat → Int) (v : Value) (w' : World) : Prop := ∃ g U, v = .slice (some ⟨g, 0, none⟩) n n ∧ w.heap.size ≤ g ∧ IsRow n f U ∧ At w' g U 3 ∧ Below w.heap.size w w'
theorem RetRow.out {w w' : World} {e : Ending} {n : Nat} {f : Nat → Int} (h : RetRow w w' e n f) : ∃ v, e = .returned v ∧ RowV w n f v w' := by
  obtain ⟨g, U, he, h⟩ := h
  exact ⟨_, he, g, U, rfl, h⟩
def BlkV (w : World) (m : Nat) (h : Nat → Int) (v : Value) (w' : World) : Prop := ∃ U, v = .agg U ∧ IsRow m h U ∧ Below w.heap.size w w'
theorem RetBlk.out {w w' : World} {e : Ending} {m : Nat} {f : Nat → Int} (h : RetBlk m w w' e f) : ∃ v, e = .returned v ∧ BlkV w m f v w' := by
  obtain ⟨U, he, h⟩ := h
  exact ⟨_, he, U, rfl, h⟩
theorem RowV.below {w w' : World} {n : Nat} {f : Nat → Int} {v : Value} (h : RowV w n f v w') : Below w.heap.size w w' := by
  obtain ⟨_, _, _, _, _, _, h⟩ := h; exact h
theorem BlkV.below {w w' : World} {n : Nat} {f : Nat → Int} {v : Value} (h : BlkV w n f v w') : Below w.heap.size w w' := by
  obtain ⟨_, _, _, h⟩ := h; exact h
end Go.Proofs.YtlnmpgbknalagaaDoor.Lv
