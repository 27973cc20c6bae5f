/- Contract of rang's NewEnc. -/
import Derived.Test.YtidbagkkkpfkbaaDoorRgD
set_option maxRecDepth 100000
set_option linter.unusedVariables false
namespace Go.Proofs.YtidbagkkkpfkbaaDoor.Rg
open Go.RowKit Go.Proofs.YtidbagkkkpfkbaaDoor.Row

/-- A new coder is handed back. -/
def RetEnc (w : World) (size : Nat) (e : Ending) (w' : World) : Prop := ∃ b, e = .returned (.tuple #[.pointer (some ⟨b, 0, none⟩), .int .i64 0]) ∧ w.heap.size ≤ b ∧ EncIs w' b (Just b) size St.new ∧ Below w.heap.size w w'

theorem newEnc_no (size : Int) (w : World) (h : ¬ (1 ≤ size ∧ size ≤ 4096)) :
    Calls Tryd.prog 5 #[.int .i64 size] w fun e w' => e = .returned (.tuple #[.pointer none, .int .i64 1]) ∧ w = w' := by
  by_cases h1 : 1 ≤ size
  · have h2 : 4096 < size := by omega
    clear h
    go_enter Tryd.func5, Tryd.ntmps5
    go_wp2
    go_ret2
    exact ⟨rfl, rfl⟩
  · have h2 : size < 1 := by omega
    clear h h1
    go_enter Tryd.func5, Tryd.ntmps5
    go_wp2
    go_ret2
    exact ⟨rfl, rfl⟩

theorem newEnc_yes (size : Nat) (w : World) (h1 : 1 ≤ size) (h2 : size ≤ 4096) :
    Calls Tryd.prog 5 #[.int .i64 size] w fun e w' => RetEnc w size e w' := by
  have h3 : decide (size < 1) = false := by simp; omega
  have h4 : decide (4096 < size) = false := by simp; omega
  have HR : Hid (RetEnc w size (.returned (.tuple #[.pointer (some ⟨w.heap.size, 0, none⟩), .int .i64 0])) (w.alloc (.cells (encRow size 4294967295 0 0 0 none 0 0) 47))) := by
    refine ⟨_, rfl, Nat.le_refl _, ⟨0, [], 0, ⟨rfl, none, 0, At.new _ _ _, ⟨rfl, .inl ⟨rfl, rfl⟩⟩, fun k hk => by cases hk⟩, rep_new size⟩, (Below.refl _ _).alloc (Nat.le_refl _) _⟩
  go_enter Tryd.func5, Tryd.ntmps5
  go_wp2
  go_ret2
  exact HR
end Go.Proofs.YtidbagkkkpfkbaaDoor.Rg
