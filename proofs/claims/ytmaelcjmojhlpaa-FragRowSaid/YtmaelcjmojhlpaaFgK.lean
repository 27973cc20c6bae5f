/- What is asked of the program's Cut, Pages, Take, Begun (the statements' walks stand on this alone; proved of the code that landed in a text of its own). -/
import Derived.Test.YtmaelcjmojhlpaaFgR
import Derived.Test.YtmaelcjmojhlpaaPaPl
import Derived.Test.YtmaelcjmojhlpaaFr
import Derived.Laws.IdiomStrings
set_option maxRecDepth 100000
set_option linter.unusedVariables false
namespace Go.Proofs.Ytmaelcjmojhlpaa.Fg
open Go.RowKit Go.Proofs.Ytmaelcjmojhlpaa.Row Go.Proofs.Ytmaelcjmojhlpaa.Pa

/-- Cut of a record. -/
def CutYes : Prop := ∀ (e : Nat) (r : List UInt8) (w : World), e < 4294967296 → 1 ≤ r.length → r.length ≤ 4096 →
  Calls Try.prog 9 #[.int .u32 e, .string (tx r)] w fun en w' => ∃ a c, en = .returned (.tuple #[.slice a (np r.length) c, .int .i64 0]) ∧ Els w' w.heap.size 36 6 a (np r.length) c (pcs e r) ∧ Below w.heap.size w w'
/-- Cut of what is no record. -/
def CutNo : Prop := ∀ (e : Nat) (s : ByteArray) (w : World), e < 4294967296 → s.size ≤ maxLen → (s.size < 1 ∨ 4096 < s.size) →
  Calls Try.prog 9 #[.int .u32 e, .string s] w fun en w' => ∃ a c, en = .returned (.tuple #[.slice a 0 c, .int .i64 10]) ∧ Below w.heap.size w w'
/-- Pages. -/
def pgN (n : Nat) : Nat := if 1 ≤ n ∧ n ≤ 4096 then np n else 0
def PagesAs : Prop := ∀ (n : Nat) (w : World), n ≤ maxLen → Calls Try.prog 10 #[.int .i64 n] w fun en w' => en = .returned (.int .i64 (pgN n : Nat)) ∧ Below w.heap.size w w'
/-- A joiner at a block: JI w b T j (T: the blocks that it owns), its zero value Z. -/
structure Joins (JI : World → Nat → (Nat → Prop) → Jn → Prop) (Z : Array Value) : Prop where
  zv : ∀ w, (zeroValue 32).run Try.prog w = .ok (.agg Z) w
  bz : Try.prog.built 32 [] = some Z
  zero : ∀ w : World, JI (w.alloc (.cells Z 32)) w.heap.size (Just w.heap.size) none
  own : ∀ w b T j, JI w b T j → T b ∧ ∀ k, T k → k < w.heap.size
  fr : ∀ w w' b T U j, JI w b T j → Fr U w w' → (∀ k, T k → ¬ U k) → JI w' b T j
  take : ∀ w b T j p, JI w b T j → p.Ok → p.d.length ≤ maxLen → (Lit.int .i64 p.k).wf = true →
    Calls Try.prog 11 #[.pointer (some ⟨b, 0, none⟩), .agg (pgV p)] w fun en w' => en = .returned (.tuple #[.string (tx (told j p)), .bool (ended j p), .int .i64 (terr j p : Nat)]) ∧ Fr T w w' ∧ ∃ T', JI w' b T' (jt j p) ∧ ∀ k, T' k → T k ∨ w.heap.size ≤ k
  begun : ∀ w b T j, JI w b T j → Calls Try.prog 13 #[.pointer (some ⟨b, 0, none⟩)] w fun en w' => en = .returned (.bool j.isSome) ∧ Below w.heap.size w w'

/-- A field of an element of a slice of pages. -/
theorem Els.fld {w : World} {B n c g : Nat} {te : TypeId} {F : Nat → Array Value} (h : Els w B te 6 (some ⟨g, 0, none⟩) n c F) {i : Nat} (hi : i < n) {k : Nat} {v : Value} (hk : (F i)[k]? = some v) {q : Nat} (hq : i * 6 + k = q) : w.cell? ⟨g, q, none⟩ = some v := by
  subst hq
  exact h.range hi k v (by rw [Array.getElem?_toList]; exact hk)
/-- 50 bytes of 0. -/
def r50 : List UInt8 := List.replicate 50 0
theorem r50_len : r50.length = 50 := rfl
theorem made_50 (w : World) : (convert 30 9 (.slice (some ⟨w.heap.size, 0, none⟩) 50 50)).run Try.prog (w.alloc (.cells (madeCells #[.int .u8 0] 50) 5)) = .ok (.string (tx r50)) (w.alloc (.cells (madeCells #[.int .u8 0] 50) 5)) := by
  refine run_convert_bytes_back (P := Try.prog) _ 30 9 5 ⟨w.heap.size, 0, none⟩ 50 r50 Try.underlying30 Try.underlying5 Try.underlying9 ?_
  intro j hj
  have hj : j < 50 := hj
  rw [Go.WideShapes.add_plain, cell_of_row _ _ _ _ _ _ (heap_alloc_new _ _)]
  have e : ∀ h : j < r50.length, (r50[j]'h).toNat = 0 := fun h => by
    have h2 : r50[j]'h = 0 := List.getElem_replicate ..
    rw [h2]; rfl
  simp only [e]
  simp [madeCells, hj, Nat.mod_one]
theorem make_50 (w : World) : (Instr.makeSlice 30 (.int .i64 50) (.int .i64 50)).run Try.prog w = .ok (.slice (some ⟨w.heap.size, 0, none⟩) 50 50) (w.alloc (.cells (madeCells #[.int .u8 0] 50) 5)) :=
  run_make_row' 30 5 (.int .u8 0) 1 Try.underlying30 (by kernel_rfl) rfl .i64 .i64 50 (by omega) (by omega) w

set_option maxHeartbeats 4000000 in
theorem awake_as (HC : CutYes) (HG : PagesAs) (w : World) : Calls Try.prog 8 #[] w fun e w' => e = .returned (.bool true) ∧ Below w.heap.size w w' := by
  have hcv := made_50 w
  have HCY := Lib.hid (fun w => HC 1 r50 w (by omega) (by decide) (by decide))
  have HGY := Lib.hid (fun w => HG 50 w (by unfold maxLen; omega))
  have hB1 := Lib.hid (show Below w.heap.size w (w.alloc (.cells (madeCells #[.int .u8 0] 50) 5)) from (Below.refl _ _).alloc (Nat.le_refl _) _)
  go_enter Try.func8, Try.ntmps8
  have hmk := make_50
  go_wp2_with fail
  refine (HCY.out _).mono ?_
  rintro e w1 ⟨a, c, rfl, he, hb⟩
  have h2 : np r50.length = 2 := rfl
  rw [h2] at he ⊢
  obtain ⟨g, rfl, _, _⟩ := he.addr (by omega)
  have HB := Lib.hid (below_trans hB1.out hb hB1.out.size)
  have HE := Lib.hid he
  have c3 : w1.cell? ⟨g, 3, none⟩ = some (.bool true) := Els.fld he (i := 0) (by omega) (k := 3) rfl rfl
  have c10 : w1.cell? ⟨g, 10, none⟩ = some (.bool true) := Els.fld he (i := 1) (by omega) (k := 4) rfl rfl
  clear he hb hcv hmk hB1
  have hi0 := fun w => run_ex (n := 2) (c := c) (g := g) (o := 0) (k := 0) elt_p (by omega) w
  have hi1 := fun w => run_ex (n := 2) (c := c) (g := g) (o := 0) (k := 1) elt_p (by omega) w
  go_wp2_with fail
  have hg : pgN 50 = 2 := rfl
  refine (HGY.out _).mono ?_
  rintro e w2 ⟨rfl, hb2⟩
  have HB2 := Lib.hid (below_trans HB.out hb2 HB.out.size)
  rw [hg]
  clear hb2
  go_wp2_with fail
  go_ret
  exact ⟨rfl, HB2.out⟩
end Go.Proofs.Ytmaelcjmojhlpaa.Fg
