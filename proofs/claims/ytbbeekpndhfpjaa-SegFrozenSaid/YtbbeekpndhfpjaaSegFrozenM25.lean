/- Texts of the walk, one behind the other. -/
import Derived.Test.YtbbeekpndhfpjaaSegFrozenM14
import Derived.Test.YtbbeekpndhfpjaaSegFrozenM18
import Derived.Test.YtbbeekpndhfpjaaRowT
import Derived.Test.YtbbeekpndhfpjaaSegFrozenM4
import Derived.Test.YtbbeekpndhfpjaaFr

section
/- Pages in slices, a record's pieces as elements. -/
set_option maxRecDepth 100000
set_option linter.unusedVariables false
namespace Go.Proofs.Ytbbeekpndhfpjaa.Fg
open Go.RowKit Go.Proofs.Ytbbeekpndhfpjaa.Row Go.Proofs.Ytbbeekpndhfpjaa.Pa

theorem elt_p : ElT 80 73 6 40 (pgV Pv.zero) :=
  ⟨Try.underlying80, ⟨_, _, rfl, rfl, by kernel_rfl, by kernel_rfl, by kernel_rfl⟩, rfl, by omega, by omega⟩
theorem pgV_pc (e : Nat) (r : List UInt8) (i : Nat) : pgV (pc e r i) = #[.int .u32 e, .int .u32 0, .int .i64 2, .bool (decide (i = 0)), .bool (decide (r.length ≤ 49 * (i + 1))), .string (tx ((r.drop (49 * i)).take 49))] := rfl
/-- The pieces as elements. -/
def pcs (e : Nat) (r : List UInt8) (i : Nat) : Array Value := pgV (pc e r i)
end Go.Proofs.Ytbbeekpndhfpjaa.Fg
end

section
/- What is asked of the program's Cut, Pages, Take, Begun. -/
set_option maxRecDepth 100000
set_option linter.unusedVariables false
namespace Go.Proofs.Ytbbeekpndhfpjaa.Fg
open Go.RowKit Go.Proofs.Ytbbeekpndhfpjaa.Row Go.Proofs.Ytbbeekpndhfpjaa.Pa

/-- Cut of a record. -/
def CutYes : Prop := ∀ (e : Nat) (r : List UInt8) (w : World), e < 4294967296 → 1 ≤ r.length → r.length ≤ 4096 →
  Calls Try.prog 47 #[.int .u32 e, .string (tx r)] w fun en w' => ∃ a c, en = .returned (.tuple #[.slice a (np r.length) c, .int .i64 0]) ∧ Els w' w.heap.size 73 6 a (np r.length) c (pcs e r) ∧ Below w.heap.size w w'
/-- Cut of what is no record. -/
def CutNo : Prop := ∀ (e : Nat) (s : ByteArray) (w : World), e < 4294967296 → s.size ≤ maxLen → (s.size < 1 ∨ 4096 < s.size) →
  Calls Try.prog 47 #[.int .u32 e, .string s] w fun en w' => ∃ a c, en = .returned (.tuple #[.slice a 0 c, .int .i64 10]) ∧ Below w.heap.size w w'
/-- Pages. -/
def pgN (n : Nat) : Nat := if 1 ≤ n ∧ n ≤ 4096 then np n else 0
def PagesAs : Prop := ∀ (n : Nat) (w : World), n ≤ maxLen → Calls Try.prog 34 #[.int .i64 n] w fun en w' => en = .returned (.int .i64 (pgN n : Nat)) ∧ Below w.heap.size w w'
/-- A joiner at a block: JI w b T j (T: the blocks that it owns), its zero value Z. -/
structure Joins (JI : World → Nat → (Nat → Prop) → Jn → Prop) (Z : Array Value) : Prop where
  zv : ∀ w, (zeroValue 65).run Try.prog w = .ok (.agg Z) w
  bz : Try.prog.built 65 [] = some Z
  zero : ∀ w : World, JI (w.alloc (.cells Z 65)) w.heap.size (Just w.heap.size) none
  own : ∀ w b T j, JI w b T j → T b ∧ ∀ k, T k → k < w.heap.size
  fr : ∀ w w' b T U j, JI w b T j → Fr U w w' → (∀ k, T k → ¬ U k) → JI w' b T j
  take : ∀ w b T j p, JI w b T j → p.Ok → p.d.length ≤ maxLen → (Lit.int .i64 p.k).wf = true →
    Calls Try.prog 44 #[.pointer (some ⟨b, 0, none⟩), .agg (pgV p)] w fun en w' => en = .returned (.tuple #[.string (tx (told j p)), .bool (ended j p), .int .i64 (terr j p : Nat)]) ∧ Fr T w w' ∧ ∃ T', JI w' b T' (jt j p) ∧ ∀ k, T' k → T k ∨ w.heap.size ≤ k
  begun : ∀ w b T j, JI w b T j → Calls Try.prog 45 #[.pointer (some ⟨b, 0, none⟩)] w fun en w' => en = .returned (.bool j.isSome) ∧ Below w.heap.size w w'

/-- A field of an element of a slice of pages. -/
theorem Els.fld {w : World} {B n c g : Nat} {te : TypeId} {F : Nat → Array Value} (h : Els w B te 6 (some ⟨g, 0, none⟩) n c F) {i : Nat} (hi : i < n) {k : Nat} {v : Value} (hk : (F i)[k]? = some v) {q : Nat} (hq : i * 6 + k = q) : w.cell? ⟨g, q, none⟩ = some v := by
  subst hq
  exact h.range hi k v (by rw [Array.getElem?_toList]; exact hk)
end Go.Proofs.Ytbbeekpndhfpjaa.Fg
end
