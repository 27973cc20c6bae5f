/- Slices of cells that come in; the laws' list of cells. -/
import Derived.Test.YtnlfbndemajkaaaDoorRgJ
import Derived.Test.YtnlfbndemajkaaaDoorSli
import Derived.Deep.Slices
set_option maxRecDepth 100000
set_option linter.unusedVariables false
namespace Go.Proofs.YtnlfbndemajkaaaDoor.Rg
open Go.RowKit Go.Proofs.YtnlfbndemajkaaaDoor.Row Go.ChangeShapes Go.WideShapes Go.Deep

/-- Three numbers of a cell: start, width, total. -/
structure Tr where
  s : Int
  v : Int
  t : Int
def Tr.fits (x : Tr) : Prop := (-9223372036854775808 ≤ x.s ∧ x.s ≤ 9223372036854775807) ∧ (-9223372036854775808 ≤ x.v ∧ x.v ≤ 9223372036854775807) ∧ (-9223372036854775808 ≤ x.t ∧ x.t ≤ 9223372036854775807)
/-- Three numbers stand side by side at a place. -/
def TrAt (w : World) (b o : Nat) (x : Tr) : Prop :=
  w.cell? ⟨b, o, none⟩ = some (.int .i64 x.s) ∧ w.cell? ⟨b, o + 1, none⟩ = some (.int .i64 x.v) ∧ w.cell? ⟨b, o + 2, none⟩ = some (.int .i64 x.t)
/-- A slice of n cells: f's. -/
def SlC (w : World) (a : Option Addr) (n c : Nat) (f : Nat → Tr) : Prop :=
  n ≤ c ∧ c ≤ maxLen ∧ (0 < n → ∃ b o, a = some ⟨b, o, none⟩ ∧ ∀ i, i < n → TrAt w b (o + i * 3) (f i))
theorem TrAt.below {w w' : World} {b o : Nat} {x : Tr} (h : TrAt w b o x) (hb : Below w.heap.size w w') : TrAt w' b o x := by
  obtain ⟨h1, h2, h3⟩ := h
  exact ⟨(Below.cell hb (block_lt_of_cell h1)).trans h1, (Below.cell hb (block_lt_of_cell h2)).trans h2, (Below.cell hb (block_lt_of_cell h3)).trans h3⟩
theorem SlC.below {w w' : World} {a : Option Addr} {n c : Nat} {f : Nat → Tr} (h : SlC w a n c f) (hb : Below w.heap.size w w') : SlC w' a n c f :=
  ⟨h.1, h.2.1, fun hn => by
    obtain ⟨b, o, e, hc⟩ := h.2.2 hn
    exact ⟨b, o, e, fun i hi => (hc i hi).below hb⟩⟩

theorem int_wf {x : Int} (h : (Lit.int .i64 x).wf = true) : -9223372036854775808 ≤ x ∧ x ≤ 9223372036854775807 := by
  simp only [Lit.wf, Bool.and_eq_true, decide_eq_true_eq] at h
  have e1 : IntKind.i64.min = -9223372036854775808 := by decide
  have e2 : IntKind.i64.max = 9223372036854775807 := by decide
  rw [e1, e2] at h
  exact h

/-- A slice of cells that came in. -/
theorem open_cells {H : Type} {enc : TypeId × Value → H} {W : World} {r : Reach} {base b0 : Nat} {sp : Nat → Bool} {held : Bool} {v : Value} {d : DataW H} {ps : List MemPlace}
    (hok : Value.okWide Tryd.prog W r b0 22 v) (h : DataW.Trod enc Tryd.prog W base sp held 22 v d ps) :
    ∃ (a : Option Addr) (n c : Nat) (f : Nat → Tr), v = .slice a n c ∧ SlC W a n c f ∧ ∀ i, i < n → (f i).fits := by
  obtain ⟨a, n, c, rfl⟩ := okWide_slice Tryd.underlying22 hok
  obtain ⟨fuel, hf⟩ := h
  have hC : Tryd.prog.cellsOf 32 = 3 := by kernel_rfl
  have hI : Tryd.prog.cellsOf 3 = 1 := by kernel_rfl
  rcases open_slice Tryd.underlying22 hf with ⟨hcs, _⟩ | ⟨x, len, cap, m, k, D, Pl, hcs, _, hl, hm, hmm, _, hi⟩
  · simp [Value.cells] at hcs
    obtain ⟨rfl, rfl, rfl⟩ := hcs
    exact ⟨none, 0, 0, fun _ => ⟨0, 0, 0⟩, rfl, ⟨Nat.le_refl _, Nat.zero_le _, fun h => absurd h (Nat.lt_irrefl _)⟩, fun i hi => absurd hi (Nat.not_lt_zero i)⟩
  · simp [Value.cells] at hcs
    obtain ⟨rfl, rfl, rfl⟩ := hcs
    have hnm : n ≤ m := by rw [hmm]; split <;> omega
    have key : ∀ i, i < n → ∃ y : Tr, y.fits ∧ W.cell? ((x.add (i * 3)).add 0) = some (.int .i64 y.s) ∧ W.cell? ((x.add (i * 3)).add 1) = some (.int .i64 y.v) ∧ W.cell? ((x.add (i * 3)).add 2) = some (.int .i64 y.t) := fun i hin => by
      obtain ⟨cs', hc, ht⟩ := hi i (by omega)
      rw [hC] at hc
      obtain ⟨_, hcl, hat⟩ := World.cells?_some hc
      obtain ⟨ys, n', _, _, _, hys, hf2⟩ := DataW.trod_struct Tryd.underlying32 ht
      have hz : ys.length = 3 := hys
      have g : ∀ (j o : Nat), o = j → j < 3 → DataW.trod enc Tryd.prog W base sp held n' 3 ((cs'.drop o).take 1) = ys[j]? → ∃ z : Int, cs'[j]? = some (.int .i64 z) ∧ (Lit.int .i64 z).wf = true := fun j o e hj h => by
        subst e
        rw [List.getElem?_eq_getElem (show o < ys.length by omega)] at h
        obtain ⟨z, h1, _, h3⟩ := DataW.trod_int Tryd.underlying3 h
        refine ⟨z, ?_, h3⟩
        have h2 : ((cs'.drop o).take 1)[0]? = some (.int .i64 z) := by rw [h1]; rfl
        rw [List.getElem?_take_of_lt (by omega)] at h2
        simpa using h2
      have g0 : DataW.trod enc Tryd.prog W base sp held n' 3 ((cs'.drop 0).take (Tryd.prog.cellsOf 3)) = ys[0]? := hf2 0 _ rfl
      have g1 : DataW.trod enc Tryd.prog W base sp held n' 3 ((cs'.drop 1).take (Tryd.prog.cellsOf 3)) = ys[1]? := hf2 1 _ rfl
      have g2 : DataW.trod enc Tryd.prog W base sp held n' 3 ((cs'.drop 2).take (Tryd.prog.cellsOf 3)) = ys[2]? := hf2 2 _ rfl
      rw [hI] at g0 g1 g2
      obtain ⟨z0, e0, w0⟩ := g 0 _ rfl (by omega) g0
      obtain ⟨z1, e1, w1⟩ := g 1 _ rfl (by omega) g1
      obtain ⟨z2, e2, w2⟩ := g 2 _ rfl (by omega) g2
      refine ⟨⟨z0, z1, z2⟩, ⟨int_wf w0, int_wf w1, int_wf w2⟩, ?_, ?_, ?_⟩
      · rw [← e0, ← hat 0 (by omega)]
      · rw [← e1, ← hat 1 (by omega)]
      · rw [← e2, ← hat 2 (by omega)]
    by_cases hn : n = 0
    · subst hn
      exact ⟨some x, 0, c, fun _ => ⟨0, 0, 0⟩, rfl, ⟨Nat.zero_le _, hm, fun h => absurd h (Nat.lt_irrefl _)⟩, fun i hi => absurd hi (Nat.not_lt_zero i)⟩
    · have hx : x.spot = none := by
        obtain ⟨y, _, h0, _⟩ := key 0 (by omega)
        have := World.cell?_spot h0
        simpa [Addr.add] using this
      obtain ⟨b, o, sp'⟩ := x
      simp only at hx
      subst hx
      have hch : ∀ i, ∃ y : Tr, i < n → y.fits ∧ TrAt W b (o + i * 3) y := fun i => by
        by_cases hin : i < n
        · obtain ⟨y, h1, h2, h3, h4⟩ := key i hin
          refine ⟨y, fun _ => ⟨h1, ?_⟩⟩
          rw [add_plain, add_plain] at h2 h3 h4
          exact ⟨h2, h3, h4⟩
        · exact ⟨⟨0, 0, 0⟩, fun h => absurd h hin⟩
      refine ⟨some ⟨b, o, none⟩, n, c, fun i => (hch i).choose, rfl, ⟨hl, hm, fun _ => ⟨b, o, rfl, fun i hi => ((hch i).choose_spec hi).2⟩⟩, fun i hi => ((hch i).choose_spec hi).1⟩
end Go.Proofs.YtnlfbndemajkaaaDoor.Rg
