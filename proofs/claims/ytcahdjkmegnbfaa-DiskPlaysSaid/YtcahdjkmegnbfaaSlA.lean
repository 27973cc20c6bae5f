/- Slices of acts that come in: a byte, an int, 64 bytes, a slice of bools each. For every package; the types are handed in. -/
import Derived.Test.YtcahdjkmegnbfaaOpn
import Derived.Test.YtcahdjkmegnbfaaSlB
import Derived.Deep.Slices
set_option maxRecDepth 100000
set_option linter.unusedVariables false
namespace Go.Proofs.Ytcahdjkmegnbfaa.Row
open Go.ChangeShapes Go.WideShapes Go.Deep Go.RowKit

/-- An act. -/
structure Ac where
  op : Int
  pl : Int
  pg : Nat → Int
  ka : Option Addr
  kn : Nat
  kc : Nat
  kf : Nat → Bool
instance : Inhabited Ac := ⟨⟨0, 0, fun _ => 0, none, 0, 0, fun _ => false⟩⟩
/-- It stands there. -/
def AcAt (w : World) (b o : Nat) (x : Ac) : Prop :=
  w.cell? ⟨b, o, none⟩ = some (.int .u8 x.op) ∧ w.cell? ⟨b, o + 1, none⟩ = some (.int .i64 x.pl) ∧ (∀ j, j < 64 → w.cell? ⟨b, o + 2 + j, none⟩ = some (.int .u8 (x.pg j))) ∧ w.cell? ⟨b, o + 66, none⟩ = some (.slice x.ka x.kn x.kc) ∧ SlB w x.ka x.kn x.kc x.kf
theorem AcAt.below {w w' : World} {b o : Nat} {x : Ac} (h : AcAt w b o x) (hb : Below w.heap.size w w') : AcAt w' b o x :=
  ⟨(Below.cell hb (block_lt_of_cell h.1)).trans h.1, (Below.cell hb (block_lt_of_cell h.2.1)).trans h.2.1, fun j hj => (Below.cell hb (block_lt_of_cell (h.2.2.1 j hj))).trans (h.2.2.1 j hj),
    (Below.cell hb (block_lt_of_cell h.2.2.2.1)).trans h.2.2.2.1, h.2.2.2.2.below hb⟩
/-- Its numbers are of their kinds. -/
def AcOk (x : Ac) : Prop := (Lit.int .u8 x.op).wf = true ∧ (Lit.int .i64 x.pl).wf = true ∧ ∀ j, j < 64 → (Lit.int .u8 (x.pg j)).wf = true
/-- 'a, n, c' is a slice of n acts. -/
def SlA (w : World) (a : Option Addr) (n c : Nat) (A : Nat → Ac) : Prop :=
  n ≤ c ∧ c ≤ maxLen ∧ (0 < n → ∃ b o, a = some ⟨b, o, none⟩ ∧ ∀ i, i < n → AcAt w b (o + i * 67) (A i))
theorem SlA.below {w w' : World} {a : Option Addr} {n c : Nat} {A : Nat → Ac} (h : SlA w a n c A) (hb : Below w.heap.size w w') : SlA w' a n c A :=
  ⟨h.1, h.2.1, fun hn => by
    obtain ⟨b, o, e, hc⟩ := h.2.2 hn
    exact ⟨b, o, e, fun i hi => (hc i hi).below hb⟩⟩

/-- The cell of a slice of bools. -/
theorem bools_of_trod {H : Type} {enc : TypeId × Value → H} {W : World} {base fuel : Nat} {held : Bool} {t e : TypeId} {cs : List Value} {x : DataW H × List MemPlace}
    (hu : Try.prog.underlying t = some (.slice e)) (he : Try.prog.underlying e = some .bool) (hc : Try.prog.cellsOf e = 1) (h : DataW.trod enc Try.prog W base (fun _ => true) held fuel t cs = some x) :
    ∃ (a : Option Addr) (n c : Nat) (f : Nat → Bool), cs = [.slice a n c] ∧ SlB W a n c f := by
  rcases Go.Deep.open_bools hu he hc h with ⟨hcs, _⟩ | ⟨x, n, c, B, hcs, _, hl, hm, _, hcell⟩
  · exact ⟨none, 0, 0, fun _ => false, hcs, Nat.le_refl _, Nat.zero_le _, fun h => absurd h (Nat.lt_irrefl _)⟩
  · refine ⟨some x, n, c, B, hcs, hl, hm, fun hn => ?_⟩
    have h0 := hcell 0 (by omega)
    have hx : x.spot = none := by have := World.cell?_spot h0; simpa [Addr.add] using this
    obtain ⟨b, o, s⟩ := x
    simp only at hx
    subst hx
    refine ⟨b, o, rfl, fun i hi => ?_⟩
    have := hcell i (by omega)
    rwa [add_plain] at this

theorem open_acts_in {H : Type} {enc : TypeId × Value → H} {W : World} {r : Reach} {base b0 : Nat} {held : Bool} {t e eb q : TypeId} {f0 f1 f2 f3 : Field} {v : Value} {d : DataW H} {ps : List MemPlace}
    (hu : Try.prog.underlying t = some (.slice e)) (hs : Try.prog.underlying e = some (.struct #[f0, f1, f2, f3])) (hC : Try.prog.cellsOf e = 67)
    (o0 : f0.offset = 0) (o1 : f1.offset = 1) (o2 : f2.offset = 2) (o3 : f3.offset = 66) (k0 : Try.prog.cellsOf f0.type = 1) (k1 : Try.prog.cellsOf f1.type = 1) (k2 : Try.prog.cellsOf f2.type = 64) (k3 : Try.prog.cellsOf f3.type = 1)
    (u0 : Try.prog.underlying f0.type = some (.int .u8)) (u1 : Try.prog.underlying f1.type = some (.int .i64)) (u2 : Try.prog.underlying f2.type = some (.array 64 eb)) (ub : Try.prog.underlying eb = some (.int .u8)) (kb : Try.prog.cellsOf eb = 1)
    (u3 : Try.prog.underlying f3.type = some (.slice q)) (uq : Try.prog.underlying q = some .bool) (kq : Try.prog.cellsOf q = 1)
    (hok : Value.okWide Try.prog W r b0 t v) (h : DataW.Trod enc Try.prog W base (fun _ => true) held t v d ps) :
    ∃ (a : Option Addr) (n c : Nat) (A : Nat → Ac), v = .slice a n c ∧ SlA W a n c A ∧ ∀ i, i < n → AcOk (A i) := by
  obtain ⟨a, n, c, rfl⟩ := okWide_slice hu hok
  obtain ⟨fuel, hf⟩ := h
  rcases open_slice hu hf with ⟨hcs, _⟩ | ⟨x, len, cap, m, k, D, Pl, hcs, _, hl, hm, hmm, _, hi⟩
  · simp [Value.cells] at hcs
    obtain ⟨rfl, rfl, rfl⟩ := hcs
    exact ⟨none, 0, 0, fun _ => default, rfl, ⟨Nat.le_refl _, Nat.zero_le _, fun h => absurd h (Nat.lt_irrefl _)⟩, fun i hi => absurd hi (Nat.not_lt_zero i)⟩
  · simp [Value.cells] at hcs
    obtain ⟨rfl, rfl, rfl⟩ := hcs
    have hnm : n ≤ m := by rw [hmm]; split <;> omega
    have key : ∀ i, i < n → ∃ A : Ac, AcOk A ∧ W.cell? ((x.add (i * 67)).add 0) = some (.int .u8 A.op) ∧ W.cell? ((x.add (i * 67)).add 1) = some (.int .i64 A.pl) ∧
        (∀ j, j < 64 → W.cell? ((x.add (i * 67)).add (2 + j)) = some (.int .u8 (A.pg j))) ∧ W.cell? ((x.add (i * 67)).add 66) = some (.slice A.ka A.kn A.kc) ∧ SlB W A.ka A.kn A.kc A.kf := fun i hin => by
      obtain ⟨cs', hc, ht⟩ := hi i (by omega)
      rw [hC] at hc
      obtain ⟨_, hcl, hat⟩ := World.cells?_some hc
      obtain ⟨xs, n', _, _, hcl2, hxl, hfd⟩ := DataW.trod_struct hs ht
      have hxl : xs.length = 4 := hxl
      have g0 := hfd 0 f0 rfl
      have g1 := hfd 1 f1 rfl
      have g2 := hfd 2 f2 rfl
      have g3 := hfd 3 f3 rfl
      rw [List.getElem?_eq_getElem (by omega)] at g0 g1 g2 g3
      rw [o0] at g0
      rw [o1] at g1
      rw [o3] at g3
      obtain ⟨z0, e0, _, w0⟩ := DataW.trod_int u0 g0
      obtain ⟨z1, e1, _, w1⟩ := DataW.trod_int u1 g1
      obtain ⟨ys, m', _, _, _, hyl, hya⟩ := DataW.trod_array u2 g2
      obtain ⟨ka, kn, kc, kf, e3, hB⟩ := bools_of_trod u3 uq kq g3
      have c0 : cs'[0 + 0]? = some (.int .u8 z0) := Flat.part (c := Try.prog.cellsOf f0.type) (by rw [e0]; rfl)
      have c1 : cs'[1 + 0]? = some (.int .i64 z1) := Flat.part (c := Try.prog.cellsOf f1.type) (by rw [e1]; rfl)
      have c3 : cs'[66 + 0]? = some (.slice ka kn kc) := Flat.part (c := Try.prog.cellsOf f3.type) (by rw [e3]; rfl)
      have c2 : ∀ j, ∃ z : Int, j < 64 → cs'[2 + j]? = some (.int .u8 z) ∧ (Lit.int .u8 z).wf = true := fun j => by
        by_cases hj : j < 64
        · have hr := hya j hj
          rw [List.getElem?_eq_getElem (by omega)] at hr
          obtain ⟨z, ez, _, wz⟩ := DataW.trod_int ub hr
          refine ⟨z, fun _ => ⟨?_, wz⟩⟩
          have p := Flat.part (cs := (cs'.drop f2.offset).take (Try.prog.cellsOf f2.type)) (o := j * Try.prog.cellsOf eb) (c := Try.prog.cellsOf eb) (k := 0) (v := .int .u8 z) (by rw [ez]; rfl)
          rw [kb, Nat.mul_one, Nat.add_zero] at p
          have p2 := Flat.part p
          rwa [o2] at p2
        · exact ⟨0, fun h => absurd h hj⟩
      refine ⟨⟨z0, z1, fun j => (c2 j).choose, ka, kn, kc, kf⟩, ⟨w0, w1, fun j hj => ((c2 j).choose_spec hj).2⟩, ?_, ?_, fun j hj => ?_, ?_, hB⟩
      · rw [hat 0 (by omega)]; exact c0
      · rw [hat 1 (by omega)]; exact c1
      · rw [hat (2 + j) (by omega)]; exact ((c2 j).choose_spec hj).1
      · rw [hat 66 (by omega)]; exact c3
    by_cases hn : n = 0
    · subst hn
      exact ⟨some x, 0, c, fun _ => default, rfl, ⟨Nat.zero_le _, hm, fun h => absurd h (Nat.lt_irrefl _)⟩, fun i hi => absurd hi (Nat.not_lt_zero i)⟩
    · have hx : x.spot = none := by
        obtain ⟨y, _, h0, _⟩ := key 0 (by omega)
        have := World.cell?_spot h0
        simpa [Addr.add] using this
      obtain ⟨b, o, sp'⟩ := x
      simp only at hx
      subst hx
      have hch : ∀ i, ∃ A : Ac, i < n → AcOk A ∧ AcAt W b (o + i * 67) A := fun i => by
        by_cases hin : i < n
        · obtain ⟨A, h0, h1, h2, h3, h4, h5⟩ := key i hin
          rw [add_plain, add_plain] at h1 h2 h4
          exact ⟨A, fun _ => ⟨h0, h1, h2, fun j hj => by have := h3 j hj; rw [add_plain, add_plain] at this; rw [Nat.add_assoc]; exact this, h4, h5⟩⟩
        · exact ⟨default, fun h => absurd h hin⟩
      refine ⟨some ⟨b, o, none⟩, n, c, fun i => (hch i).choose, rfl, ⟨hl, hm, fun _ => ⟨b, o, rfl, fun i hi => ((hch i).choose_spec hi).2⟩⟩, fun i hi => ((hch i).choose_spec hi).1⟩
end Go.Proofs.Ytcahdjkmegnbfaa.Row
