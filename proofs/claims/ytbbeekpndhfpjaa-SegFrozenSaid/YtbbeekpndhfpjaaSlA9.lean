/- Slices of acts that come in (layer 19's: a byte, a text, a slice of bools, a byte each). For every package; the types are handed in. -/
import Derived.Test.YtbbeekpndhfpjaaOpn
import Derived.Test.YtbbeekpndhfpjaaSlB
import Derived.Deep.Slices
import Derived.ShutString
set_option maxRecDepth 100000
set_option linter.unusedVariables false
namespace Go.Proofs.Ytbbeekpndhfpjaa.Row
open Go.ChangeShapes Go.WideShapes Go.Deep Go.RowKit

/-- An act. -/
structure Ac9 where
  op : Nat
  tx : ByteArray
  ka : Option Addr
  kn : Nat
  kc : Nat
  kf : Nat → Bool
  pl : Nat
instance : Inhabited Ac9 := ⟨⟨0, ByteArray.empty, none, 0, 0, fun _ => false, 0⟩⟩
/-- It stands there. -/
def Ac9At (w : World) (b o : Nat) (x : Ac9) : Prop :=
  w.cell? ⟨b, o, none⟩ = some (.int .u8 x.op) ∧ w.cell? ⟨b, o + 1, none⟩ = some (.string x.tx) ∧ w.cell? ⟨b, o + 2, none⟩ = some (.slice x.ka x.kn x.kc) ∧ w.cell? ⟨b, o + 3, none⟩ = some (.int .u8 x.pl) ∧ SlB w x.ka x.kn x.kc x.kf
theorem Ac9At.below {w w' : World} {b o : Nat} {x : Ac9} (h : Ac9At w b o x) (hb : Below w.heap.size w w') : Ac9At w' b o x :=
  ⟨(Below.cell hb (block_lt_of_cell h.1)).trans h.1, (Below.cell hb (block_lt_of_cell h.2.1)).trans h.2.1, (Below.cell hb (block_lt_of_cell h.2.2.1)).trans h.2.2.1, (Below.cell hb (block_lt_of_cell h.2.2.2.1)).trans h.2.2.2.1, h.2.2.2.2.below hb⟩
/-- Its numbers are bytes, its text isn't too long. -/
def Ac9Ok (x : Ac9) : Prop := x.op < 256 ∧ x.pl < 256 ∧ x.tx.size ≤ maxLen
/-- 'a, n, c' is a slice of n acts. -/
def SlA9 (w : World) (a : Option Addr) (n c : Nat) (A : Nat → Ac9) : Prop :=
  n ≤ c ∧ c ≤ maxLen ∧ (∀ i, i < n → Ac9Ok (A i)) ∧ (0 < n → ∃ b o, a = some ⟨b, o, none⟩ ∧ ∀ i, i < n → Ac9At w b (o + i * 4) (A i))
theorem SlA9.below {w w' : World} {a : Option Addr} {n c : Nat} {A : Nat → Ac9} (h : SlA9 w a n c A) (hb : Below w.heap.size w w') : SlA9 w' a n c A :=
  ⟨h.1, h.2.1, h.2.2.1, fun hn => by
    obtain ⟨b, o, e, hc⟩ := h.2.2.2 hn
    exact ⟨b, o, e, fun i hi => (hc i hi).below hb⟩⟩

/-- The cell of a slice of bools. -/
theorem bools_of_trod9 {H : Type} {enc : TypeId × Value → H} {W : World} {base fuel : Nat} {held : Bool} {t e : TypeId} {cs : List Value} {x : DataW H × List MemPlace}
    (hu : Try.prog.underlying t = some (.slice e)) (he : Try.prog.underlying e = some .bool) (hc : Try.prog.cellsOf e = 1) (h : DataW.trod enc Try.prog W base (fun _ => true) held fuel t cs = some x) :
    ∃ (a : Option Addr) (n c : Nat) (f : Nat → Bool), cs = [.slice a n c] ∧ SlB W a n c f := by
  rcases Go.Deep.open_bools hu he hc h with ⟨hcs, _⟩ | ⟨x, n, c, B, hcs, _, hl, hm, _, hcell⟩
  · exact ⟨none, 0, 0, fun _ => false, hcs, Nat.le_refl _, Nat.zero_le _, fun h => absurd h (Nat.lt_irrefl _)⟩
  · refine ⟨some x, n, c, B, hcs, hl, hm, fun hn => ?_⟩
    have h0 := hcell 0 (by omega)
    have hx : x.spot = none := by have := World.cell?_spot h0; simpa [Addr.add] using this
    obtain ⟨b, o, s⟩ := x
    simp only at hx
    subst hx
    refine ⟨b, o, rfl, fun i hi => ?_⟩
    have := hcell i (by omega)
    rwa [add_plain] at this

theorem open_acts9 {H : Type} {enc : TypeId × Value → H} {W : World} {r : Reach} {base b0 : Nat} {held : Bool} {t e q : TypeId} {f0 f1 f2 f3 : Field} {v : Value} {d : DataW H} {ps : List MemPlace}
    (hu : Try.prog.underlying t = some (.slice e)) (hs : Try.prog.underlying e = some (.struct #[f0, f1, f2, f3])) (hC : Try.prog.cellsOf e = 4)
    (o0 : f0.offset = 0) (o1 : f1.offset = 1) (o2 : f2.offset = 2) (o3 : f3.offset = 3) (k0 : Try.prog.cellsOf f0.type = 1) (k1 : Try.prog.cellsOf f1.type = 1) (k2 : Try.prog.cellsOf f2.type = 1) (k3 : Try.prog.cellsOf f3.type = 1)
    (u0 : Try.prog.underlying f0.type = some (.int .u8)) (u1 : Try.prog.underlying f1.type = some .string) (u2 : Try.prog.underlying f2.type = some (.slice q)) (uq : Try.prog.underlying q = some .bool) (kq : Try.prog.cellsOf q = 1)
    (u3 : Try.prog.underlying f3.type = some (.int .u8))
    (hok : Value.okWide Try.prog W r b0 t v) (h : DataW.Trod enc Try.prog W base (fun _ => true) held t v d ps) :
    ∃ (a : Option Addr) (n c : Nat) (A : Nat → Ac9), v = .slice a n c ∧ SlA9 W a n c A := by
  obtain ⟨a, n, c, rfl⟩ := okWide_slice hu hok
  obtain ⟨fuel, hf⟩ := h
  rcases open_slice hu hf with ⟨hcs, _⟩ | ⟨x, len, cap, m, k, D, Pl, hcs, _, hl, hm, hmm, _, hi⟩
  · simp [Value.cells] at hcs
    obtain ⟨rfl, rfl, rfl⟩ := hcs
    exact ⟨none, 0, 0, fun _ => default, rfl, Nat.le_refl _, Nat.zero_le _, fun i hi => absurd hi (Nat.not_lt_zero i), fun h => absurd h (Nat.lt_irrefl _)⟩
  · simp [Value.cells] at hcs
    obtain ⟨rfl, rfl, rfl⟩ := hcs
    have hnm : n ≤ m := by rw [hmm]; split <;> omega
    have key : ∀ i, i < n → ∃ A : Ac9, Ac9Ok A ∧ W.cell? ((x.add (i * 4)).add 0) = some (.int .u8 A.op) ∧ W.cell? ((x.add (i * 4)).add 1) = some (.string A.tx) ∧
        W.cell? ((x.add (i * 4)).add 2) = some (.slice A.ka A.kn A.kc) ∧ W.cell? ((x.add (i * 4)).add 3) = some (.int .u8 A.pl) ∧ SlB W A.ka A.kn A.kc A.kf := fun i hin => by
      obtain ⟨cs', hc, ht⟩ := hi i (by omega)
      rw [hC] at hc
      obtain ⟨_, hcl, hat⟩ := World.cells?_some hc
      obtain ⟨xs, n', _, _, hcl2, hxl, hfd⟩ := DataW.trod_struct hs ht
      have hxl : xs.length = 4 := hxl
      have g0 := hfd 0 f0 rfl
      have g1 := hfd 1 f1 rfl
      have g2 := hfd 2 f2 rfl
      have g3 := hfd 3 f3 rfl
      rw [List.getElem?_eq_getElem (by omega)] at g0 g1 g2 g3
      rw [o0] at g0
      rw [o1] at g1
      rw [o2] at g2
      rw [o3] at g3
      obtain ⟨z0, e0, _, w0⟩ := DataW.trod_int u0 g0
      obtain ⟨z3, e3, _, w3⟩ := DataW.trod_int u3 g3
      obtain ⟨tx, e1, _, w1⟩ := DataW.trod_string u1 g1
      obtain ⟨ka, kn, kc, kf, e2, hB⟩ := bools_of_trod9 u2 uq kq g2
      have c0 : cs'[0 + 0]? = some (.int .u8 z0) := Flat.part (c := Try.prog.cellsOf f0.type) (by rw [e0]; rfl)
      have c1 : cs'[1 + 0]? = some (.string tx) := Flat.part (c := Try.prog.cellsOf f1.type) (by rw [e1]; rfl)
      have c2 : cs'[2 + 0]? = some (.slice ka kn kc) := Flat.part (c := Try.prog.cellsOf f2.type) (by rw [e2]; rfl)
      have c3 : cs'[3 + 0]? = some (.int .u8 z3) := Flat.part (c := Try.prog.cellsOf f3.type) (by rw [e3]; rfl)
      have b0 := bounds_u8 w0
      have b3 := bounds_u8 w3
      refine ⟨⟨z0.toNat, tx, ka, kn, kc, kf, z3.toNat⟩, ⟨by show z0.toNat < 256; omega, by show z3.toNat < 256; omega, w1⟩, ?_, ?_, ?_, ?_, hB⟩
      · rw [hat 0 (by omega)]
        show _ = some (Value.int .u8 ((z0.toNat : Nat) : Int))
        rw [Int.toNat_of_nonneg b0.1]; exact c0
      · rw [hat 1 (by omega)]; exact c1
      · rw [hat 2 (by omega)]; exact c2
      · rw [hat 3 (by omega)]
        show _ = some (Value.int .u8 ((z3.toNat : Nat) : Int))
        rw [Int.toNat_of_nonneg b3.1]; exact c3
    by_cases hn : n = 0
    · subst hn
      exact ⟨some x, 0, c, fun _ => default, rfl, Nat.zero_le _, hm, fun i hi => absurd hi (Nat.not_lt_zero i), fun h => absurd h (Nat.lt_irrefl _)⟩
    · have hx : x.spot = none := by
        obtain ⟨y, _, h0, _⟩ := key 0 (by omega)
        have := World.cell?_spot h0
        simpa [Addr.add] using this
      obtain ⟨b, o, sp'⟩ := x
      simp only at hx
      subst hx
      have hch : ∀ i, ∃ A : Ac9, i < n → Ac9Ok A ∧ Ac9At W b (o + i * 4) A := fun i => by
        by_cases hin : i < n
        · obtain ⟨A, h0, h1, h2, h3, h4, h5⟩ := key i hin
          rw [add_plain, add_plain] at h1 h2 h3 h4
          exact ⟨A, fun _ => ⟨h0, h1, h2, h3, h4, h5⟩⟩
        · exact ⟨default, fun h => absurd h hin⟩
      exact ⟨some ⟨b, o, none⟩, n, c, fun i => (hch i).choose, rfl, hl, hm, fun i hi => ((hch i).choose_spec hi).1, fun _ => ⟨b, o, rfl, fun i hi => ((hch i).choose_spec hi).2⟩⟩
end Go.Proofs.Ytbbeekpndhfpjaa.Row
