/- Coders and decoders in a law's world, apart from what else it has: A's blocks. -/
import Derived.Test.YtnlfbndemajkaaaDoorRgM
set_option maxRecDepth 100000
set_option linter.unusedVariables false
namespace Go.Proofs.YtnlfbndemajkaaaDoor.Rg
open Go.RowKit Go.Proofs.YtnlfbndemajkaaaDoor.Row

/-- A's blocks stand as they were. -/
def Keeps (A : Nat → Prop) (w w' : World) : Prop := ∀ k, A k → w'.heap[k]? = w.heap[k]?
theorem Keeps.refl (A : Nat → Prop) (w : World) : Keeps A w w := fun _ _ => rfl
theorem Keeps.trans {A : Nat → Prop} {w w1 w2 : World} (h : Keeps A w w1) (k : Keeps A w1 w2) : Keeps A w w2 := fun i hi => (k i hi).trans (h i hi)
theorem Keeps.cell {A : Nat → Prop} {w w' : World} (h : Keeps A w w') {p : Addr} {v : Value} (hp : A p.block) (hc : w.cell? p = some v) : w'.cell? p = some v := (World.cell?_of_block (w := w) (h _ hp)).trans hc
theorem Keeps.mono {A C : Nat → Prop} {w w' : World} (h : Keeps A w w') (hC : ∀ k, C k → A k) : Keeps C w w' := fun k hk => h k (hC k hk)

/-- A coder of a law that began in w, apart from A's blocks. -/
def EncOff (w : World) (b size : Nat) (x : St) (A : Nat → Prop) (w' : World) : Prop :=
  ∃ T, EncIs w' b T size x ∧ (∀ k, T k → w.heap.size ≤ k ∧ k < w'.heap.size ∧ ¬ A k) ∧ Below w.heap.size w w' ∧ ∀ k, A k → k < w'.heap.size
theorem EncIs.tight {w : World} {b size : Nat} {T : Nat → Prop} {x : St} (h : EncIs w b T size x) : ∃ T0, EncIs w b T0 size x ∧ ∀ k, T0 k → T k ∧ k < w.heap.size := by
  obtain ⟨low, bs, rest, ⟨h1, a, c, hA, hO, hK⟩, hR⟩ := h
  refine ⟨fun k => k = b ∨ (Value.slice a bs.length c).ownBlock = some k, ⟨low, bs, rest, ⟨.inl rfl, a, c, hA, hO, fun k hk => ⟨.inr hk, (hK k hk).2⟩⟩, hR⟩, fun k hk => ?_⟩
  rcases hk with rfl | hk
  · exact ⟨h1, hA.lt⟩
  · refine ⟨(hK k hk).1, ?_⟩
    rcases hO.2 with ⟨h3, _⟩ | ⟨g3, _, _, h3, _, h4, _⟩
    · rw [h3] at hk; cases hk
    · rw [h3] at hk
      simp only [Value.ownBlock, Option.some.injEq] at hk
      subst hk
      exact (Array.getElem?_eq_some_iff.1 h4).1
theorem EncOff.of {w : World} {b size : Nat} {x : St} {w' : World} (h : EncOn w b size x w') (A : Nat → Prop) (hA : ∀ k, A k → k < w.heap.size) : EncOff w b size x A w' := by
  obtain ⟨T, h1, h2, h3⟩ := h
  obtain ⟨T0, h4, h5⟩ := h1.tight
  exact ⟨T0, h4, fun k hk => ⟨h2 k (h5 k hk).1, (h5 k hk).2, fun ha => by have := hA k ha; have := h2 k (h5 k hk).1; omega⟩, h3, fun k hk => Nat.lt_of_lt_of_le (hA k hk) h3.size⟩
theorem EncOff.go {w w1 w2 : World} {b size : Nat} {y : St} {T A : Nat → Prop} (hT : ∀ k, T k → w.heap.size ≤ k ∧ k < w1.heap.size ∧ ¬ A k) (hB : Below w.heap.size w w1) (hA : ∀ k, A k → k < w1.heap.size) (h : EncGo w1 b T size y w2) : EncOff w b size y A w2 ∧ Keeps A w1 w2 := by
  obtain ⟨T', h1, h2, h3⟩ := h
  obtain ⟨T0, h4, h5⟩ := h1.tight
  refine ⟨⟨T0, h4, fun k hk => ?_, hB.trans (h2.below hB.size fun k hk => (hT k hk).1), fun k hk => Nat.lt_of_lt_of_le (hA k hk) h2.size⟩, fun k hk => h2.block k (hA k hk) fun ht => (hT k ht).2.2 hk⟩
  obtain ⟨h6, h7⟩ := h5 k hk
  rcases h3 k h6 with h8 | h8
  · exact ⟨(hT k h8).1, h7, (hT k h8).2.2⟩
  · exact ⟨Nat.le_trans hB.size h8, h7, fun ha => by have := hA k ha; omega⟩
theorem EncOff.below {w w1 w2 : World} {b size : Nat} {x : St} {A : Nat → Prop} (h : EncOff w b size x A w1) (hB : Below w1.heap.size w1 w2) : EncOff w b size x A w2 := by
  obtain ⟨T, h1, h2, h3, h4⟩ := h
  exact ⟨T, h1.below hB, fun k hk => ⟨(h2 k hk).1, Nat.lt_of_lt_of_le (h2 k hk).2.1 hB.size, (h2 k hk).2.2⟩, below_trans h3 hB h3.size, fun k hk => Nat.lt_of_lt_of_le (h4 k hk) hB.size⟩
theorem EncOff.out {w w1 : World} {b size : Nat} {x : St} {A : Nat → Prop} (h : EncOff w b size x A w1) : Below w.heap.size w w1 := by
  obtain ⟨T, h1, h2, h3, h4⟩ := h
  exact h3
/-- New blocks are the coder's none. -/
theorem EncOff.add {w w1 w2 : World} {b size : Nat} {x : St} {A C : Nat → Prop} (h : EncOff w b size x A w1) (hF : Below w1.heap.size w1 w2) (hC : ∀ k, C k → A k ∨ (w1.heap.size ≤ k ∧ k < w2.heap.size)) : EncOff w b size x C w2 := by
  obtain ⟨T, h1, h2, h3, h4⟩ := h
  refine ⟨T, h1.below hF, fun k hk => ⟨(h2 k hk).1, Nat.lt_of_lt_of_le (h2 k hk).2.1 hF.size, fun hc => ?_⟩, below_trans h3 hF h3.size, fun k hk => ?_⟩
  · rcases hC k hc with h5 | h5
    · exact (h2 k hk).2.2 h5
    · have := (h2 k hk).2.1; omega
  · rcases hC k hk with h5 | h5
    · exact Nat.lt_of_lt_of_le (h4 k h5) hF.size
    · exact h5.2

theorem put_off (w0 w : World) (b : Nat) (size : Nat) (x : St) (A : Nat → Prop) (C : Cl) (s v t : Int) (h : EncOff w0 b size x A w) (hx : x.ok) (hC : C.ok) (hs : (C.s : Int) = s) (hv : (C.w : Int) = v) (ht : (C.t : Int) = t) (hsz : size ≤ 4096) (hg : x.g ≤ 100000) :
    Calls Tryd.prog 12 #[.pointer (some ⟨b, 0, none⟩), .int .i64 s, .int .i64 v, .int .i64 t] w fun e w' => e = .returned (.int .i64 0) ∧ EncOff w0 b size (x.put C) A w' ∧ Keeps A w w' := by
  obtain ⟨T, h1, h2, h3, h4⟩ := h
  exact (put_at w b T size x C s v t h1 hx hC hs hv ht hsz hg).mono fun e w' ⟨he, hg⟩ => ⟨he, EncOff.go h2 h3 h4 hg⟩
theorem used_off (w0 w : World) (b : Nat) (size : Nat) (x : St) (A : Nat → Prop) (u : Int) (h : EncOff w0 b size x A w) (hr : x.r ≤ 4294967295) (hg : x.g ≤ 1000000000) (hu : x.used = u) :
    Calls Tryd.prog 13 #[.pointer (some ⟨b, 0, none⟩)] w fun e w' => e = .returned (.int .i64 u) ∧ EncOff w0 b size x A w' ∧ Below w.heap.size w w' := by
  obtain ⟨T, h1, _⟩ := id h
  exact (encUsed_as w b T size x u h1 hr hg hu).mono fun e w' ⟨he, hb⟩ => ⟨he, h.below hb, hb⟩
theorem done_off (w0 w : World) (b : Nat) (size : Nat) (x : St) (A : Nat → Prop) (t : ByteArray) (z : Int) (h : EncOff w0 b size x A w) (hsz : size ≤ 4096) (ht : ⟨(x.out size).toArray⟩ = t) (hz : x.err size = z) :
    Calls Tryd.prog 14 #[.pointer (some ⟨b, 0, none⟩)] w fun e w' => e = .returned (.tuple #[.string t, .int .i64 z]) ∧ EncOff w0 b size x A w' ∧ Below w.heap.size w w' := by
  obtain ⟨T, h1, _⟩ := id h
  exact (done_as w b T size x t z h1 hsz ht hz).mono fun e w' ⟨he, hb⟩ => ⟨he, h.below hb, hb⟩

/-- A slice's own block. -/
def Blk (a : Option Addr) (k : Nat) : Prop := a = some ⟨k, 0, none⟩
/-- The cells L lie in a slice. -/
def LsAt (w : World) (a : Option Addr) (L : List Cl) : Prop := (0 < L.length → ∃ g, a = some ⟨g, 0, none⟩) ∧
  ∀ g, a = some ⟨g, 0, none⟩ → ∀ i C, L[i]? = some C → w.cell? ⟨g, i * 3, none⟩ = some (.int .i64 C.s) ∧ w.cell? ⟨g, i * 3 + 1, none⟩ = some (.int .i64 C.w) ∧ w.cell? ⟨g, i * 3 + 2, none⟩ = some (.int .i64 C.t)
theorem Cls.ls {w : World} {B n c : Nat} {a : Option Addr} {L : List Cl} (h : Cls w B a n c L) : LsAt w a L := by
  refine ⟨fun hn => ?_, fun g e i C hi => ?_⟩
  · obtain ⟨g, e, _⟩ := h.addr (by rw [← h.1]; exact hn)
    exact ⟨g, e⟩
  · subst e
    exact h.at hi
theorem LsAt.keep {w w' : World} {a : Option Addr} {L : List Cl} {A : Nat → Prop} (h : LsAt w a L) (hk : Keeps A w w') (hA : ∀ k, Blk a k → A k) : LsAt w' a L := by
  refine ⟨h.1, fun g e i C hi => ?_⟩
  obtain ⟨h1, h2, h3⟩ := h.2 g e i C hi
  exact ⟨hk.cell (hA g e) h1, hk.cell (hA g e) h2, hk.cell (hA g e) h3⟩
theorem LsAt.below {w w' : World} {a : Option Addr} {L : List Cl} (h : LsAt w a L) (hb : Below w.heap.size w w') : LsAt w' a L := by
  refine ⟨h.1, fun g e i C hi => ?_⟩
  obtain ⟨h1, h2, h3⟩ := h.2 g e i C hi
  exact ⟨(Below.cell hb (block_lt_of_cell h1)).trans h1, (Below.cell hb (block_lt_of_cell h2)).trans h2, (Below.cell hb (block_lt_of_cell h3)).trans h3⟩
theorem Cls.blk {w : World} {B n c : Nat} {a : Option Addr} {L : List Cl} (h : Cls w B a n c L) : ∀ k, Blk a k → B ≤ k ∧ k < w.heap.size := by
  intro k hk
  obtain ⟨_, _, h2 | ⟨g', cap, cur, e1, h3, h4, _⟩⟩ := h
  · simp only [Value.slice.injEq] at h2
    rw [show a = none from h2.1.1] at hk
    cases hk
  · simp only [Value.slice.injEq] at e1
    rw [show a = _ from e1.1] at hk
    simp only [Blk, Option.some.injEq, Addr.mk.injEq, and_true] at hk
    subst hk
    exact ⟨h3, (Array.getElem?_eq_some_iff.1 h4).1⟩
end Go.Proofs.YtnlfbndemajkaaaDoor.Rg
