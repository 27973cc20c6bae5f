/- The program's coder beside the document's, in a law's world. -/
import Derived.Test.YtnlfbndemajkaaaDoorRgT
set_option maxRecDepth 100000
set_option linter.unusedVariables false
namespace Go.Proofs.YtnlfbndemajkaaaDoor.Rg
open Go.RowKit Go.Proofs.YtnlfbndemajkaaaDoor.Row

theorem EncOff.setRow {w w1 : World} {b size bx : Nat} {x : St} {A : Nat → Prop} {U : Array Value} (h : EncOff w b size x A w1) (hA : A bx) (hb : w.heap.size ≤ bx) : EncOff w b size x A (w1.setRow bx U) := by
  obtain ⟨T, h1, h2, h3, h4⟩ := h
  have hF : Fr (Just bx) w1 (w1.setRow bx U) := (Fr.refl _ _).setRow (.inl (Just.self bx)) U
  exact ⟨T, h1.fr hF fun k hk hk' => (h2 k hk).2.2 (by rw [show k = bx from hk']; exact hA), fun k hk => ⟨(h2 k hk).1, by rw [size_setRow]; exact (h2 k hk).2.1, (h2 k hk).2.2⟩, below_setRow' h3 hb U, fun k hk => by rw [size_setRow]; exact h4 k hk⟩

/-- The program's coder at b, the document's value at bx, its bytes at g. -/
structure PS (W : World) (b size bx g n c : Nat) (x y : St) (w' : World) : Prop where
  enc : EncOff W b size x (fun i => i = bx ∨ i = g) w'
  ref : RefAt w' g n c y
  row : At w' bx #[.slice (some ⟨g, 0, none⟩) n c, .int .i64 y.r] 48
  bx_ge : W.heap.size ≤ bx
  g_ge : W.heap.size ≤ g
  ne : g ≠ bx
theorem PS.out {W : World} {b size bx g n c : Nat} {x y : St} {w' : World} (h : PS W b size bx g n c x y w') : Below W.heap.size W w' := h.enc.out
theorem PS.below {W : World} {b size bx g n c : Nat} {x y : St} {w w' : World} (h : PS W b size bx g n c x y w) (hb : Below w.heap.size w w') : PS W b size bx g n c x y w' :=
  ⟨h.enc.below hb, h.ref.below hb, h.row.below hb h.row.lt, h.bx_ge, h.g_ge, h.ne⟩
theorem PS.start {W w w1 : World} {b size g n c : Nat} {y : St} {A : Nat → Prop} (h : EncOff W b size St.new A w) (hg : w.heap.size ≤ g) (hr : RefAt w1 g n c y) (hb : Below w.heap.size w w1) (hg2 : g < w1.heap.size) :
    PS W b size w1.heap.size g n c St.new y (w1.alloc (.cells #[.slice (some ⟨g, 0, none⟩) n c, .int .i64 y.r] 48)) := by
  have hs := h.out.size
  have hs2 := hb.size
  have hal := (Below.refl w1.heap.size w1).alloc (Nat.le_refl _) (.cells #[.slice (some ⟨g, 0, none⟩) n c, .int .i64 y.r] 48)
  refine ⟨h.add (below_trans hb hal hs2) fun k hk => .inr ?_, hr.below hal, At.new _ _ _, by omega, by omega, by omega⟩
  have e : (w1.alloc (.cells #[.slice (some ⟨g, 0, none⟩) n c, .int .i64 y.r] 48)).heap.size = w1.heap.size + 1 := by simp
  rcases hk with rfl | rfl <;> omega
theorem RefAt.lt {w : World} {g n c : Nat} {x : St} (h : RefAt w g n c x) : g < w.heap.size := block_lt_of_cell (h.cell 0 (by have := h.n_eq; omega))
/-- The document's value, put anew. -/
theorem PS.next {W w w2 : World} {b size bx g n c g2 n2 c2 : Nat} {x y z : St} (h : PS W b size bx g n c x y w) (hg : w.heap.size ≤ g2) (hr : RefAt w2 g2 n2 c2 z) (hb : Below w.heap.size w w2) :
    At w2 bx #[.slice (some ⟨g, 0, none⟩) n c, .int .i64 y.r] 48 ∧ PS W b size bx g2 n2 c2 x z (w2.setRow bx #[.slice (some ⟨g2, 0, none⟩) n2 c2, .int .i64 z.r]) := by
  have hbx := h.row.lt
  have hrow := h.row.below hb hbx
  have hE : EncOff W b size x (fun i => i = bx ∨ i = g2) w2 := h.enc.add hb fun k hk => by
    rcases hk with rfl | rfl
    · exact .inl (.inl rfl)
    · exact .inr ⟨hg, hr.lt⟩
  refine ⟨hrow, hE.setRow (.inl rfl) h.bx_ge, ⟨hr.n_eq, hr.n_le, hr.c_le, fun i hi => ?_⟩, hrow.setRow, h.bx_ge, Nat.le_trans h.out.size hg, by omega⟩
  rw [World.cell?_of_block (w := w2) (Go.setRow_other _ _ _ _ (show g2 ≠ bx by omega))]
  exact hr.cell i hi

theorem put_ps (W w : World) (b size bx g n c : Nat) (x y : St) (C : Cl) (s v t : Int) (h : PS W b size bx g n c x y w) (hx : x.ok) (hC : C.ok) (hs : (C.s : Int) = s) (hv : (C.w : Int) = v) (ht : (C.t : Int) = t) (hsz : size ≤ 4096) (hg : x.g ≤ 100000) :
    Calls Tryd.prog 12 #[.pointer (some ⟨b, 0, none⟩), .int .i64 s, .int .i64 v, .int .i64 t] w fun e w' => e = .returned (.int .i64 0) ∧ PS W b size bx g n c (x.put C) y w' :=
  (put_off W w b size x _ C s v t h.enc hx hC hs hv ht hsz hg).mono fun e w' ⟨he, h1, h2⟩ =>
    ⟨he, h1, h.ref.keep h2 (.inr rfl), (h2 bx (.inl rfl)).trans h.row, h.bx_ge, h.g_ge, h.ne⟩
theorem used_ps (W w : World) (b size bx g n c : Nat) (x y : St) (u : Int) (h : PS W b size bx g n c x y w) (hr : x.r ≤ 4294967295) (hg : x.g ≤ 1000000000) (hu : x.used = u) :
    Calls Tryd.prog 13 #[.pointer (some ⟨b, 0, none⟩)] w fun e w' => e = .returned (.int .i64 u) ∧ Below w.heap.size w w' :=
  (used_off W w b size x _ u h.enc hr hg hu).mono fun e w' ⟨he, h1, h2⟩ => ⟨he, h2⟩
theorem done_ps (W w : World) (b size bx g n c : Nat) (x y : St) (t : ByteArray) (z : Int) (h : PS W b size bx g n c x y w) (hsz : size ≤ 4096) (ht : ⟨(x.out size).toArray⟩ = t) (hz : x.err size = z) :
    Calls Tryd.prog 14 #[.pointer (some ⟨b, 0, none⟩)] w fun e w' => e = .returned (.tuple #[.string t, .int .i64 z]) ∧ PS W b size bx g n c x y w' :=
  (done_off W w b size x _ t z h.enc hsz ht hz).mono fun e w' ⟨he, h1, h2⟩ => ⟨he, h.below h2⟩

/-- The document's Put, of a cell that came in. -/
theorem refPut_at (g n c : Nat) (x : St) (C : Cl) (r s v t : Int) (w : World) (hr : (x.r : Int) = r) (hs : (C.s : Int) = s) (hv : (C.w : Int) = v) (ht : (C.t : Int) = t) (hR : RefAt w g n c x) (hx : x.ok) (hC : C.ok) (hg : x.g ≤ 100000) :
    Calls Tryd.prog 24 #[.agg #[.slice (some ⟨g, 0, none⟩) n c, .int .i64 r], .agg #[.int .i64 s, .int .i64 v, .int .i64 t]] w fun e w' => RetRef w (x.put C) e w' := by
  subst hr hs hv ht
  exact refPut_as g n c x C w hR hx hC hg
theorem refUsed_at (g n c : Nat) (x : St) (r u : Int) (w : World) (hr : (x.r : Int) = r) (hn : n = 4 + x.g) (hx : x.r ≤ 4294967295) (hg : x.g ≤ 100000) (hu : x.used = u) :
    Calls Tryd.prog 25 #[.agg #[.slice (some ⟨g, 0, none⟩) n c, .int .i64 r]] w fun e w' => e = .returned (.int .i64 u) ∧ Below w.heap.size w w' := by
  subst hr
  refine refUsed_as _ n c x.r u w (by omega) hx ?_
  rw [← hu, hn]
  unfold St.used
  omega
theorem refDone_at (g n c : Nat) (x : St) (r : Int) (size : Nat) (z : Int) (t : ByteArray) (B : Bool) (w : World) (hr : (x.r : Int) = r) (hz : (size : Int) = z) (ht : ⟨(x.out size).toArray⟩ = t) (hB : decide (x.trim.length ≤ size) = B) (hR : RefAt w g n c x) (hg : x.g ≤ 100000) (hsz : size ≤ 4096) :
    Calls Tryd.prog 26 #[.agg #[.slice (some ⟨g, 0, none⟩) n c, .int .i64 r], .int .i64 z] w fun e w' => e = .returned (.tuple #[.string t, .bool B]) ∧ Below w.heap.size w w' := by
  subst hr hz ht hB
  exact refDone_as g n c x size w hR hg hsz

/-- A cell of three numbers. -/
theorem Tr.cell {x : Tr} (h : x.is) : ∃ C : Cl, C.ok ∧ (C.s : Int) = x.s ∧ (C.w : Int) = x.v ∧ (C.t : Int) = x.t := by
  obtain ⟨h1, h2, h3, h4, h5⟩ := h
  exact ⟨⟨x.s.toNat, x.v.toNat, x.t.toNat⟩, ⟨by show 1 ≤ x.t.toNat; omega, by show x.t.toNat ≤ 32768; omega, by show 1 ≤ x.v.toNat; omega, by show x.s.toNat + x.v.toNat ≤ x.t.toNat; omega⟩, by show (x.s.toNat : Int) = x.s; omega, by show (x.v.toNat : Int) = x.v; omega, by show (x.t.toNat : Int) = x.t; omega⟩
end Go.Proofs.YtnlfbndemajkaaaDoor.Rg
