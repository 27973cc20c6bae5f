/- What stands while DiskPlays goes on: the program's disk, the document's, how often each sector was read, the act. -/
import Derived.Test.YtcahdjkmegnbfaaDkV
set_option maxRecDepth 100000
set_option linter.unusedVariables false
set_option linter.unusedSimpArgs false
namespace Go.Proofs.Ytcahdjkmegnbfaa.Dk
open Go.RowKit Go.Proofs.Ytcahdjkmegnbfaa.Row

structure Pl (w : World) (b N gx rb crs : Nat) (G Gr : Nat → Prop) (d x : Dsk) (v : Array Value) (rd : Int → Int) (W : World) : Prop where
  dk : DkL w b N d G W
  row : At W gx v 33
  ref : RkD W Gr x v
  sub : ∀ k, Gr k → G k ∧ k ≠ gx ∧ k ≠ rb
  ing : G gx ∧ G rb ∧ gx ≠ rb
  rds : Els W 0 3 1 (some ⟨rb, 0, none⟩) d.size crs (fun j => #[.int .i64 (rd (j : Nat))])
  fit : Fit d ∧ Fit x
  out : ∀ j : Int, ¬ (0 ≤ j ∧ j < d.size) → rd j = 0
section
variable {w W W' : World} {b N gx rb crs : Nat} {G Gr : Nat → Prop} {d x : Dsk} {v : Array Value} {rd : Int → Int}
theorem Pl.below (h : Pl w b N gx rb crs G Gr d x v rd W) (hb : Below W.heap.size W W') : Pl w b N gx rb crs G Gr d x v rd W' :=
  ⟨(h.dk.own (.of_below hb)).sub fun k hk => .inl hk, h.row.below hb h.row.lt, Rk.below h.ref hb, h.sub, h.ing, h.rds.below hb, h.fit, h.out⟩
theorem Pl.grow (h : Pl w b N gx rb crs G Gr d x v rd W) (hb : Below W.heap.size W W') : Pl w b N gx rb crs (fun k => G k ∨ (W.heap.size ≤ k ∧ k < W'.heap.size)) Gr d x v rd W' :=
  ⟨h.dk.own (.of_below hb), h.row.below hb h.row.lt, Rk.below h.ref hb, fun k hk => ⟨.inl (h.sub k hk).1, (h.sub k hk).2⟩, ⟨.inl h.ing.1, .inl h.ing.2.1, h.ing.2.2⟩, h.rds.below hb, h.fit, h.out⟩
theorem Pl.alloc (h : Pl w b N gx rb crs G Gr d x v rd W) (o : Obj) : Pl w b N gx rb crs (Plus G W.heap.size) Gr d x v rd (W.alloc o) := by
  have hb := (Below.refl W.heap.size W).alloc (Nat.le_refl _) o
  exact ⟨h.dk.alloc o, h.row.below hb h.row.lt, Rk.below h.ref hb, fun k hk => ⟨.inl (h.sub k hk).1, (h.sub k hk).2⟩, ⟨.inl h.ing.1, .inl h.ing.2.1, h.ing.2.2⟩, h.rds.below hb, h.fit, h.out⟩
theorem Pl.drew (h : Pl w b N gx rb crs G Gr d x v rd W) : Pl w b N gx rb crs G Gr d x v rd W.drew := h.below (Below.refl _ _).drew
/-- A call of the disk's that counts no read. -/
theorem Pl.disk (h : Pl w b N gx rb crs G Gr d x v rd W) {N' : Nat} {d' : Dsk} (hd : DkL w b N' d' G W') (hk : Kp G W W') (hs : d'.size = d.size) (hf : Fit d') : Pl w b N' gx rb crs G Gr d' x v rd W' :=
  ⟨hd, hk.at h.ing.1 h.row, Rk.kp h.ref ⟨hk.1, fun k hG => hk.2 k (h.sub k hG).1⟩, h.sub, h.ing, by rw [hs]; exact hk.els (fun q hq => by have e : some rb = some q := hq; injection e with e; exact e ▸ h.ing.2.1) h.rds, ⟨hf, h.fit.2⟩, by rw [hs]; exact h.out⟩
/-- The document's disk stored. -/
theorem Pl.setX (h : Pl w b N gx rb crs G Gr d x v rd W) {Gr' : Nat → Prop} {x' : Dsk} {v' : Array Value} (hr : RkD W Gr' x' v') (hs : ∀ k, Gr' k → G k ∧ k ≠ gx ∧ k ≠ rb) (hf : Fit x') : Pl w b N gx rb crs G Gr' d x' v' rd (W.setRow gx v') :=
  ⟨h.dk.setRow h.ing.1 v', h.row.setRow, Rk.keep hr (by rw [size_setRow]; exact Nat.le_refl _) fun k hG _ => Go.setRow_other _ _ _ _ (hs k hG).2.1, hs, h.ing, h.rds.setRow v' fun q hq => by have e : some rb = some q := hq; injection e with e; have := h.ing.2.2; omega, ⟨h.fit.1, hf⟩, h.out⟩
/-- What a document's function has made. -/
theorem Pl.made (h : Pl w b N gx rb crs G Gr d x v rd W) (hb : Below W.heap.size W W') : ∀ k, (Gr k ∨ (W.heap.size ≤ k ∧ k < W'.heap.size)) → (G k ∨ (W.heap.size ≤ k ∧ k < W'.heap.size)) ∧ k ≠ gx ∧ k ≠ rb := fun k hk => by
  have h1 := (h.dk.2.2 gx h.ing.1).2
  have h2 := (h.dk.2.2 rb h.ing.2.1).2
  rcases hk with hk | hk
  · exact ⟨.inl (h.sub k hk).1, (h.sub k hk).2⟩
  · exact ⟨.inr hk, by omega, by omega⟩
theorem Pl.low (h : Pl w b N gx rb crs G Gr d x v rd W) : ∀ k, Gr k → k < W.heap.size := fun k hk => (h.dk.2.2 k (h.sub k hk).1).2
theorem Pl.cells (h : Pl w b N gx rb crs G Gr d x v rd W) : W.cell? ⟨gx, 4, none⟩ = some (.bool x.down) ∧ W.cell? ⟨gx, 5, none⟩ = some (.int .i64 (max x.fuse (-1))) ∧ (∀ j, W.frozen? ⟨gx, j, none⟩ = false) ∧ v.size = 6 ∧ v.all (·.oneCell') = true := by
  obtain ⟨a0, c0, a1, c1, a2, c2, a3, c3, e, _⟩ := id h.ref
  have h6 := Rk.six h.ref
  refine ⟨?_, ?_, fun j => h.row.frozen j, h6⟩
  · rw [h.row.cell, e]; rfl
  · rw [h.row.cell, e]; rfl
/-- Where what is read, and the writes that aren't sure, stand. -/
theorem Pl.seen (h : Pl w b N gx rb crs G Gr d x v rd W) : ∃ a1 c1 a2 c2, W.cell? ⟨gx, 1, none⟩ = some (.slice a1 x.size c1) ∧ W.cell? ⟨gx, 2, none⟩ = some (.slice a2 x.n c2) ∧ SlG W Gr 64 a1 x.size c1 (fun k => x.seen (k : Nat)) := by
  obtain ⟨a0, c0, a1, c1, a2, c2, a3, c3, e, _, h1, _⟩ := id h.ref
  exact ⟨a1, c1, a2, c2, by rw [h.row.cell, e]; rfl, by rw [h.row.cell, e]; rfl, h1⟩
/-- Up, in the document's disk. -/
theorem Pl.upX (h : Pl w b N gx rb crs G Gr d x v rd W) : ∃ v', Pl w b N gx rb crs G Gr d x.upped v' rd (W.setCell ⟨gx, 4, none⟩ (.bool false)) := by
  obtain ⟨a0, c0, a1, c1, a2, c2, a3, c3, e, h0, h1, h2, h3⟩ := id h.ref
  have ne : ∀ k, Gr k → k ≠ gx := fun k hk => (h.sub k hk).2.1
  refine ⟨v.setIfInBounds 4 (.bool false), (h.dk.own ((Fr.refl G W).setCell (.inl h.ing.1) _)).sub fun k hk => .inl hk, h.row.setCell, ⟨a0, c0, a1, c1, a2, c2, a3, c3, by rw [e]; rfl, h0.setCell _ ne, h1.setCell _ ne, h2.setCell _ ne, h3.setCell _ ne⟩, h.sub, h.ing, h.rds.setCell _ fun q hq => ?_, ⟨h.fit.1, h.fit.2.up⟩, h.out⟩
  have e : some rb = some q := hq
  injection e with e
  have := h.ing.2.2
  show q ≠ gx
  omega
/-- A fuse, in the document's disk. -/
theorem Pl.fuseX (h : Pl w b N gx rb crs G Gr d x v rd W) (n : Int) (hn : (Lit.int .i64 n).wf = true) : ∃ v', Pl w b N gx rb crs G Gr d (x.fused n) v' rd (W.setCell ⟨gx, 5, none⟩ (.int .i64 (max n (-1)))) := by
  obtain ⟨a0, c0, a1, c1, a2, c2, a3, c3, e, h0, h1, h2, h3⟩ := id h.ref
  have ne : ∀ k, Gr k → k ≠ gx := fun k hk => (h.sub k hk).2.1
  refine ⟨v.setIfInBounds 5 (.int .i64 (max n (-1))), (h.dk.own ((Fr.refl G W).setCell (.inl h.ing.1) _)).sub fun k hk => .inl hk, h.row.setCell, ⟨a0, c0, a1, c1, a2, c2, a3, c3, by rw [e]; rfl, h0.setCell _ ne, h1.setCell _ ne, h2.setCell _ ne, h3.setCell _ ne⟩, h.sub, h.ing, h.rds.setCell _ fun q hq => ?_, ⟨h.fit.1, h.fit.2.fused hn⟩, h.out⟩
  have e : some rb = some q := hq
  injection e with e
  have := h.ing.2.2
  show q ≠ gx
  omega
/-- One more read counted. -/
theorem Pl.count (h : Pl w b N gx rb crs G Gr d x v rd W) {k : Nat} (hk : k < d.size) : Pl w b N gx rb crs G Gr d x v (fun j => if j = k then rd j + 1 else rd j) (W.setCell ⟨rb, k, none⟩ (.int .i64 (rd k + 1))) := by
  obtain ⟨C, hC, hE⟩ := h.rds.stored hk (P := #[.int .i64 (rd k + 1)]) ⟨rfl, by simp [Value.oneCell']⟩
  have e : W.setCell ⟨rb, k, none⟩ (.int .i64 (rd k + 1)) = W.setRow rb C := by rw [← hC, Nat.mul_one]; rfl
  rw [e]
  refine ⟨h.dk.setRow h.ing.2.1 C, h.row.setRow_other h.ing.2.2, Rk.keep h.ref (by rw [size_setRow]; exact Nat.le_refl _) fun q hG _ => Go.setRow_other _ _ _ _ (h.sub q hG).2.2, h.sub, h.ing, hE.ext fun i hi => ?_, h.fit, fun j hj => ?_⟩
  · by_cases e : i = k
    · subst e; simp only [if_true]
    · rw [if_neg e, if_neg (by omega)]
  · rw [if_neg (fun e => hj (by omega))]; exact h.out j hj
theorem Pl.readX (h : Pl w b N gx rb crs G Gr d x v rd W) (i : Int) : Pl w b N gx rb crs G Gr d (x.readD i) v rd W := ⟨h.dk, h.row, h.ref.read i, h.sub, h.ing, h.rds, ⟨h.fit.1, h.fit.2.read i⟩, h.out⟩
theorem Pl.mono (h : Pl w b N gx rb crs G Gr d x v rd W) {N' : Nat} (hN : N ≤ N') : Pl w b N' gx rb crs G Gr d x v rd W := ⟨h.dk.mono hN, h.row, h.ref, h.sub, h.ing, h.rds, h.fit, h.out⟩
/-- How often a sector was read, as it stands. -/
theorem Pl.rdAt (h : Pl w b N gx rb crs G Gr d x v rd W) {k : Nat} (hk : k < d.size) : W.cell? ⟨rb, k, none⟩ = some (.int .i64 (rd k)) ∧ W.frozen? ⟨rb, k, none⟩ = false := by
  refine ⟨?_, ?_⟩
  · have := h.rds.range hk 0 (.int .i64 (rd k)) rfl
    rwa [Nat.mul_one] at this
  · have := (Els.there h.rds hk 0 (by omega)).2
    rwa [Nat.mul_one] at this
end
/-- At the heads of the loops: both are one disk. -/
def PlS (w : World) (b N gx rb crs K size : Nat) (W : World) : Prop := ∃ (G Gr : Nat → Prop) (d : Dsk) (v : Array Value), Pl w b N gx rb crs G Gr d d v d.reads W ∧ d.n ≤ K ∧ d.size = size
theorem PlS.drew {w W : World} {b N gx rb crs K size : Nat} (h : PlS w b N gx rb crs K size W) : PlS w b N gx rb crs K size W.drew := let ⟨G, Gr, d, v, h1, h2⟩ := h; ⟨G, Gr, d, v, h1.drew, h2⟩

/-- An act, cell by cell. -/
def acR (op pl : Int) (P : Array Value) (ka : Option Addr) (kn kc : Nat) : Array Value := #[.int .u8 op, .int .i64 pl] ++ P ++ #[.slice ka kn kc]
theorem acR_size {op pl : Int} {P : Array Value} (h : Pag P) (ka : Option Addr) (kn kc : Nat) : (acR op pl P ka kn kc).size = 67 := by unfold acR; rw [Array.size_append, Array.size_append, h.size]; rfl
theorem acR_one {op pl : Int} {P : Array Value} (h : Pag P) (ka : Option Addr) (kn kc : Nat) : (acR op pl P ka kn kc).all (·.oneCell') = true := by
  unfold acR
  rw [Array.all_append, Array.all_append, h.one]
  simp [Value.oneCell']
theorem acR_get {op pl : Int} {P : Array Value} (h : Pag P) (ka : Option Addr) (kn kc : Nat) : (acR op pl P ka kn kc)[0]? = some (.int .u8 op) ∧ (acR op pl P ka kn kc)[1]? = some (.int .i64 pl) ∧ (∀ j, j < 64 → (acR op pl P ka kn kc)[2 + j]? = P[j]?) ∧ (acR op pl P ka kn kc)[66]? = some (.slice ka kn kc) := by
  have hs := h.size
  have h66 : (#[Value.int .u8 op, .int .i64 pl] ++ P).size = 66 := by rw [Array.size_append, hs]; rfl
  unfold acR
  refine ⟨?_, ?_, fun j hj => ?_, ?_⟩
  · rw [Array.getElem?_append_left (by omega), Array.getElem?_append_left (by simp)]; rfl
  · rw [Array.getElem?_append_left (by omega), Array.getElem?_append_left (by simp)]; rfl
  · rw [Array.getElem?_append_left (by omega), Array.getElem?_append_right (by simp)]; simp
  · rw [Array.getElem?_append_right (by omega), h66]; rfl
theorem AcV.whole {w : World} {b o : Nat} {op pl : Int} {P : Array Value} {ka : Option Addr} {kn kc : Nat} (h : AcV w b o op pl P ka kn kc) (hP : Pag P) : w.rangeAt b o (acR op pl P ka kn kc).toList := fun j v hv => by
  obtain ⟨g0, g1, g2, g3⟩ := acR_get (op := op) (pl := pl) hP ka kn kc
  rw [Array.getElem?_toList] at hv
  have hj : j < 67 := by rw [← acR_size hP ka kn kc (op := op) (pl := pl)]; exact (Array.getElem?_eq_some_iff.1 hv).1
  obtain ⟨h0, h1, h2, h3⟩ := h
  by_cases e0 : j = 0
  · subst e0; rw [g0] at hv; rw [← hv]; exact h0
  · by_cases e1 : j = 1
    · subst e1; rw [g1] at hv; rw [← hv]; exact h1
    · by_cases e3 : j = 66
      · subst e3; rw [g3] at hv; rw [← hv]; exact h3
      · obtain ⟨q, rfl⟩ : ∃ q, j = 2 + q := ⟨j - 2, by omega⟩
        rw [g2 q (by omega)] at hv
        rw [← Nat.add_assoc]
        exact h2 q v (by rw [Array.getElem?_toList]; exact hv)
theorem acV_of {w : World} {g : Nat} {op pl : Int} {P : Array Value} {ka : Option Addr} {kn kc : Nat} {t : TypeId} (hP : Pag P) (h : At w g (acR op pl P ka kn kc) t) : AcV w g 0 op pl P ka kn kc := by
  obtain ⟨g0, g1, g2, g3⟩ := acR_get (op := op) (pl := pl) hP ka kn kc
  refine ⟨by rw [h.cell]; exact g0, by rw [h.cell]; exact g1, fun j v hv => ?_, by rw [h.cell]; exact g3⟩
  rw [Array.getElem?_toList] at hv
  have hj : j < 64 := by rw [← hP.size]; exact (Array.getElem?_eq_some_iff.1 hv).1
  rw [show 0 + 2 + j = 2 + j by omega, h.cell, g2 j hj]
  exact hv
theorem info_act {A : Array Value} (h : A.size = 67) : (Try.prog.info? 39).map (·.size) = some A.size := by rw [h]; kernel_rfl
theorem zero_act (w : World) : (zeroValue 39).run Try.prog w = .ok (.agg zA) w := by kernel_rfl
end Go.Proofs.Ytcahdjkmegnbfaa.Dk
