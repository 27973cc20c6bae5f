/- Texts of the walk, one behind the other. -/
import Derived.Test.YtfohinlldchdpaaGreatDoorEncPlaysM24
import Derived.Test.YtfohinlldchdpaaGreatDoorEncPlaysM42
import Derived.Test.YtfohinlldchdpaaGreatDoorEncPlaysM41
import Derived.Test.YtfohinlldchdpaaGreatDoorEncPlaysM29

section
/- What stands while the document's encoder goes on; bounds of what is lifted. -/
set_option maxRecDepth 100000
set_option linter.unusedVariables false
namespace Go.Proofs.YtfohinlldchdpaaGreatDoor.En
open Go.RowKit Go.Proofs.YtfohinlldchdpaaGreatDoor.Row Go.Proofs.YtfohinlldchdpaaGreatDoor.Rg Go.Proofs.YtfohinlldchdpaaGreatDoor.Md Go.Proofs.YtfohinlldchdpaaGreatDoor.Tl Go.Proofs.YtfohinlldchdpaaGreatDoor.Sta

/-! Fields of fields, rows by their cells. -/
theorem fld_off {t : TypeId} {i o : Nat} (h : ∀ b q w, (Instr.fieldAt t (.pointer (some ⟨b, q, none⟩)) i).run Tryz.prog w = .ok (.pointer (some ⟨b, q + o, none⟩)) w) {ops : Array Oper} {S : World → Prop} {oi : Oper} {a : Act} {y : Operand} {b q : Nat} (hw : Region.wanted oi (yielded ops a.tmps) = true) (ho : oi.op = .fieldAddr t y i) (hy : a.eval y = .pointer (some ⟨b, q, none⟩)) :
    YieldsIf Tryz.prog ops S oi (.pointer (some ⟨b, q + o, none⟩)) a :=
  y_run hw fun w => by
    unfold execOp
    simp only [ho, hy, h, Sem.run_bind, Result.andThen_ok, Sem.run_pure]
theorem fld_rs2 (b q : Nat) (w : World) : (Instr.fieldAt 25 (.pointer (some ⟨b, q, none⟩)) 2).run Tryz.prog w = .ok (.pointer (some ⟨b, q + 17, none⟩)) w := by
  unfold Instr.fieldAt
  simp [Sem.run_bind, run_underlying Tryz.underlying25, Instr.sureAddr, go_sem, Addr.add]
theorem At.whole {w : World} {b : Nat} {A : Array Value} {t : TypeId} (h : At w b A t) : w.rangeAt b 0 A.toList := fun j v hj => by
  rw [Nat.zero_add, h.cell, ← Array.getElem?_toList]
  exact hj

/-- What stands: the encoder and the frame that came in, a result of one's own, what was lifted, the waves, the coder, the levels. -/
structure ES (w : World) (T : Array Value) (bl bw bc bv : Nat) (Lf Wv V : Array Value) (g n c : Nat) (x : St) (w' : World) : Prop where
  out : Below w.heap.size w w'
  t : At w' w.heap.size T 27
  z : ∃ Z : Array Value, Z.size = 55 ∧ At w' (w.heap.size + 1 + 1) Z 27
  lf : At w' bl Lf 22
  wv : At w' bw Wv 22
  co : At w' bc #[.slice (some ⟨g, 0, none⟩) n c, .int .i64 x.r] 85
  le : At w' bv V 23
  rf : RefAt w' g n c x
  o1 : w.heap.size + 1 + 1 < bl
  o2 : bl < bw
  o3 : bw < bc
  o4 : bc < bv
  g0 : bw < g
  g1 : g ≠ bc
  g2 : g ≠ bv
section
variable {w w1 w2 : World} {T Lf Wv V : Array Value} {bl bw bc bv g n c : Nat} {x : St}
theorem ES.next (h : ES w T bl bw bc bv Lf Wv V g n c x w1) (hb : Below w1.heap.size w1 w2) : ES w T bl bw bc bv Lf Wv V g n c x w2 := by
  obtain ⟨h1, h2, ⟨Z, z1, z2⟩, h4, h5, h6, h7, h8, o1, o2, o3, o4, g0, g1, g2⟩ := h
  exact ⟨below_trans h1 hb h1.size, h2.below hb h2.lt, ⟨Z, z1, z2.below hb z2.lt⟩, h4.below hb h4.lt, h5.below hb h5.lt, h6.below hb h6.lt, h7.below hb h7.lt, h8.below hb, o1, o2, o3, o4, g0, g1, g2⟩
theorem RefAt.other (h : RefAt w1 g n c x) {p : Addr} (hp : g ≠ p.block) (v : Value) : RefAt (w1.setCell p v) g n c x :=
  ⟨h.n_eq, h.n_le, h.c_le, fun i hi => (cell_set_other _ _ _ _ hp).trans (h.cell i hi)⟩
theorem RefAt.row_other (h : RefAt w1 g n c x) {b : Nat} (hp : g ≠ b) (C : Array Value) : RefAt (w1.setRow b C) g n c x :=
  ⟨h.n_eq, h.n_le, h.c_le, fun i hi => by
    rw [← h.cell i hi]
    refine World.cell?_of_block ?_
    unfold World.setRow
    simp [Array.getElem?_modify, Ne.symm hp]⟩
theorem ES.lev (h : ES w T bl bw bc bv Lf Wv V g n c x w1) (i : Nat) (v : Value) : ES w T bl bw bc bv Lf Wv (V.setIfInBounds i v) g n c x (w1.setCell ⟨bv, i, none⟩ v) := by
  obtain ⟨h1, h2, ⟨Z, z1, z2⟩, h4, h5, h6, h7, h8, o1, o2, o3, o4, g0, g1, g2⟩ := h
  exact ⟨h1.setCell (by dsimp only; omega) _, h2.setCell_other (by dsimp only; omega), ⟨Z, z1, z2.setCell_other (by dsimp only; omega)⟩, h4.setCell_other (by dsimp only; omega), h5.setCell_other (by dsimp only; omega), h6.setCell_other (by dsimp only; omega), h7.setCell, RefAt.other h8 (by dsimp only; omega) v, o1, o2, o3, o4, g0, g1, g2⟩
theorem ES.put {y : St} {g' n' c' : Nat} (h : ES w T bl bw bc bv Lf Wv V g n c x w2) (hg : bv < g') (hr : RefAt w2 g' n' c' y) : ES w T bl bw bc bv Lf Wv V g' n' c' y (w2.setRow bc #[.slice (some ⟨g', 0, none⟩) n' c', .int .i64 y.r]) := by
  obtain ⟨h1, h2, ⟨Z, z1, z2⟩, h4, h5, h6, h7, h8, o1, o2, o3, o4, g0, g1, g2⟩ := h
  exact ⟨below_setRow' h1 (by omega) _, h2.setRow_other (by omega), ⟨Z, z1, z2.setRow_other (by omega)⟩, h4.setRow_other (by omega), h5.setRow_other (by omega), h6.setRow, h7.setRow_other (by omega), RefAt.row_other hr (by omega) _, o1, o2, o3, o4, by omega, by omega, by omega⟩
theorem ES.start {F Z : Array Value} (hW : Tri w T F Z 27 22 27 w1) (hZ : Z.size = 55) (hl : At w1 bl Lf 22) (hv : At w1 bw Wv 22) (hR : RefAt w1 g n c x) (o1 : w.heap.size + 1 + 1 < bl) (o2 : bl < bw) (o3 : bw < w1.heap.size) (g0 : bw < g) (V : Array Value) :
    ES w T bl bw w1.heap.size (w1.heap.size + 1) Lf Wv V g n c x ((w1.alloc (.cells #[.slice (some ⟨g, 0, none⟩) n c, .int .i64 x.r] 85)).alloc (.cells V 23)) := by
  have hg := RefAt.lt hR
  have a1 := At.new (w1.alloc (.cells #[.slice (some ⟨g, 0, none⟩) n c, .int .i64 x.r] 85)) V 23
  simp only [World.size_alloc] at a1
  have hb : Below w1.heap.size w1 ((w1.alloc (.cells #[.slice (some ⟨g, 0, none⟩) n c, .int .i64 x.r] 85)).alloc (.cells V 23)) := ((Below.refl _ _).alloc (Nat.le_refl _) _).alloc (by simp) _
  have hW2 := hW.next hb
  exact ⟨hW2.1, hW2.2.1, ⟨Z, hZ, hW2.2.2.2⟩, hl.below hb hl.lt, hv.below hb hv.lt, (At.new _ _ _).alloc _, a1, hR.below hb, o1, o2, o3, by omega, g0, by omega, by omega⟩
theorem ES.res (h : ES w T bl bw bc bv Lf Wv V g n c x w1) {R : Array Value} (hR : R.size = 55) : ES w T bl bw bc bv Lf Wv V g n c x (w1.setRow (w.heap.size + 1 + 1) R) := by
  obtain ⟨h1, h2, ⟨Z, z1, z2⟩, h4, h5, h6, h7, h8, o1, o2, o3, o4, g0, g1, g2⟩ := h
  exact ⟨below_setRow' h1 (by omega) _, h2.setRow_other (by omega), ⟨R, hR, z2.setRow⟩, h4.setRow_other (by omega), h5.setRow_other (by omega), h6.setRow_other (by omega), h7.setRow_other (by omega), RefAt.row_other h8 (by omega) _, o1, o2, o3, o4, g0, g1, g2⟩
end
end Go.Proofs.YtfohinlldchdpaaGreatDoor.En
end
