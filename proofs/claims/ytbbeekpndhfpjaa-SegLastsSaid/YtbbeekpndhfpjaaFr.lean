/- What a call may have changed: the blocks that T names, and new ones. -/
import Derived.Test.YtbbeekpndhfpjaaRow
import Derived.OwnWalk
import Derived.Maps.AppendAt
set_option maxRecDepth 100000
namespace Go.Proofs.Ytbbeekpndhfpjaa.Row
open Go.RowKit

/-- All blocks that stood in w, but T's, stand as they were. -/
structure Fr (T : Nat → Prop) (w w' : World) : Prop where
  os : w'.os = w.os
  tape : w'.tape = w.tape
  output : w'.output = w.output
  size : w.heap.size ≤ w'.heap.size
  block : ∀ k, k < w.heap.size → ¬ T k → w'.heap[k]? = w.heap[k]?

theorem Fr.refl (T : Nat → Prop) (w : World) : Fr T w w := ⟨rfl, rfl, rfl, Nat.le_refl _, fun _ _ _ => rfl⟩
theorem Fr.of_below {T : Nat → Prop} {w w' : World} (h : Below w.heap.size w w') : Fr T w w' := ⟨h.os, h.tape, h.output, h.size, fun k hk _ => h.block k hk⟩
theorem Fr.trans {T U : Nat → Prop} {w w1 w2 : World} (h : Fr T w w1) (k : Fr U w1 w2) (hU : ∀ i, i < w.heap.size → U i → T i) : Fr T w w2 :=
  ⟨k.os.trans h.os, k.tape.trans h.tape, k.output.trans h.output, Nat.le_trans h.size k.size, fun i hi hT => (k.block i (Nat.lt_of_lt_of_le hi h.size) fun hu => hT (hU i hi hu)).trans (h.block i hi hT)⟩
theorem Fr.same {T : Nat → Prop} {w w1 w2 : World} (h : Fr T w w1) (k : Fr T w1 w2) : Fr T w w2 := h.trans k fun _ _ h => h
theorem Fr.below_trans {T : Nat → Prop} {w w1 w2 : World} (h : Fr T w w1) (k : Below w1.heap.size w1 w2) : Fr T w w2 := h.same (.of_below k)
theorem Fr.mono {T U : Nat → Prop} {w w' : World} (h : Fr T w w') (hT : ∀ i, i < w.heap.size → T i → U i) : Fr U w w' := ⟨h.os, h.tape, h.output, h.size, fun k hk hu => h.block k hk fun ht => hu (hT k hk ht)⟩
theorem Fr.drew {T : Nat → Prop} {w w' : World} (h : Fr T w w') : Fr T w w'.drew := ⟨h.os, h.tape, h.output, h.size, h.block⟩
theorem Fr.drewN {T : Nat → Prop} {w w' : World} (h : Fr T w w') (n : Nat) : Fr T w (w'.drewN n) := ⟨h.os, h.tape, h.output, h.size, h.block⟩
theorem Fr.alloc {T : Nat → Prop} {w w' : World} (h : Fr T w w') (o : Obj) : Fr T w (w'.alloc o) :=
  h.below_trans ((Below.refl _ _).alloc (Nat.le_refl _) o)
theorem Fr.setCell {T : Nat → Prop} {w w' : World} (h : Fr T w w') {p : Addr} (hp : T p.block ∨ w.heap.size ≤ p.block) (v : Value) : Fr T w (w'.setCell p v) :=
  ⟨h.os, h.tape, h.output, by simpa [World.setCell] using h.size, fun k hk hT => (Below.heap_setCell _ _ _ _ (fun e => by subst e; rcases hp with hp | hp; exact hT hp; omega)).trans (h.block k hk hT)⟩
theorem Fr.setRow {T : Nat → Prop} {w w' : World} (h : Fr T w w') {b : Nat} (hp : T b ∨ w.heap.size ≤ b) (A : Array Value) : Fr T w (w'.setRow b A) :=
  ⟨h.os, h.tape, h.output, by rw [size_setRow]; exact h.size, fun k hk hT => (Go.setRow_other _ _ _ _ (fun e => by subst e; rcases hp with hp | hp; exact hT hp; omega)).trans (h.block k hk hT)⟩
theorem Fr.grown {T : Nat → Prop} {w w1 w2 : World} {row : Option Nat} (h : Fr T w w1) (hg : w1.grownBy w2 row) (hr : ∀ k, row = some k → T k ∨ w.heap.size ≤ k) : Fr T w w2 :=
  ⟨hg.os.trans h.os, hg.tape.trans h.tape, hg.output.trans h.output, Nat.le_trans h.size hg.size, fun k hk hT => (hg.block k (Nat.lt_of_lt_of_le hk h.size) (fun e => by rcases hr k e.symm with h | h; exact hT h; omega)).trans (h.block k hk hT)⟩
theorem Fr.below {T : Nat → Prop} {B : Nat} {w w' : World} (h : Fr T w w') (hB : B ≤ w.heap.size) (hT : ∀ k, T k → B ≤ k) : Below B w w' :=
  ⟨h.os, h.tape, h.output, h.size, fun k hk => h.block k (by omega) fun ht => by have := hT k ht; omega⟩
theorem Fr.none {w w' : World} (h : Fr (fun _ => False) w w') : Below w.heap.size w w' := h.below (Nat.le_refl _) fun _ h => h.elim
theorem At.fr {T : Nat → Prop} {w w' : World} {b : Nat} {A : Array Value} {t : TypeId} (hA : At w b A t) (h : Fr T w w') (hT : ¬ T b) : At w' b A t := (h.block b hA.lt hT).trans hA
theorem Fr.cell {T : Nat → Prop} {w w' : World} (h : Fr T w w') {p : Addr} {x : Value} (hc : w.cell? p = some x) (hT : ¬ T p.block) : w'.cell? p = some x :=
  (World.cell?_of_block (w := w) (h.block _ (block_lt_of_cell hc) hT)).trans hc
theorem Fr.owns {T : Nat → Prop} {w w' : World} {B sz n : Nat} {e : TypeId} {v : Value} {xs : List Value} (h : Fr T w w') (ho : w.ownsRow B e sz v n xs) (hT : ∀ k, v.ownBlock = some k → ¬ T k) : w'.ownsRow B e sz v n xs := by
  obtain ⟨h1, h2⟩ := ho
  refine ⟨h1, ?_⟩
  rcases h2 with h2 | ⟨g, cap, cur, rfl, h3, h4, h5⟩
  · exact .inl h2
  · exact .inr ⟨g, cap, cur, rfl, h3, (h.block g (Array.getElem?_eq_some_iff.1 h4).1 (hT g rfl)).trans h4, h5⟩
theorem owns_below {w w' : World} {B sz n : Nat} {e : TypeId} {v : Value} {xs : List Value} (ho : w.ownsRow B e sz v n xs) (h : Below w.heap.size w w') : w'.ownsRow B e sz v n xs :=
  Fr.owns (T := fun _ => False) (.of_below h) ho fun _ _ h => h

/-- Just block alone. -/
def Just (b k : Nat) : Prop := k = b
theorem Just.self (b : Nat) : Just b b := rfl
theorem just_iff {b k : Nat} : Just b k ↔ k = b := Iff.rfl

/-- The cell at number i of a row at a block. -/
theorem At.cell {w : World} {b : Nat} {A : Array Value} {t : TypeId} (h : At w b A t) (i : Nat) : w.cell? ⟨b, i, none⟩ = A[i]? := cell_of_row _ _ i _ _ _ h
end Go.Proofs.Ytbbeekpndhfpjaa.Row
