/- Texts of the walk, one behind the other. -/
import Derived.Test.YtbbeekpndhfpjaaRow
import Derived.RangeFuncNested
import Derived.RangeFuncLeaves
import Derived.Shelf.Abstract

section
/- A range over a function whose own state lies in cells: the iterator's contract, by the number of rounds, and the law of the statement over it, at the wide fence. -/
set_option maxRecDepth 100000
set_option linter.unusedVariables false
namespace Go.Proofs.Ytbbeekpndhfpjaa.Rf
open Go.RowKit Go.Proofs.Ytbbeekpndhfpjaa.Row Go.Shelf

/-- What holds of a world holds when new blocks are laid, and one at or beyond B is turned, whatever it is. -/
def Deaf (B : Nat) (J : World → Prop) : Prop := ∀ W W' row, J W → W.grownBy W' row → (∀ r, row = some r → B ≤ r) → J W'
theorem Deaf.mono {B C : Nat} {J : World → Prop} (h : Deaf B J) (hBC : B ≤ C) : Deaf C J := fun W W' row hj hg hr => h W W' row hj hg fun r e => Nat.le_trans hBC (hr r e)
theorem Deaf.and {B : Nat} {J K : World → Prop} (h : Deaf B J) (k : Deaf B K) : Deaf B fun W => J W ∧ K W := fun W W' row hj hg hr => ⟨h W W' row hj.1 hg hr, k W W' row hj.2 hg hr⟩
theorem Deaf.const (B : Nat) (p : Prop) : Deaf B fun _ => p := fun _ _ _ hj _ _ => hj
theorem Deaf.below {B n : Nat} {w : World} (hn : n ≤ w.heap.size) (hB : n ≤ B) : Deaf B fun W => Below n w W := fun W W' row hj hg hr => hj.grown hg (Nat.le_trans hn hj.size) fun k e => Nat.le_trans hB (hr k e)
theorem Deaf.at {B b : Nat} {A : Array Value} {t : TypeId} (hb : b < B) : Deaf B fun W => At W b A t := fun W W' row hj hg hr => (hg.block b hj.lt fun e => by have := hr b e.symm; omega).trans hj
theorem Deaf.put {B l : Nat} {J : World → Prop} (h : Deaf B J) (hl : B ≤ l) (o : Obj) {W : World} (hj : J W) : J (W.putObj l o) := h W _ (some l) hj (grownBy_putObj' W l o) fun r e => by cases e; exact hl
theorem Deaf.alloc {B : Nat} {J : World → Prop} (h : Deaf B J) (o : Obj) {W : World} (hj : J W) : J (W.alloc o) := h W _ none hj (World.grownBy_alloc W o none) fun r e => by cases e
theorem grownBy_setCell (W : World) (p : Addr) (v : Value) : W.grownBy (W.setCell p v) (some p.block) :=
  ⟨rfl, rfl, rfl, by simp [World.setCell], fun k _ hk => heap_setCell_other _ _ _ _ fun e => hk (by rw [e])⟩
theorem Deaf.setCell {B : Nat} {J : World → Prop} (h : Deaf B J) {p : Addr} (hp : B ≤ p.block) (v : Value) {W : World} (hj : J W) : J (W.setCell p v) := h W _ (some p.block) hj (grownBy_setCell W p v) fun r e => by cases e; exact hp
theorem Deaf.setRow {B : Nat} {J : World → Prop} (h : Deaf B J) {b : Nat} (hb : B ≤ b) (A : Array Value) {W : World} (hj : J W) : J (W.setRow b A) :=
  h W _ (some b) hj ⟨rfl, rfl, rfl, by rw [size_setRow]; exact Nat.le_refl _, fun k _ hk => setRow_other _ _ _ _ fun e => hk (by rw [e])⟩ fun r e => by cases e; exact hb

/-- The blocks from B on stand as they stood. -/
structure Kept (B : Nat) (W W' : World) : Prop where
  size : W.heap.size ≤ W'.heap.size
  same : ∀ k, B ≤ k → k < W.heap.size → W'.heap[k]? = W.heap[k]?
theorem Kept.refl (B : Nat) (W : World) : Kept B W W := ⟨Nat.le_refl _, fun _ _ _ => rfl⟩
theorem Kept.trans {B : Nat} {W W1 W2 : World} (h : Kept B W W1) (k : Kept B W1 W2) : Kept B W W2 := ⟨Nat.le_trans h.size k.size, fun i hB hi => (k.same i hB (Nat.lt_of_lt_of_le hi h.size)).trans (h.same i hB hi)⟩
theorem Kept.mono {B C : Nat} {W W' : World} (h : Kept B W W') (hBC : B ≤ C) : Kept C W W' := ⟨h.size, fun k hk => h.same k (Nat.le_trans hBC hk)⟩
theorem Kept.at {B b : Nat} {W W' : World} {A : Array Value} {t : TypeId} (h : Kept B W W') (hA : At W b A t) (hb : B ≤ b) : At W' b A t := (h.same b hb hA.lt).trans hA
theorem Kept.of_below {B : Nat} {W W' : World} (h : Below W.heap.size W W') : Kept B W W' := ⟨h.size, fun k _ hk => h.block k hk⟩
theorem Kept.put {B l : Nat} (W : World) (hl : l < B) (o : Obj) : Kept B W (W.putObj l o) := ⟨(grownBy_putObj' W l o).size, fun k hk _ => World.putObj_heap_other (by omega)⟩
theorem Kept.alloc (B : Nat) (W : World) (o : Obj) : Kept B W (W.alloc o) := .of_below ((Below.refl _ _).alloc (Nat.le_refl _) o)
theorem Kept.setCell {B : Nat} (W : World) {p : Addr} (hp : p.block < B) (v : Value) : Kept B W (W.setCell p v) := ⟨(grownBy_setCell W p v).size, fun k hk _ => heap_setCell_other _ _ _ _ (by omega)⟩
theorem Kept.drew (B : Nat) (W : World) : Kept B W W.drew := ⟨Nat.le_refl _, fun _ _ _ => rfl⟩

/-- An iterator hands E 0, E 1 .. to N rounds, one by one; it stops where a round says so; what it keeps itself lies in blocks of its own, which the rounds leave alone. -/
def Hands (n : Nat) (P : Program) (g N : Nat) (E : Nat → Array Value) : Prop :=
  ∀ (l : Nat) (J : Nat → World → Prop) (Jx : World → Prop) (W : World), (∀ i, Deaf W.heap.size (J i)) → Deaf W.heap.size Jx →
    (∀ i W1, i < N → J i W1 → YieldAt Fence.wide (n - 1) P l (E i) W1 fun e W' => (e = .returned (.bool true) ∧ J (i + 1) W' ∧ Kept W.heap.size W1 W') ∨ (e = .returned (.bool false) ∧ Jx W')) →
    J 0 W → CallsIn Fence.wide n P g #[.func (.yield l) #[] #[]] W fun e W' => (∃ v, e = .returned v) ∧ (J N W' ∨ Jx W')

/-- What a round's body must come to. -/
def RoundEnd (B : Nat) (I' Ix : World → Prop) (W : World) : Exit → Act → World → Prop
  | .normal, _, W' => Kept B W W' ∧ I' W'
  | .ret, _, W' => Kept B W W' ∧ Ix W'
  | _, _, _ => False

/-- The law of the statement: I i holds between two rounds, i of them done; Ix where a round has left by a return; Ax of the activation in which a round's body begins. -/
theorem range_over {n : Nat} {P : Program} {g : Operand} {ps : Array Tmp} {assign body : Code} {Q : Exit → Act → World → Prop} {a : Act} {w : World} {gf N : Nat} {E : Nat → Array Value}
    (hg : a.eval g = .func (.func gf) #[] #[]) (eg : ∀ args w, (callFunc gf args).run P w = .ok (.enter gf args) w) (hs : Hands (n - 1) P gf N E) (hps : ∀ i, (E i).size = ps.size)
    (I : Nat → World → Prop) (Ix : World → Prop) (hI : ∀ i, Deaf w.heap.size (I i)) (hIx : Deaf w.heap.size Ix) (h0 : I 0 w) (Ax : Nat → Act → World → Prop)
    (hAx : ∀ i a' W W', Ax i a' W → Kept (w.heap.size + 2) W W' → Ax i a' W')
    (hassign : ∀ (l i : Nat) (W : World) (K : Act → World → Prop), i < N → I i W → w.heap.size + 2 ≤ W.heap.size → (∀ a' W', Kept w.heap.size W W' → I i W' → Ax i a' W' → K a' W') →
      assign.wpIn (Fence.wide.inRound l) (n - 1 - 1) P (Exit.then K (fun _ _ _ => False)) { tmps := (ps.zip (E i)).foldl (fun t (p, v) => t.setIfInBounds p v) a.tmps, defers := [] } W)
    (hbody : ∀ (l i : Nat) (a' : Act) (W : World), i < N → I i W → Ax i a' W → body.wpIn (Fence.wide.inRound l) (n - 1 - 1) P (RoundEnd w.heap.size (I (i + 1)) Ix W) a' W)
    (hdone : ∀ (D : Nat) (W : World), w.heap.size ≤ D → I N W → W.heap[D]? = some (.deferred (some [])) → Q .normal { a with defers := { target := .collected D, args := #[] } :: a.defers } W)
    (hstop : ∀ (D : Nat) (W : World), w.heap.size ≤ D → Ix W → W.heap[D]? = some (.deferred (some [])) → Code.ret.wpIn Fence.wide n P Q { a with defers := { target := .collected D, args := #[] } :: a.defers } W) :
    (Code.rangeFunc g ps assign body).wpIn Fence.wide n P Q a w := by
  refine wpIn_rangeFunc fun fn hfn => ?_
  rw [show Fence.wide.round = none from rfl]
  -- the record, in its states
  obtain ⟨R, hR⟩ : ∃ R : LoopState → Option Code → Obj, R = fun st pe => .loop { state := st, pending := pe, fn, tmps := a.tmps, params := ps, assign, body, defers := w.heap.size } := ⟨_, rfl⟩
  obtain ⟨V, hV⟩ : ∃ V, (w.alloc (.deferred (some []))).alloc (R .ready none) = V := ⟨_, rfl⟩
  have hsz : V.heap.size = w.heap.size + 2 := by rw [← hV]; simp
  -- the two blocks of the statement
  obtain ⟨Two, hTwo⟩ : ∃ Two : LoopState → Option Code → World → Prop, Two = fun st pe W => W.heap[w.heap.size + 1]? = some (R st pe) ∧ W.heap[w.heap.size]? = some (.deferred (some [])) := ⟨_, rfl⟩
  have two_deaf : ∀ st pe, Deaf V.heap.size (Two st pe) := by
    intro st pe W W' row hj hg' hr
    rw [hTwo] at hj ⊢
    exact ⟨(hg'.block _ (Array.getElem?_eq_some_iff.1 hj.1).1 fun e => by have := hr _ e.symm; omega).trans hj.1, (hg'.block _ (Array.getElem?_eq_some_iff.1 hj.2).1 fun e => by have := hr _ e.symm; omega).trans hj.2⟩
  have two_kept : ∀ {st pe W W'}, Two st pe W → Kept w.heap.size W W' → Two st pe W' := by
    intro st pe W W' hj hk
    rw [hTwo] at hj ⊢
    exact ⟨(hk.same _ (by omega) (Array.getElem?_eq_some_iff.1 hj.1).1).trans hj.1, (hk.same _ (Nat.le_refl _) (Array.getElem?_eq_some_iff.1 hj.2).1).trans hj.2⟩
  have two_put : ∀ {st pe st' pe' W}, Two st pe W → Two st' pe' (W.putObj (w.heap.size + 1) (R st' pe')) := by
    intro st pe st' pe' W hj
    rw [hTwo] at hj ⊢
    exact ⟨World.putObj_heap_same (Array.getElem?_eq_some_iff.1 hj.1).1, (World.putObj_heap_other (by omega)).trans hj.2⟩
  have two0 : Two .ready none V := by
    rw [hTwo, ← hV]
    refine ⟨?_, (Below.heap_alloc _ _ _ (by simp)).trans (World.alloc_heap_new w _)⟩
    have := World.alloc_heap_new (w.alloc (.deferred (some []))) (R .ready none)
    rwa [World.size_alloc] at this
  refine ⟨w.heap.size + 1, [{ target := .collected w.heap.size, args := #[] }], V, { target := .fn (.func gf) #[], args := #[.func (.yield (w.heap.size + 1)) #[] #[]] }, V, gf, #[.func (.yield (w.heap.size + 1)) #[] #[]], V, ?_, ?_, fun _ _ => trivial, ?_, (fun h => nomatch h), ?_⟩
  · rw [← hV, hR]; exact run_enterLoop_outer _ _ _ _ _
  · simp only [resolve, hg]; simp [go_sem]
  · simp [invoke, go_sem, eg]
  refine (hs (w.heap.size + 1) (fun i W => I i W ∧ Two .ready none W ∧ V.heap.size ≤ W.heap.size) (fun W => Ix W ∧ Two .done (some .ret) W) V ?_ ?_ ?_ ?_).mono ?_
  · exact fun i => ((hI i).mono (by omega)).and ((two_deaf _ _).and fun W W' row hj hg' _ => Nat.le_trans hj hg'.size)
  · exact (hIx.mono (by omega)).and (two_deaf _ _)
  · -- a round
    rintro i W hi ⟨hj, ht, hW⟩
    have hl := ht
    rw [hTwo, hR] at hl
    refine ⟨fn, _, assign, body, run_yield (args := E i) hl.1 (hps i), roundIn_of_wpIn hfn (hassign _ i W _ hi hj (by omega) fun a' W1 hk1 hj1 hax => ?_)⟩
    have ht1 := two_kept ht hk1
    have hl1 := ht1
    rw [hTwo, hR] at hl1
    refine ⟨_, run_beginRound hl1.1 rfl, ?_⟩
    obtain ⟨O, hO, eB⟩ : ∃ O, O = R .busy none ∧ O = .loop { state := .busy, pending := none, fn, tmps := a.tmps, params := ps, assign, body, defers := w.heap.size } := ⟨_, rfl, by rw [hR]⟩
    show body.wpIn _ _ _ _ _ (W1.putObj (w.heap.size + 1) (.loop { state := .busy, pending := none, fn, tmps := a.tmps, params := ps, assign, body, defers := w.heap.size }))
    rw [← eB, hO]
    have ht2 := two_put (st' := .busy) (pe' := none) ht1
    refine wpIn_mono (hbody _ i a' _ hi ((hI i).put (by omega) _ hj1) (hAx i a' _ _ hax (Kept.put _ (by omega) _))) ?_
    have kp : ∀ {W3 : World} (o : Obj), Kept w.heap.size (W1.putObj (w.heap.size + 1) (R .busy none)) W3 → Kept V.heap.size W (W3.putObj (w.heap.size + 1) o) := fun o hk3 =>
      ((hk1.mono (by omega)).trans (Kept.put _ (by omega) _)).trans ((hk3.mono (by omega)).trans (Kept.put _ (by omega) _))
    have fin : ∀ (jump : Option Code) {W3 : World}, Kept w.heap.size (W1.putObj (w.heap.size + 1) (R .busy none)) W3 →
        (Instr.endRound (w.heap.size + 1) jump).run P W3 = .ok (.bool jump.isNone) (W3.putObj (w.heap.size + 1) (R (if jump.isNone then .ready else .done) jump)) ∧ Two .busy none W3 := by
      intro jump W3 hk3
      have ht3 := two_kept ht2 hk3
      have hl3 := ht3
      rw [hTwo, hR] at hl3
      have := run_endRound (P := P) jump hl3.1
      rw [hR]
      exact ⟨this, ht3⟩
    intro e a3 W3 hp
    cases e with
    | normal =>
      obtain ⟨hk3, hi3⟩ := hp
      obtain ⟨he, ht3⟩ := fin none hk3
      exact ⟨_, _, he, .inl ⟨rfl, ⟨(hI _).put (by omega) _ hi3, two_put ht3, Nat.le_trans hW (kp _ hk3).size⟩, kp _ hk3⟩⟩
    | ret =>
      obtain ⟨hk3, hi3⟩ := hp
      obtain ⟨he, ht3⟩ := fin (some .ret) hk3
      exact ⟨_, _, he, .inr ⟨rfl, hIx.put (by omega) _ hi3, two_put ht3⟩⟩
    | exit _ => exact hp.elim
    | goto _ => exact hp.elim
    | panic _ => exact hp.elim
    | outgrown => exact hp.elim
  · refine ⟨?_, two0, Nat.le_refl _⟩
    rw [← hV]
    exact (hI 0).alloc _ ((hI 0).alloc _ h0)
  · -- behind the iterator
    rintro e W2 ⟨⟨v, rfl⟩, ⟨hi, ht, _⟩ | ⟨hi, ht⟩⟩
    · have hl := ht
      rw [hTwo, hR] at hl
      refine ⟨none, _, run_endLoop hl.1 (by simp), ?_⟩
      have ht' := two_put (st' := .done) (pe' := none) ht
      rw [hTwo] at ht'
      exact hdone _ _ (Nat.le_refl _) ((hI N).put (by omega) _ hi) ((World.putObj_heap_other (by omega)).trans hl.2)
    · have hl := ht
      rw [hTwo, hR] at hl
      refine ⟨some .ret, _, run_endLoop hl.1 (by simp), ?_⟩
      exact hstop _ _ (Nat.le_refl _) (hIx.put (by omega) _ hi) ((World.putObj_heap_other (by omega)).trans hl.2)
end Go.Proofs.Ytbbeekpndhfpjaa.Rf
end

section
/- A range over a function with captured variables (a closure as iterator): as Rf's, the captured values behind the yield, and what the iterator reads of the world handed on by the statement's invariant. For every package. -/
set_option maxRecDepth 100000
set_option linter.unusedVariables false
namespace Go.Proofs.Ytbbeekpndhfpjaa.Rf
open Go.RowKit Go.Proofs.Ytbbeekpndhfpjaa.Row Go.Shelf

/-- As Hands, of a closure with the captured values xs; Pre holds between any two rounds. -/
def HandsC (n : Nat) (P : Program) (g : Nat) (xs : Array Value) (Pre : World → Prop) (N : Nat) (E : Nat → Array Value) : Prop :=
  ∀ (l : Nat) (J : Nat → World → Prop) (Jx : World → Prop) (W : World), (∀ i, Deaf W.heap.size (J i)) → Deaf W.heap.size Jx → (∀ i W1, J i W1 → Pre W1) →
    (∀ i W1, i < N → J i W1 → YieldAt Fence.wide (n - 1) P l (E i) W1 fun e W' => (e = .returned (.bool true) ∧ J (i + 1) W' ∧ Kept W.heap.size W1 W') ∨ (e = .returned (.bool false) ∧ Jx W')) →
    J 0 W → CallsIn Fence.wide n P g (#[.func (.yield l) #[] #[]] ++ xs) W fun e W' => (∃ v, e = .returned v) ∧ (J N W' ∨ Jx W')

/-- The law of the statement: I i holds between two rounds, i of them done; Ix where a round has left by a return; Ax of the activation in which a round's body begins. -/
theorem range_over_c {n : Nat} {P : Program} {g : Operand} {ps : Array Tmp} {assign body : Code} {Q : Exit → Act → World → Prop} {a : Act} {w : World} {gf N : Nat} {xs : Array Value} {Pre : World → Prop} {E : Nat → Array Value}
    (hg : a.eval g = .func (.func gf) #[] xs) (eg : ∀ args w, (callFunc gf args).run P w = .ok (.enter gf args) w) (hs : HandsC (n - 1) P gf xs Pre N E) (hps : ∀ i, (E i).size = ps.size)
    (I : Nat → World → Prop) (Ix : World → Prop) (hPre : ∀ i W, I i W → Pre W) (hI : ∀ i, Deaf w.heap.size (I i)) (hIx : Deaf w.heap.size Ix) (h0 : I 0 w) (Ax : Nat → Act → World → Prop)
    (hAx : ∀ i a' W W', Ax i a' W → Kept (w.heap.size + 2) W W' → Ax i a' W')
    (hassign : ∀ (l i : Nat) (W : World) (K : Act → World → Prop), i < N → I i W → w.heap.size + 2 ≤ W.heap.size → (∀ a' W', Kept w.heap.size W W' → I i W' → Ax i a' W' → K a' W') →
      assign.wpIn (Fence.wide.inRound l) (n - 1 - 1) P (Exit.then K (fun _ _ _ => False)) { tmps := (ps.zip (E i)).foldl (fun t (p, v) => t.setIfInBounds p v) a.tmps, defers := [] } W)
    (hbody : ∀ (l i : Nat) (a' : Act) (W : World), i < N → I i W → Ax i a' W → body.wpIn (Fence.wide.inRound l) (n - 1 - 1) P (RoundEnd w.heap.size (I (i + 1)) Ix W) a' W)
    (hdone : ∀ (D : Nat) (W : World), w.heap.size ≤ D → I N W → W.heap[D]? = some (.deferred (some [])) → Q .normal { a with defers := { target := .collected D, args := #[] } :: a.defers } W)
    (hstop : ∀ (D : Nat) (W : World), w.heap.size ≤ D → Ix W → W.heap[D]? = some (.deferred (some [])) → Code.ret.wpIn Fence.wide n P Q { a with defers := { target := .collected D, args := #[] } :: a.defers } W) :
    (Code.rangeFunc g ps assign body).wpIn Fence.wide n P Q a w := by
  refine wpIn_rangeFunc fun fn hfn => ?_
  rw [show Fence.wide.round = none from rfl]
  -- the record, in its states
  obtain ⟨R, hR⟩ : ∃ R : LoopState → Option Code → Obj, R = fun st pe => .loop { state := st, pending := pe, fn, tmps := a.tmps, params := ps, assign, body, defers := w.heap.size } := ⟨_, rfl⟩
  obtain ⟨V, hV⟩ : ∃ V, (w.alloc (.deferred (some []))).alloc (R .ready none) = V := ⟨_, rfl⟩
  have hsz : V.heap.size = w.heap.size + 2 := by rw [← hV]; simp
  -- the two blocks of the statement
  obtain ⟨Two, hTwo⟩ : ∃ Two : LoopState → Option Code → World → Prop, Two = fun st pe W => W.heap[w.heap.size + 1]? = some (R st pe) ∧ W.heap[w.heap.size]? = some (.deferred (some [])) := ⟨_, rfl⟩
  have two_deaf : ∀ st pe, Deaf V.heap.size (Two st pe) := by
    intro st pe W W' row hj hg' hr
    rw [hTwo] at hj ⊢
    exact ⟨(hg'.block _ (Array.getElem?_eq_some_iff.1 hj.1).1 fun e => by have := hr _ e.symm; omega).trans hj.1, (hg'.block _ (Array.getElem?_eq_some_iff.1 hj.2).1 fun e => by have := hr _ e.symm; omega).trans hj.2⟩
  have two_kept : ∀ {st pe W W'}, Two st pe W → Kept w.heap.size W W' → Two st pe W' := by
    intro st pe W W' hj hk
    rw [hTwo] at hj ⊢
    exact ⟨(hk.same _ (by omega) (Array.getElem?_eq_some_iff.1 hj.1).1).trans hj.1, (hk.same _ (Nat.le_refl _) (Array.getElem?_eq_some_iff.1 hj.2).1).trans hj.2⟩
  have two_put : ∀ {st pe st' pe' W}, Two st pe W → Two st' pe' (W.putObj (w.heap.size + 1) (R st' pe')) := by
    intro st pe st' pe' W hj
    rw [hTwo] at hj ⊢
    exact ⟨World.putObj_heap_same (Array.getElem?_eq_some_iff.1 hj.1).1, (World.putObj_heap_other (by omega)).trans hj.2⟩
  have two0 : Two .ready none V := by
    rw [hTwo, ← hV]
    refine ⟨?_, (Below.heap_alloc _ _ _ (by simp)).trans (World.alloc_heap_new w _)⟩
    have := World.alloc_heap_new (w.alloc (.deferred (some []))) (R .ready none)
    rwa [World.size_alloc] at this
  refine ⟨w.heap.size + 1, [{ target := .collected w.heap.size, args := #[] }], V, { target := .fn (.func gf) xs, args := #[.func (.yield (w.heap.size + 1)) #[] #[]] }, V, gf, #[.func (.yield (w.heap.size + 1)) #[] #[]] ++ xs, V, ?_, ?_, fun _ _ => trivial, ?_, (fun h => nomatch h), ?_⟩
  · rw [← hV, hR]; exact run_enterLoop_outer _ _ _ _ _
  · simp only [resolve, hg]; simp [go_sem]
  · simp [invoke, go_sem, eg]
  refine (hs (w.heap.size + 1) (fun i W => I i W ∧ Two .ready none W ∧ V.heap.size ≤ W.heap.size) (fun W => Ix W ∧ Two .done (some .ret) W) V ?_ ?_ ?_ ?_ ?_).mono ?_
  · exact fun i => ((hI i).mono (by omega)).and ((two_deaf _ _).and fun W W' row hj hg' _ => Nat.le_trans hj hg'.size)
  · exact (hIx.mono (by omega)).and (two_deaf _ _)
  · exact fun i W hj => hPre i W hj.1
  · -- a round
    rintro i W hi ⟨hj, ht, hW⟩
    have hl := ht
    rw [hTwo, hR] at hl
    refine ⟨fn, _, assign, body, run_yield (args := E i) hl.1 (hps i), roundIn_of_wpIn hfn (hassign _ i W _ hi hj (by omega) fun a' W1 hk1 hj1 hax => ?_)⟩
    have ht1 := two_kept ht hk1
    have hl1 := ht1
    rw [hTwo, hR] at hl1
    refine ⟨_, run_beginRound hl1.1 rfl, ?_⟩
    obtain ⟨O, hO, eB⟩ : ∃ O, O = R .busy none ∧ O = .loop { state := .busy, pending := none, fn, tmps := a.tmps, params := ps, assign, body, defers := w.heap.size } := ⟨_, rfl, by rw [hR]⟩
    show body.wpIn _ _ _ _ _ (W1.putObj (w.heap.size + 1) (.loop { state := .busy, pending := none, fn, tmps := a.tmps, params := ps, assign, body, defers := w.heap.size }))
    rw [← eB, hO]
    have ht2 := two_put (st' := .busy) (pe' := none) ht1
    refine wpIn_mono (hbody _ i a' _ hi ((hI i).put (by omega) _ hj1) (hAx i a' _ _ hax (Kept.put _ (by omega) _))) ?_
    have kp : ∀ {W3 : World} (o : Obj), Kept w.heap.size (W1.putObj (w.heap.size + 1) (R .busy none)) W3 → Kept V.heap.size W (W3.putObj (w.heap.size + 1) o) := fun o hk3 =>
      ((hk1.mono (by omega)).trans (Kept.put _ (by omega) _)).trans ((hk3.mono (by omega)).trans (Kept.put _ (by omega) _))
    have fin : ∀ (jump : Option Code) {W3 : World}, Kept w.heap.size (W1.putObj (w.heap.size + 1) (R .busy none)) W3 →
        (Instr.endRound (w.heap.size + 1) jump).run P W3 = .ok (.bool jump.isNone) (W3.putObj (w.heap.size + 1) (R (if jump.isNone then .ready else .done) jump)) ∧ Two .busy none W3 := by
      intro jump W3 hk3
      have ht3 := two_kept ht2 hk3
      have hl3 := ht3
      rw [hTwo, hR] at hl3
      have := run_endRound (P := P) jump hl3.1
      rw [hR]
      exact ⟨this, ht3⟩
    intro e a3 W3 hp
    cases e with
    | normal =>
      obtain ⟨hk3, hi3⟩ := hp
      obtain ⟨he, ht3⟩ := fin none hk3
      exact ⟨_, _, he, .inl ⟨rfl, ⟨(hI _).put (by omega) _ hi3, two_put ht3, Nat.le_trans hW (kp _ hk3).size⟩, kp _ hk3⟩⟩
    | ret =>
      obtain ⟨hk3, hi3⟩ := hp
      obtain ⟨he, ht3⟩ := fin (some .ret) hk3
      exact ⟨_, _, he, .inr ⟨rfl, hIx.put (by omega) _ hi3, two_put ht3⟩⟩
    | exit _ => exact hp.elim
    | goto _ => exact hp.elim
    | panic _ => exact hp.elim
    | outgrown => exact hp.elim
  · refine ⟨?_, two0, Nat.le_refl _⟩
    rw [← hV]
    exact (hI 0).alloc _ ((hI 0).alloc _ h0)
  · -- behind the iterator
    rintro e W2 ⟨⟨v, rfl⟩, ⟨hi, ht, _⟩ | ⟨hi, ht⟩⟩
    · have hl := ht
      rw [hTwo, hR] at hl
      refine ⟨none, _, run_endLoop hl.1 (by simp), ?_⟩
      have ht' := two_put (st' := .done) (pe' := none) ht
      rw [hTwo] at ht'
      exact hdone _ _ (Nat.le_refl _) ((hI N).put (by omega) _ hi) ((World.putObj_heap_other (by omega)).trans hl.2)
    · have hl := ht
      rw [hTwo, hR] at hl
      refine ⟨some .ret, _, run_endLoop hl.1 (by simp), ?_⟩
      exact hstop _ _ (Nat.le_refl _) (hIx.put (by omega) _ hi) ((World.putObj_heap_other (by omega)).trans hl.2)
end Go.Proofs.Ytbbeekpndhfpjaa.Rf
end
