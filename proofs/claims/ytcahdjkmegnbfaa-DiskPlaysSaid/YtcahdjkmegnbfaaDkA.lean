/- The program's disk: what stands at its block; contracts of what only looks, and of what changes one cell. -/
import Derived.Test.YtcahdjkmegnbfaaElB
import Derived.Test.YtcahdjkmegnbfaaMpC
import Derived.Test.YtcahdjkmegnbfaaDkMath
import Derived.Test.YtcahdjkmegnbfaaRng
set_option maxRecDepth 100000
set_option linter.unusedVariables false
namespace Go.Proofs.Ytcahdjkmegnbfaa.Dk
open Go.RowKit Go.Proofs.Ytcahdjkmegnbfaa.Row

/-- A page: a row of 64 bytes. -/
def Pag (P : Array Value) : Prop := ∃ p, IsRow8 64 p P
/-- The page of 0s. -/
def zP : Array Value := Array.replicate 64 (.int .u8 0)
theorem row_z : IsRow8 64 (fun _ => 0) zP := isRow8_of (by unfold zP; simp) fun k hk => by unfold zP; simp [hk]
theorem pag_z : Pag zP := ⟨_, row_z⟩
theorem Pag.size {P : Array Value} (h : Pag P) : P.size = 64 := let ⟨_, h⟩ := h; h.1
theorem Pag.one {P : Array Value} (h : Pag P) : P.all (·.oneCell') = true := let ⟨_, h⟩ := h; h.2.1
theorem zero_page (w : World) : (zeroValue 36).run Try.prog w = .ok (.agg zP) w := by kernel_rfl
theorem info_page : (Try.prog.info? 36).map (·.size) = some 64 := by kernel_rfl
theorem info_pag {P : Array Value} (h : Pag P) : (Try.prog.info? 36).map (·.size) = some P.size := by rw [h.size]; exact info_page
/-- Pages compared. -/
theorem pag_eq {P Q : Array Value} (hP : Pag P) (hQ : Pag Q) : ∃ b : Bool, (b = true ↔ P = Q) ∧ ∀ w, (Op.equalIn 10000 36 (.agg P) (.agg Q)).run Try.prog w = .ok b w := by
  obtain ⟨p, hp⟩ := hP
  obtain ⟨q, hq⟩ := hQ
  obtain ⟨b, h1, h2⟩ := rows8_is hp hq Try.underlying36 Try.underlying5 (by kernel_rfl)
  refine ⟨b, h1.trans ⟨fun h => hp.eq hq h, fun h i hi => ?_⟩, h2⟩
  subst h
  have := (hp.2.2 i hi).symm.trans (hq.2.2 i hi)
  simpa using this

/-- A write that isn't sure, as it stands. -/
def wrR (s : Int) (P : Array Value) : Array Value := #[.int .i64 s] ++ P
theorem wrR_size {s : Int} {P : Array Value} (h : Pag P) : (wrR s P).size = 65 := by unfold wrR; rw [Array.size_append, h.size]; rfl
theorem wrR_one {s : Int} {P : Array Value} (h : Pag P) : (wrR s P).all (·.oneCell') = true := by
  unfold wrR
  rw [Array.all_append, h.one, Bool.and_true]
  simp [Value.oneCell']
theorem wrR_0 (s : Int) (P : Array Value) : (wrR s P)[0]? = some (.int .i64 s) := by
  unfold wrR
  rw [Array.getElem?_append_left (by simp)]
  rfl
theorem wrR_1 (s : Int) (P : Array Value) (j : Nat) : (wrR s P)[1 + j]? = P[j]? := by
  unfold wrR
  rw [Array.getElem?_append_right (by simp)]
  simp
theorem elt_w : ElT 58 67 65 72 (wrR 0 zP) :=
  ⟨Try.underlying58, ⟨_, _, rfl, rfl, by kernel_rfl, by kernel_rfl, by kernel_rfl⟩, wrR_size pag_z, by omega, by omega⟩
theorem info_write {s : Int} {P : Array Value} (h : Pag P) : (Try.prog.info? 67).map (·.size) = some (wrR s P).size := by rw [wrR_size h]; kernel_rfl

/-- A disk's own cells. -/
def dkR (size : Nat) (down : Bool) (fuse : Int) (bs : Nat) (a : Option Addr) (n c : Nat) (bl br : Nat) : Array Value := #[.int .i64 size, .bool down, .int .i64 fuse, .map (some bs), .slice a n c, .map (some bl), .map (some br)]

/-- The disk d stands at block b: T are all its blocks; N bounds how much has happened. -/
structure DkM (w : World) (b : Nat) (T : Nat → Prop) (N : Nat) (d : Dsk) (bs bl br : Nat) (a : Option Addr) (c : Nat) : Prop where
  row : At w b (dkR d.size d.down d.fuse bs a d.n c bl br) 60
  sure : ∃ f, MpI w 3 .i64 bs (N - d.n) f ∧ ∀ i, (Lit.int .i64 i).wf = true → (f i).getD (.agg zP) = .agg (d.sure i)
  last : ∃ f, MpI w 3 .i64 bl N f ∧ ∀ i, (Lit.int .i64 i).wf = true → f i = (lastOf d.sec i d.n).map fun k => .int .i64 (k : Nat)
  reads : ∃ f, MpI w 3 .i64 br N f ∧ ∀ i, (Lit.int .i64 i).wf = true → (f i).getD (.int .i64 0) = .int .i64 (d.reads i)
  loose : Els w 0 67 65 a d.n c (fun k => wrR (d.sec k) (d.pg k))
  own : T b ∧ T bs ∧ T bl ∧ T br ∧ ∀ k, (Value.slice a d.n c).ownBlock = some k → T k
  ne : (b ≠ bs ∧ b ≠ bl ∧ b ≠ br ∧ bs ≠ bl ∧ bs ≠ br ∧ bl ≠ br) ∧ ∀ k, (Value.slice a d.n c).ownBlock = some k → k ≠ b ∧ k ≠ bs ∧ k ≠ bl ∧ k ≠ br
  lt : ∀ k, T k → k < w.heap.size
  num : d.n ≤ N ∧ (∀ i, 0 ≤ d.reads i ∧ d.reads i ≤ N) ∧ d.size ≤ 1024 ∧ (Lit.int .i64 d.fuse).wf = true
  pgs : (∀ i, Pag (d.sure i)) ∧ ∀ k, k < d.n → Pag (d.pg k) ∧ (Lit.int .i64 (d.sec k)).wf = true
def DkIs (w : World) (b : Nat) (T : Nat → Prop) (N : Nat) (d : Dsk) : Prop := ∃ bs bl br a c, DkM w b T N d bs bl br a c
/-- .. behind a call. -/
def DkTo (w : World) (b : Nat) (T : Nat → Prop) (N : Nat) (d : Dsk) (w' : World) : Prop := ∃ T', DkIs w' b T' N d ∧ Fr T w w' ∧ ∀ k, T' k → T k ∨ w.heap.size ≤ k

section
variable {w w' : World} {b : Nat} {T : Nat → Prop} {N : Nat} {d : Dsk} {bs bl br : Nat} {a : Option Addr} {c : Nat}
theorem DkM.keep (h : DkM w b T N d bs bl br a c) (hs : w.heap.size ≤ w'.heap.size) (hk : ∀ k, T k → w'.heap[k]? = w.heap[k]?) : DkM w' b T N d bs bl br a c := by
  obtain ⟨h0, ⟨f1, h1, h1'⟩, ⟨f2, h2, h2'⟩, ⟨f3, h3, h3'⟩, h4, h5, h6, h7, h8, h9⟩ := h
  exact ⟨(hk b h5.1).trans h0, ⟨f1, h1.keep (hk bs h5.2.1), h1'⟩, ⟨f2, h2.keep (hk bl h5.2.2.1), h2'⟩, ⟨f3, h3.keep (hk br h5.2.2.2.1), h3'⟩, h4.keep fun g hg => hk g (h5.2.2.2.2 g hg), h5, h6, fun k hT => Nat.lt_of_lt_of_le (h7 k hT) hs, h8, h9⟩
theorem DkM.fr {U : Nat → Prop} (h : DkM w b T N d bs bl br a c) (hf : Fr U w w') (hU : ∀ k, T k → ¬ U k) : DkM w' b T N d bs bl br a c :=
  h.keep hf.size fun k hT => hf.block k (h.lt k hT) (hU k hT)
theorem DkIs.keep (h : DkIs w b T N d) (hs : w.heap.size ≤ w'.heap.size) (hk : ∀ k, T k → w'.heap[k]? = w.heap[k]?) : DkIs w' b T N d := by
  obtain ⟨bs, bl, br, a, c, h⟩ := h
  exact ⟨bs, bl, br, a, c, h.keep hs hk⟩
theorem DkIs.fr {U : Nat → Prop} (h : DkIs w b T N d) (hf : Fr U w w') (hU : ∀ k, T k → ¬ U k) : DkIs w' b T N d := by
  obtain ⟨bs, bl, br, a, c, h⟩ := h
  exact ⟨bs, bl, br, a, c, h.fr hf hU⟩
theorem DkIs.below (h : DkIs w b T N d) (hb : Below w.heap.size w w') : DkIs w' b T N d := h.fr (U := fun _ => False) (.of_below hb) fun _ _ h => h
theorem DkIs.lt (h : DkIs w b T N d) (k : Nat) (hk : T k) : k < w.heap.size := by
  obtain ⟨bs, bl, br, a, c, h⟩ := h
  exact h.lt k hk
theorem DkIs.mono (h : DkIs w b T N d) {N' : Nat} (hN : N ≤ N') : DkIs w b T N' d := by
  obtain ⟨bs, bl, br, a, c, h0, ⟨f1, h1, h1'⟩, ⟨f2, h2, h2'⟩, ⟨f3, h3, h3'⟩, h4, h5, h6, h7, h8, h9⟩ := h
  exact ⟨bs, bl, br, a, c, h0, ⟨f1, h1.mono (by omega), h1'⟩, ⟨f2, h2.mono hN, h2'⟩, ⟨f3, h3.mono hN, h3'⟩, h4, h5, h6, h7, ⟨by omega, fun i => ⟨(h8.2.1 i).1, by have := (h8.2.1 i).2; omega⟩, h8.2.2⟩, h9⟩
theorem DkIs.to (h : DkIs w b T N d) : DkTo w b T N d w := ⟨T, h, Fr.refl _ _, fun _ h => .inl h⟩
theorem DkTo.trans {N' : Nat} {d' : Dsk} {w1 : World} (h : DkTo w b T N d w1) (k : ∀ T', DkIs w1 b T' N d → DkTo w1 b T' N' d' w') : DkTo w b T N' d' w' := by
  obtain ⟨T', h1, h2, h3⟩ := h
  obtain ⟨T'', k1, k2, k3⟩ := k T' h1
  refine ⟨T'', k1, h2.trans k2 fun i hi hT => (h3 i hT).resolve_right (by omega), fun i hi => ?_⟩
  rcases k3 i hi with hT | hT
  · exact h3 i hT
  · exact .inr (Nat.le_trans h2.size hT)
theorem DkTo.from {w1 : World} {T' : Nat → Prop} (h : DkTo w1 b T' N d w') (hf : Fr T w w1) (hT : ∀ k, T' k → T k ∨ w.heap.size ≤ k) : DkTo w b T N d w' := by
  obtain ⟨T'', k1, k2, k3⟩ := h
  refine ⟨T'', k1, hf.trans k2 fun i hi hT' => (hT i hT').resolve_right (by omega), fun i hi => ?_⟩
  rcases k3 i hi with h | h
  · exact hT i h
  · exact .inr (Nat.le_trans hf.size h)
theorem DkTo.mono (h : DkTo w b T N d w') {N' : Nat} (hN : N ≤ N') : DkTo w b T N' d w' := let ⟨T', h1, h2⟩ := h; ⟨T', h1.mono hN, h2⟩
/-- A block that isn't the disk's stands as it was. -/
theorem DkTo.block (h : DkTo w b T N d w') {k : Nat} (hk : k < w.heap.size) (hT : ¬ T k) : w'.heap[k]? = w.heap[k]? := let ⟨_, _, h, _⟩ := h; h.block k hk hT
theorem DkM.cells (h : DkM w b T N d bs bl br a c) :
    w.cell? ⟨b, 0, none⟩ = some (.int .i64 d.size) ∧ w.cell? ⟨b, 1, none⟩ = some (.bool d.down) ∧ w.cell? ⟨b, 2, none⟩ = some (.int .i64 d.fuse) ∧ w.cell? ⟨b, 3, none⟩ = some (.map (some bs)) ∧
      w.cell? ⟨b, 4, none⟩ = some (.slice a d.n c) ∧ w.cell? ⟨b, 5, none⟩ = some (.map (some bl)) ∧ w.cell? ⟨b, 6, none⟩ = some (.map (some br)) ∧ ∀ j, w.frozen? ⟨b, j, none⟩ = false :=
  ⟨by rw [h.row.cell]; rfl, by rw [h.row.cell]; rfl, by rw [h.row.cell]; rfl, by rw [h.row.cell]; rfl, by rw [h.row.cell]; rfl, by rw [h.row.cell]; rfl, by rw [h.row.cell]; rfl, fun j => h.row.frozen j⟩
/-- One of its own cells stored. -/
theorem DkM.setC (h : DkM w b T N d bs bl br a c) {d' : Dsk} (i : Nat) (v : Value) (hr : (dkR d.size d.down d.fuse bs a d.n c bl br).setIfInBounds i v = dkR d'.size d'.down d'.fuse bs a d.n c bl br)
    (e : d'.sure = d.sure ∧ d'.n = d.n ∧ d'.sec = d.sec ∧ d'.pg = d.pg ∧ d'.reads = d.reads) (hs : d'.size ≤ 1024 ∧ (Lit.int .i64 d'.fuse).wf = true) : DkM (w.setCell ⟨b, i, none⟩ v) b T N d' bs bl br a c := by
  obtain ⟨h0, ⟨f1, h1, h1'⟩, ⟨f2, h2, h2'⟩, ⟨f3, h3, h3'⟩, h4, h5, h6, h7, h8, h9⟩ := h
  obtain ⟨e1, e2, e3, e4, e5⟩ := e
  have hk : ∀ k, k ≠ b → (w.setCell ⟨b, i, none⟩ v).heap[k]? = w.heap[k]? := fun k hk => heap_setCell_other _ _ _ _ hk
  refine ⟨?_, ⟨f1, by rw [e2]; exact h1.keep (hk bs (Ne.symm h6.1.1)), by rw [e1]; exact h1'⟩, ⟨f2, h2.keep (hk bl (Ne.symm h6.1.2.1)), by rw [e2, e3]; exact h2'⟩, ⟨f3, h3.keep (hk br (Ne.symm h6.1.2.2.1)), by rw [e5]; exact h3'⟩, ?_, ?_, ?_, fun k hT => by simpa [World.setCell] using h7 k hT, ?_, ?_⟩
  · rw [e2, ← hr]; exact h0.setCell
  · rw [e2, e3, e4]; exact h4.keep fun g hg => hk g (h6.2 g hg).1
  · rw [e2]; exact h5
  · rw [e2]; exact h6
  · rw [e2, e5]; exact ⟨h8.1, h8.2.1, hs⟩
  · rw [e1, e2, e3, e4]; exact h9
theorem DkM.to (h : DkM w b T N d bs bl br a c) (h' : DkM w' b T N d bs bl br a c) (hf : Fr T w w') : DkTo w b T N d w' := ⟨T, ⟨bs, bl, br, a, c, h'⟩, hf, fun _ h => .inl h⟩
end

theorem power_of (w : World) (b : Nat) (dn : Bool) (h : w.cell? ⟨b, 1, none⟩ = some (.bool dn)) :
    Calls Try.prog 25 #[.pointer (some ⟨b, 0, none⟩)] w fun e w' => e = .returned (.int .i64 (if dn = true then 7 else 0)) ∧ w' = w := by
  cases dn
  all_goals
    go_enter Try.func25, Try.ntmps25
    go_wp2
    go_ret
    exact ⟨rfl, rfl⟩

theorem reach_of (w : World) (b : Nat) (T : Nat → Prop) (N : Nat) (d : Dsk) (h : DkIs w b T N d) (i : Int) :
    Calls Try.prog 30 #[.pointer (some ⟨b, 0, none⟩), .int .i64 i] w fun e w' => e = .returned (.int .i64 (d.reach i)) ∧ w' = w := by
  obtain ⟨bs, bl, br, a, c, h⟩ := h
  obtain ⟨c0, c1, c2, c3, c4, c5, c6, _⟩ := h.cells
  have hp := power_of w b d.down c1
  have HS := Lib.hid (Dsk.reach_all d i)
  clear h c1 c2 c3 c4 c5 c6
  generalize d.reach i = r at HS
  generalize d.down = dn at hp HS
  generalize (d.size : Int) = s at c0 HS
  cases dn
  · by_cases h0 : i < 0
    · obtain rfl := HS.out.2.2 rfl (by omega)
      clear HS
      go_enter Try.func30, Try.ntmps30
      go_wp2_with fail
      refine hp.mono ?_
      rintro e w1 ⟨rfl, rfl⟩
      go_wp2_with fail
      go_ret
      exact ⟨rfl, rfl⟩
    · by_cases h1 : s ≤ i
      · obtain rfl := HS.out.2.2 rfl (by omega)
        clear HS
        go_enter Try.func30, Try.ntmps30
        go_wp2_with fail
        refine hp.mono ?_
        rintro e w1 ⟨rfl, rfl⟩
        go_wp2_with fail
        go_ret
        exact ⟨rfl, rfl⟩
      · obtain rfl := HS.out.2.1 rfl (by omega) (by omega)
        clear HS
        go_enter Try.func30, Try.ntmps30
        go_wp2_with fail
        refine hp.mono ?_
        rintro e w1 ⟨rfl, rfl⟩
        go_wp2_with fail
        go_ret
        exact ⟨rfl, rfl⟩
  · obtain rfl := HS.out.1 rfl
    clear HS
    go_enter Try.func30, Try.ntmps30
    go_wp2_with fail
    refine hp.mono ?_
    rintro e w1 ⟨rfl, rfl⟩
    go_wp2_with fail
    go_ret
    exact ⟨rfl, rfl⟩

theorem size_of (w : World) (b : Nat) (T : Nat → Prop) (N : Nat) (d : Dsk) (h : DkIs w b T N d) :
    Calls Try.prog 11 #[.pointer (some ⟨b, 0, none⟩)] w fun e w' => e = .returned (.int .i64 d.size) ∧ w' = w := by
  obtain ⟨bs, bl, br, a, c, h⟩ := h
  obtain ⟨c0, c1, c2, c3, c4, c5, c6, _⟩ := h.cells
  clear h c1 c2 c3 c4 c5 c6
  generalize (d.size : Int) = s at c0 ⊢
  go_enter Try.func11, Try.ntmps11
  go_wp2
  go_ret
  exact ⟨rfl, rfl⟩
theorem loose_of (w : World) (b : Nat) (T : Nat → Prop) (N : Nat) (d : Dsk) (h : DkIs w b T N d) :
    Calls Try.prog 23 #[.pointer (some ⟨b, 0, none⟩)] w fun e w' => e = .returned (.int .i64 d.n) ∧ w' = w := by
  obtain ⟨bs, bl, br, a, c, h⟩ := h
  obtain ⟨c0, c1, c2, c3, c4, c5, c6, _⟩ := h.cells
  clear h c0 c1 c2 c3 c5 c6
  generalize d.n = n at c4 ⊢
  go_enter Try.func23, Try.ntmps23
  go_wp2
  go_ret
  exact ⟨rfl, rfl⟩
theorem up_of (w : World) (b : Nat) (T : Nat → Prop) (N : Nat) (d : Dsk) (h : DkIs w b T N d) :
    Calls Try.prog 17 #[.pointer (some ⟨b, 0, none⟩)] w fun e w' => e = .returned (.tuple #[]) ∧ DkTo w b T N d.upped w' := by
  obtain ⟨bs, bl, br, a, c, h⟩ := h
  obtain ⟨c0, c1, c2, c3, c4, c5, c6, f⟩ := h.cells
  have f1 := f 1
  have HX := Lib.hid (show DkTo w b T N d.upped (w.setCell ⟨b, 1, none⟩ (.bool false)) from
    ⟨T, ⟨bs, bl, br, a, c, h.setC (d' := d.upped) 1 (.bool false) rfl ⟨rfl, rfl, rfl, rfl, rfl⟩ h.num.2.2⟩, (Fr.refl _ _).setCell (.inl h.own.1) _, fun _ h => .inl h⟩)
  clear h c0 c2 c3 c4 c5 c6 f
  generalize d.upped = d' at HX ⊢
  generalize d.down = dn at c1
  go_enter Try.func17, Try.ntmps17
  go_wp2
  go_end0
  exact ⟨rfl, HX.out⟩
theorem fuse_of (w : World) (b : Nat) (T : Nat → Prop) (N : Nat) (d : Dsk) (h : DkIs w b T N d) (n : Int) (hn : (Lit.int .i64 n).wf = true) :
    Calls Try.prog 18 #[.pointer (some ⟨b, 0, none⟩), .int .i64 n] w fun e w' => e = .returned (.tuple #[]) ∧ DkTo w b T N (d.fused n) w' := by
  obtain ⟨bs, bl, br, a, c, h⟩ := h
  obtain ⟨c0, c1, c2, c3, c4, c5, c6, f⟩ := h.cells
  have f2 := f 2
  have HX := Lib.hid (show DkTo w b T N (d.fused n) (w.setCell ⟨b, 2, none⟩ (.int .i64 n)) from
    ⟨T, ⟨bs, bl, br, a, c, h.setC (d' := d.fused n) 2 (.int .i64 n) rfl ⟨rfl, rfl, rfl, rfl, rfl⟩ ⟨h.num.2.2.1, hn⟩⟩, (Fr.refl _ _).setCell (.inl h.own.1) _, fun _ h => .inl h⟩)
  clear h c0 c1 c3 c4 c5 c6 f hn
  generalize d.fused n = d' at HX ⊢
  generalize d.fuse = dn at c2
  go_enter Try.func18, Try.ntmps18
  go_wp2
  go_end0
  exact ⟨rfl, HX.out⟩
theorem spend_of (w : World) (b : Nat) (T : Nat → Prop) (N : Nat) (d : Dsk) (h : DkIs w b T N d) :
    Calls Try.prog 26 #[.pointer (some ⟨b, 0, none⟩)] w fun e w' => e = .returned (.int .i64 (if d.fuse = 0 then 6 else 0)) ∧ DkTo w b T N d.spent w' := by
  obtain ⟨bs, bl, br, a, c, h⟩ := h
  obtain ⟨c0, c1, c2, c3, c4, c5, c6, f⟩ := h.cells
  have f2 := f 2
  have hw := h.num.2.2.2
  have HY := Lib.hid (show ¬ 0 < d.fuse → DkTo w b T N d.spent w from fun hn => by
    have e : d.spent = d := by unfold Dsk.spent; rw [if_neg hn]
    rw [e]
    exact DkIs.to ⟨bs, bl, br, a, c, h⟩)
  have HX := Lib.hid (show 0 < d.fuse → DkTo w b T N d.spent (w.setCell ⟨b, 2, none⟩ (.int .i64 (d.fuse - 1))) from fun hn =>
    ⟨T, ⟨bs, bl, br, a, c, h.setC (d' := d.spent) 2 (.int .i64 (d.fuse - 1)) (by unfold Dsk.spent; rw [if_pos hn]; rfl) ⟨rfl, rfl, rfl, rfl, rfl⟩ ⟨h.num.2.2.1, by
      show (Lit.int .i64 (if 0 < d.fuse then d.fuse - 1 else d.fuse)).wf = true
      rw [if_pos hn]
      have := bounds_i64 hw
      exact WalkArith.wf_i64 (by omega)⟩⟩, (Fr.refl _ _).setCell (.inl h.own.1) _, fun _ h => .inl h⟩)
  have hB := bounds_i64 hw
  clear h c0 c1 c3 c4 c5 c6 f hw
  generalize d.spent = d' at HX HY ⊢
  generalize d.fuse = u at c2 HX HY hB ⊢
  by_cases h0 : u = 0
  · subst h0
    replace HY := Lib.hid (HY.out (by omega))
    clear HX hB
    go_enter Try.func26, Try.ntmps26
    go_wp2
    go_ret
    exact ⟨rfl, HY.out⟩
  · rw [if_neg h0]
    by_cases h1 : 0 < u
    · replace HX := Lib.hid (HX.out h1)
      clear HY
      go_enter Try.func26, Try.ntmps26
      go_wp2
      go_ret
      exact ⟨rfl, HX.out⟩
    · replace HY := Lib.hid (HY.out h1)
      clear HX
      go_enter Try.func26, Try.ntmps26
      go_wp2
      go_ret
      exact ⟨rfl, HY.out⟩
end Go.Proofs.Ytcahdjkmegnbfaa.Dk
