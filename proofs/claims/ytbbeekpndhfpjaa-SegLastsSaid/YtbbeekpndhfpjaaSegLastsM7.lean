/- Texts of the walk, one behind the other. -/
import Derived.Test.YtbbeekpndhfpjaaSegLastsM4
import Derived.Test.YtbbeekpndhfpjaaPg0
import Derived.Test.YtbbeekpndhfpjaaSegLastsM5
import Derived.Test.YtbbeekpndhfpjaaDkMath
import Derived.Test.YtbbeekpndhfpjaaRowT
import Derived.Test.YtbbeekpndhfpjaaSegLastsM6

section
/- The program's disk: what stands at its block; contracts of what only looks, and of what changes one cell. -/
set_option maxRecDepth 100000
set_option linter.unusedVariables false
namespace Go.Proofs.Ytbbeekpndhfpjaa.Dk
open Go.RowKit Go.Proofs.Ytbbeekpndhfpjaa.Row

/-- A page: a row of 64 bytes. -/
def Pag (P : Array Value) : Prop := ∃ p, IsRow8 64 p P ∧ ∀ k, k < 64 → 0 ≤ p k ∧ p k < 256
/-- The page of 0s. -/
def zP : Array Value := Array.replicate 64 (.int .u8 0)
theorem row_z : IsRow8 64 (fun _ => 0) zP := isRow8_of (by unfold zP; simp) fun k hk => by unfold zP; simp [hk]
theorem pag_z : Pag zP := ⟨_, row_z, fun k _ => ⟨Int.le_refl _, by omega⟩⟩
theorem Pag.size {P : Array Value} (h : Pag P) : P.size = 64 := let ⟨_, h, _⟩ := h; h.1
theorem Pag.one {P : Array Value} (h : Pag P) : P.all (·.oneCell') = true := let ⟨_, h, _⟩ := h; h.2.1
theorem zero_page (w : World) : (zeroValue 69).run Try.prog w = .ok (.agg zP) w := by kernel_rfl
theorem info_page : (Try.prog.info? 69).map (·.size) = some 64 := by kernel_rfl
theorem info_pag {P : Array Value} (h : Pag P) : (Try.prog.info? 69).map (·.size) = some P.size := by rw [h.size]; exact info_page
/-- Pages compared. -/
theorem pag_eq {P Q : Array Value} (hP : Pag P) (hQ : Pag Q) : ∃ b : Bool, (b = true ↔ P = Q) ∧ ∀ w, (Op.equalIn 10000 69 (.agg P) (.agg Q)).run Try.prog w = .ok b w := by
  obtain ⟨p, hp, _⟩ := hP
  obtain ⟨q, hq, _⟩ := hQ
  obtain ⟨b, h1, h2⟩ := rows8_is hp hq Try.underlying69 Try.underlying5 (by kernel_rfl)
  refine ⟨b, h1.trans ⟨fun h => hp.eq hq h, fun h i hi => ?_⟩, h2⟩
  subst h
  have := (hp.2.2 i hi).symm.trans (hq.2.2 i hi)
  simpa using this

/-- A write that isn't sure, as it stands. -/
def wrR (s : Int) (P : Array Value) : Array Value := #[.int .i64 s] ++ P
theorem wrR_size {s : Int} {P : Array Value} (h : Pag P) : (wrR s P).size = 65 := by unfold wrR; rw [Array.size_append, h.size]; rfl
theorem wrR_one {s : Int} {P : Array Value} (h : Pag P) : (wrR s P).all (·.oneCell') = true := by
  unfold wrR
  rw [Array.all_append, h.one, Bool.and_true]
  simp [Value.oneCell']
theorem wrR_0 (s : Int) (P : Array Value) : (wrR s P)[0]? = some (.int .i64 s) := by
  unfold wrR
  rw [Array.getElem?_append_left (by simp)]
  rfl
theorem wrR_1 (s : Int) (P : Array Value) (j : Nat) : (wrR s P)[1 + j]? = P[j]? := by
  unfold wrR
  rw [Array.getElem?_append_right (by simp)]
  simp
theorem elt_w : ElT 56 85 65 72 (wrR 0 zP) :=
  ⟨Try.underlying56, ⟨_, _, rfl, rfl, by kernel_rfl, by kernel_rfl, by kernel_rfl⟩, wrR_size pag_z, by omega, by omega⟩
theorem info_write {s : Int} {P : Array Value} (h : Pag P) : (Try.prog.info? 85).map (·.size) = some (wrR s P).size := by rw [wrR_size h]; kernel_rfl

/-- A disk's own cells. -/
def dkR (size : Nat) (down : Bool) (fuse : Int) (bs : Nat) (a : Option Addr) (n c : Nat) (bl br : Nat) : Array Value := #[.int .i64 size, .bool down, .int .i64 fuse, .map (some bs), .slice a n c, .map (some bl), .map (some br)]

/-- The disk d stands at block b: T are all its blocks; N bounds how much has happened. -/
structure DkM (w : World) (b : Nat) (T : Nat → Prop) (N : Nat) (d : Dsk) (bs bl br : Nat) (a : Option Addr) (c : Nat) : Prop where
  row : At w b (dkR d.size d.down d.fuse bs a d.n c bl br) 58
  sure : ∃ f, MpI w 3 .i64 bs (N - d.n) f ∧ ∀ i, (Lit.int .i64 i).wf = true → (f i).getD (.agg zP) = .agg (d.sure i)
  last : ∃ f, MpI w 3 .i64 bl N f ∧ ∀ i, (Lit.int .i64 i).wf = true → f i = (lastOf d.sec i d.n).map fun k => .int .i64 (k : Nat)
  reads : ∃ f, MpI w 3 .i64 br N f ∧ ∀ i, (Lit.int .i64 i).wf = true → (f i).getD (.int .i64 0) = .int .i64 (d.reads i)
  loose : Els w 0 85 65 a d.n c (fun k => wrR (d.sec k) (d.pg k))
  own : T b ∧ T bs ∧ T bl ∧ T br ∧ ∀ k, (Value.slice a d.n c).ownBlock = some k → T k
  ne : (b ≠ bs ∧ b ≠ bl ∧ b ≠ br ∧ bs ≠ bl ∧ bs ≠ br ∧ bl ≠ br) ∧ ∀ k, (Value.slice a d.n c).ownBlock = some k → k ≠ b ∧ k ≠ bs ∧ k ≠ bl ∧ k ≠ br
  lt : ∀ k, T k → k < w.heap.size
  num : d.n ≤ N ∧ (∀ i, 0 ≤ d.reads i ∧ d.reads i ≤ N) ∧ d.size ≤ 1024 ∧ (Lit.int .i64 d.fuse).wf = true
  pgs : (∀ i, Pag (d.sure i)) ∧ ∀ k, k < d.n → Pag (d.pg k) ∧ (Lit.int .i64 (d.sec k)).wf = true
def DkIs (w : World) (b : Nat) (T : Nat → Prop) (N : Nat) (d : Dsk) : Prop := ∃ bs bl br a c, DkM w b T N d bs bl br a c
/-- .. behind a call. -/
def DkTo (w : World) (b : Nat) (T : Nat → Prop) (N : Nat) (d : Dsk) (w' : World) : Prop := ∃ T', DkIs w' b T' N d ∧ Fr T w w' ∧ ∀ k, T' k → T k ∨ w.heap.size ≤ k

section
variable {w w' : World} {b : Nat} {T : Nat → Prop} {N : Nat} {d : Dsk} {bs bl br : Nat} {a : Option Addr} {c : Nat}
theorem DkM.keep (h : DkM w b T N d bs bl br a c) (hs : w.heap.size ≤ w'.heap.size) (hk : ∀ k, T k → w'.heap[k]? = w.heap[k]?) : DkM w' b T N d bs bl br a c := by
  obtain ⟨h0, ⟨f1, h1, h1'⟩, ⟨f2, h2, h2'⟩, ⟨f3, h3, h3'⟩, h4, h5, h6, h7, h8, h9⟩ := h
  exact ⟨(hk b h5.1).trans h0, ⟨f1, h1.keep (hk bs h5.2.1), h1'⟩, ⟨f2, h2.keep (hk bl h5.2.2.1), h2'⟩, ⟨f3, h3.keep (hk br h5.2.2.2.1), h3'⟩, h4.keep fun g hg => hk g (h5.2.2.2.2 g hg), h5, h6, fun k hT => Nat.lt_of_lt_of_le (h7 k hT) hs, h8, h9⟩
theorem DkM.fr {U : Nat → Prop} (h : DkM w b T N d bs bl br a c) (hf : Fr U w w') (hU : ∀ k, T k → ¬ U k) : DkM w' b T N d bs bl br a c :=
  h.keep hf.size fun k hT => hf.block k (h.lt k hT) (hU k hT)
theorem DkIs.keep (h : DkIs w b T N d) (hs : w.heap.size ≤ w'.heap.size) (hk : ∀ k, T k → w'.heap[k]? = w.heap[k]?) : DkIs w' b T N d := by
  obtain ⟨bs, bl, br, a, c, h⟩ := h
  exact ⟨bs, bl, br, a, c, h.keep hs hk⟩
theorem DkIs.fr {U : Nat → Prop} (h : DkIs w b T N d) (hf : Fr U w w') (hU : ∀ k, T k → ¬ U k) : DkIs w' b T N d := by
  obtain ⟨bs, bl, br, a, c, h⟩ := h
  exact ⟨bs, bl, br, a, c, h.fr hf hU⟩
theorem DkIs.below (h : DkIs w b T N d) (hb : Below w.heap.size w w') : DkIs w' b T N d := h.fr (U := fun _ => False) (.of_below hb) fun _ _ h => h
theorem DkIs.lt (h : DkIs w b T N d) (k : Nat) (hk : T k) : k < w.heap.size := by
  obtain ⟨bs, bl, br, a, c, h⟩ := h
  exact h.lt k hk
theorem DkIs.mono (h : DkIs w b T N d) {N' : Nat} (hN : N ≤ N') : DkIs w b T N' d := by
  obtain ⟨bs, bl, br, a, c, h0, ⟨f1, h1, h1'⟩, ⟨f2, h2, h2'⟩, ⟨f3, h3, h3'⟩, h4, h5, h6, h7, h8, h9⟩ := h
  exact ⟨bs, bl, br, a, c, h0, ⟨f1, h1.mono (by omega), h1'⟩, ⟨f2, h2.mono hN, h2'⟩, ⟨f3, h3.mono hN, h3'⟩, h4, h5, h6, h7, ⟨by omega, fun i => ⟨(h8.2.1 i).1, by have := (h8.2.1 i).2; omega⟩, h8.2.2⟩, h9⟩
theorem DkIs.to (h : DkIs w b T N d) : DkTo w b T N d w := ⟨T, h, Fr.refl _ _, fun _ h => .inl h⟩
theorem DkTo.trans {N' : Nat} {d' : Dsk} {w1 : World} (h : DkTo w b T N d w1) (k : ∀ T', DkIs w1 b T' N d → DkTo w1 b T' N' d' w') : DkTo w b T N' d' w' := by
  obtain ⟨T', h1, h2, h3⟩ := h
  obtain ⟨T'', k1, k2, k3⟩ := k T' h1
  refine ⟨T'', k1, h2.trans k2 fun i hi hT => (h3 i hT).resolve_right (by omega), fun i hi => ?_⟩
  rcases k3 i hi with hT | hT
  · exact h3 i hT
  · exact .inr (Nat.le_trans h2.size hT)
theorem DkTo.from {w1 : World} {T' : Nat → Prop} (h : DkTo w1 b T' N d w') (hf : Fr T w w1) (hT : ∀ k, T' k → T k ∨ w.heap.size ≤ k) : DkTo w b T N d w' := by
  obtain ⟨T'', k1, k2, k3⟩ := h
  refine ⟨T'', k1, hf.trans k2 fun i hi hT' => (hT i hT').resolve_right (by omega), fun i hi => ?_⟩
  rcases k3 i hi with h | h
  · exact hT i h
  · exact .inr (Nat.le_trans hf.size h)
theorem DkTo.mono (h : DkTo w b T N d w') {N' : Nat} (hN : N ≤ N') : DkTo w b T N' d w' := let ⟨T', h1, h2⟩ := h; ⟨T', h1.mono hN, h2⟩
/-- A block that isn't the disk's stands as it was. -/
theorem DkTo.block (h : DkTo w b T N d w') {k : Nat} (hk : k < w.heap.size) (hT : ¬ T k) : w'.heap[k]? = w.heap[k]? := let ⟨_, _, h, _⟩ := h; h.block k hk hT
theorem DkM.cells (h : DkM w b T N d bs bl br a c) :
    w.cell? ⟨b, 0, none⟩ = some (.int .i64 d.size) ∧ w.cell? ⟨b, 1, none⟩ = some (.bool d.down) ∧ w.cell? ⟨b, 2, none⟩ = some (.int .i64 d.fuse) ∧ w.cell? ⟨b, 3, none⟩ = some (.map (some bs)) ∧
      w.cell? ⟨b, 4, none⟩ = some (.slice a d.n c) ∧ w.cell? ⟨b, 5, none⟩ = some (.map (some bl)) ∧ w.cell? ⟨b, 6, none⟩ = some (.map (some br)) ∧ ∀ j, w.frozen? ⟨b, j, none⟩ = false :=
  ⟨by rw [h.row.cell]; rfl, by rw [h.row.cell]; rfl, by rw [h.row.cell]; rfl, by rw [h.row.cell]; rfl, by rw [h.row.cell]; rfl, by rw [h.row.cell]; rfl, by rw [h.row.cell]; rfl, fun j => h.row.frozen j⟩
/-- One of its own cells stored. -/
theorem DkM.setC (h : DkM w b T N d bs bl br a c) {d' : Dsk} (i : Nat) (v : Value) (hr : (dkR d.size d.down d.fuse bs a d.n c bl br).setIfInBounds i v = dkR d'.size d'.down d'.fuse bs a d.n c bl br)
    (e : d'.sure = d.sure ∧ d'.n = d.n ∧ d'.sec = d.sec ∧ d'.pg = d.pg ∧ d'.reads = d.reads) (hs : d'.size ≤ 1024 ∧ (Lit.int .i64 d'.fuse).wf = true) : DkM (w.setCell ⟨b, i, none⟩ v) b T N d' bs bl br a c := by
  obtain ⟨h0, ⟨f1, h1, h1'⟩, ⟨f2, h2, h2'⟩, ⟨f3, h3, h3'⟩, h4, h5, h6, h7, h8, h9⟩ := h
  obtain ⟨e1, e2, e3, e4, e5⟩ := e
  have hk : ∀ k, k ≠ b → (w.setCell ⟨b, i, none⟩ v).heap[k]? = w.heap[k]? := fun k hk => heap_setCell_other _ _ _ _ hk
  refine ⟨?_, ⟨f1, by rw [e2]; exact h1.keep (hk bs (Ne.symm h6.1.1)), by rw [e1]; exact h1'⟩, ⟨f2, h2.keep (hk bl (Ne.symm h6.1.2.1)), by rw [e2, e3]; exact h2'⟩, ⟨f3, h3.keep (hk br (Ne.symm h6.1.2.2.1)), by rw [e5]; exact h3'⟩, ?_, ?_, ?_, fun k hT => by simpa [World.setCell] using h7 k hT, ?_, ?_⟩
  · rw [e2, ← hr]; exact h0.setCell
  · rw [e2, e3, e4]; exact h4.keep fun g hg => hk g (h6.2 g hg).1
  · rw [e2]; exact h5
  · rw [e2]; exact h6
  · rw [e2, e5]; exact ⟨h8.1, h8.2.1, hs⟩
  · rw [e1, e2, e3, e4]; exact h9
theorem DkM.to (h : DkM w b T N d bs bl br a c) (h' : DkM w' b T N d bs bl br a c) (hf : Fr T w w') : DkTo w b T N d w' := ⟨T, ⟨bs, bl, br, a, c, h'⟩, hf, fun _ h => .inl h⟩
end

theorem power_of (w : World) (b : Nat) (dn : Bool) (h : w.cell? ⟨b, 1, none⟩ = some (.bool dn)) :
    Calls Try.prog 35 #[.pointer (some ⟨b, 0, none⟩)] w fun e w' => e = .returned (.int .i64 (if dn = true then 7 else 0)) ∧ w' = w := by
  cases dn
  all_goals
    go_enter Try.func35, Try.ntmps35
    go_wp2
    go_ret
    exact ⟨rfl, rfl⟩

theorem reach_of (w : World) (b : Nat) (T : Nat → Prop) (N : Nat) (d : Dsk) (h : DkIs w b T N d) (i : Int) :
    Calls Try.prog 38 #[.pointer (some ⟨b, 0, none⟩), .int .i64 i] w fun e w' => e = .returned (.int .i64 (d.reach i)) ∧ w' = w := by
  obtain ⟨bs, bl, br, a, c, h⟩ := h
  obtain ⟨c0, c1, c2, c3, c4, c5, c6, _⟩ := h.cells
  have hp := power_of w b d.down c1
  have HS := Lib.hid (Dsk.reach_all d i)
  clear h c1 c2 c3 c4 c5 c6
  generalize d.reach i = r at HS
  generalize d.down = dn at hp HS
  generalize (d.size : Int) = s at c0 HS
  cases dn
  · by_cases h0 : i < 0
    · obtain rfl := HS.out.2.2 rfl (by omega)
      clear HS
      go_enter Try.func38, Try.ntmps38
      go_wp2_with fail
      refine hp.mono ?_
      rintro e w1 ⟨rfl, rfl⟩
      go_wp2_with fail
      go_ret
      exact ⟨rfl, rfl⟩
    · by_cases h1 : s ≤ i
      · obtain rfl := HS.out.2.2 rfl (by omega)
        clear HS
        go_enter Try.func38, Try.ntmps38
        go_wp2_with fail
        refine hp.mono ?_
        rintro e w1 ⟨rfl, rfl⟩
        go_wp2_with fail
        go_ret
        exact ⟨rfl, rfl⟩
      · obtain rfl := HS.out.2.1 rfl (by omega) (by omega)
        clear HS
        go_enter Try.func38, Try.ntmps38
        go_wp2_with fail
        refine hp.mono ?_
        rintro e w1 ⟨rfl, rfl⟩
        go_wp2_with fail
        go_ret
        exact ⟨rfl, rfl⟩
  · obtain rfl := HS.out.1 rfl
    clear HS
    go_enter Try.func38, Try.ntmps38
    go_wp2_with fail
    refine hp.mono ?_
    rintro e w1 ⟨rfl, rfl⟩
    go_wp2_with fail
    go_ret
    exact ⟨rfl, rfl⟩

theorem size_of (w : World) (b : Nat) (T : Nat → Prop) (N : Nat) (d : Dsk) (h : DkIs w b T N d) :
    Calls Try.prog 26 #[.pointer (some ⟨b, 0, none⟩)] w fun e w' => e = .returned (.int .i64 d.size) ∧ w' = w := by
  obtain ⟨bs, bl, br, a, c, h⟩ := h
  obtain ⟨c0, c1, c2, c3, c4, c5, c6, _⟩ := h.cells
  clear h c1 c2 c3 c4 c5 c6
  generalize (d.size : Int) = s at c0 ⊢
  go_enter Try.func26, Try.ntmps26
  go_wp2
  go_ret
  exact ⟨rfl, rfl⟩
theorem up_of (w : World) (b : Nat) (T : Nat → Prop) (N : Nat) (d : Dsk) (h : DkIs w b T N d) :
    Calls Try.prog 14 #[.pointer (some ⟨b, 0, none⟩)] w fun e w' => e = .returned (.tuple #[]) ∧ DkTo w b T N d.upped w' := by
  obtain ⟨bs, bl, br, a, c, h⟩ := h
  obtain ⟨c0, c1, c2, c3, c4, c5, c6, f⟩ := h.cells
  have f1 := f 1
  have HX := Lib.hid (show DkTo w b T N d.upped (w.setCell ⟨b, 1, none⟩ (.bool false)) from
    ⟨T, ⟨bs, bl, br, a, c, h.setC (d' := d.upped) 1 (.bool false) rfl ⟨rfl, rfl, rfl, rfl, rfl⟩ h.num.2.2⟩, (Fr.refl _ _).setCell (.inl h.own.1) _, fun _ h => .inl h⟩)
  clear h c0 c2 c3 c4 c5 c6 f
  generalize d.upped = d' at HX ⊢
  generalize d.down = dn at c1
  go_enter Try.func14, Try.ntmps14
  go_wp2
  go_end0
  exact ⟨rfl, HX.out⟩
theorem fuse_of (w : World) (b : Nat) (T : Nat → Prop) (N : Nat) (d : Dsk) (h : DkIs w b T N d) (n : Int) (hn : (Lit.int .i64 n).wf = true) :
    Calls Try.prog 12 #[.pointer (some ⟨b, 0, none⟩), .int .i64 n] w fun e w' => e = .returned (.tuple #[]) ∧ DkTo w b T N (d.fused n) w' := by
  obtain ⟨bs, bl, br, a, c, h⟩ := h
  obtain ⟨c0, c1, c2, c3, c4, c5, c6, f⟩ := h.cells
  have f2 := f 2
  have HX := Lib.hid (show DkTo w b T N (d.fused n) (w.setCell ⟨b, 2, none⟩ (.int .i64 n)) from
    ⟨T, ⟨bs, bl, br, a, c, h.setC (d' := d.fused n) 2 (.int .i64 n) rfl ⟨rfl, rfl, rfl, rfl, rfl⟩ ⟨h.num.2.2.1, hn⟩⟩, (Fr.refl _ _).setCell (.inl h.own.1) _, fun _ h => .inl h⟩)
  clear h c0 c1 c3 c4 c5 c6 f hn
  generalize d.fused n = d' at HX ⊢
  generalize d.fuse = dn at c2
  go_enter Try.func12, Try.ntmps12
  go_wp2
  go_end0
  exact ⟨rfl, HX.out⟩
theorem spend_of (w : World) (b : Nat) (T : Nat → Prop) (N : Nat) (d : Dsk) (h : DkIs w b T N d) :
    Calls Try.prog 36 #[.pointer (some ⟨b, 0, none⟩)] w fun e w' => e = .returned (.int .i64 (if d.fuse = 0 then 6 else 0)) ∧ DkTo w b T N d.spent w' := by
  obtain ⟨bs, bl, br, a, c, h⟩ := h
  obtain ⟨c0, c1, c2, c3, c4, c5, c6, f⟩ := h.cells
  have f2 := f 2
  have hw := h.num.2.2.2
  have HY := Lib.hid (show ¬ 0 < d.fuse → DkTo w b T N d.spent w from fun hn => by
    have e : d.spent = d := by unfold Dsk.spent; rw [if_neg hn]
    rw [e]
    exact DkIs.to ⟨bs, bl, br, a, c, h⟩)
  have HX := Lib.hid (show 0 < d.fuse → DkTo w b T N d.spent (w.setCell ⟨b, 2, none⟩ (.int .i64 (d.fuse - 1))) from fun hn =>
    ⟨T, ⟨bs, bl, br, a, c, h.setC (d' := d.spent) 2 (.int .i64 (d.fuse - 1)) (by unfold Dsk.spent; rw [if_pos hn]; rfl) ⟨rfl, rfl, rfl, rfl, rfl⟩ ⟨h.num.2.2.1, by
      show (Lit.int .i64 (if 0 < d.fuse then d.fuse - 1 else d.fuse)).wf = true
      rw [if_pos hn]
      have := bounds_i64 hw
      exact WalkArith.wf_i64 (by omega)⟩⟩, (Fr.refl _ _).setCell (.inl h.own.1) _, fun _ h => .inl h⟩)
  have hB := bounds_i64 hw
  clear h c0 c1 c3 c4 c5 c6 f hw
  generalize d.spent = d' at HX HY ⊢
  generalize d.fuse = u at c2 HX HY hB ⊢
  by_cases h0 : u = 0
  · subst h0
    replace HY := Lib.hid (HY.out (by omega))
    clear HX hB
    go_enter Try.func36, Try.ntmps36
    go_wp2
    go_ret
    exact ⟨rfl, HY.out⟩
  · rw [if_neg h0]
    by_cases h1 : 0 < u
    · replace HX := Lib.hid (HX.out h1)
      clear HY
      go_enter Try.func36, Try.ntmps36
      go_wp2
      go_ret
      exact ⟨rfl, HX.out⟩
    · replace HY := Lib.hid (HY.out h1)
      clear HX
      go_enter Try.func36, Try.ntmps36
      go_wp2
      go_ret
      exact ⟨rfl, HY.out⟩
end Go.Proofs.Ytbbeekpndhfpjaa.Dk
end

section
/- Contracts of the program's disk: New. -/
set_option maxRecDepth 100000
set_option linter.unusedVariables false
namespace Go.Proofs.Ytbbeekpndhfpjaa.Dk
open Go.RowKit Go.Proofs.Ytbbeekpndhfpjaa.Row

/-- What New answers. -/
def RetNew (w : World) (size : Nat) (e : Ending) (w' : World) : Prop :=
  ∃ b T, e = .returned (.tuple #[.pointer (some ⟨b, 0, none⟩), .int .i64 0]) ∧ DkIs w' b T 0 (fresh zP size) ∧ Below w.heap.size w w' ∧ ∀ k, T k → w.heap.size ≤ k

theorem new_made (w : World) (size : Nat) (h : size ≤ 1024) (w' : World)
    (hw : w' = (((w.alloc (.map #[] 0)).alloc (.map #[] 0)).alloc (.map #[] 0)).alloc (.cells (dkR size false (-1) w.heap.size none 0 0 (w.heap.size + 1) (w.heap.size + 1 + 1)) 58)) :
    RetNew w size (.returned (.tuple #[.pointer (some ⟨w.heap.size + 1 + 1 + 1, 0, none⟩), .int .i64 0])) w' := by
  obtain ⟨B, hB⟩ : ∃ B, w.heap.size = B := ⟨_, rfl⟩
  have s1 : (w.alloc (.map #[] 0)).heap.size = B + 1 := by rw [World.size_alloc, hB]
  have s2 : ((w.alloc (.map #[] 0)).alloc (.map #[] 0)).heap.size = B + 1 + 1 := by rw [World.size_alloc, s1]
  have s3 : (((w.alloc (.map #[] 0)).alloc (.map #[] 0)).alloc (.map #[] 0)).heap.size = B + 1 + 1 + 1 := by rw [World.size_alloc, s2]
  have m1 := MpI.made w 3 .i64
  have m2 := MpI.made (w.alloc (.map #[] 0)) 3 .i64
  have m3 := MpI.made ((w.alloc (.map #[] 0)).alloc (.map #[] 0)) 3 .i64
  have hat := At.new (((w.alloc (.map #[] 0)).alloc (.map #[] 0)).alloc (.map #[] 0)) (dkR size false (-1) w.heap.size none 0 0 (w.heap.size + 1) (w.heap.size + 1 + 1)) 58
  rw [← hw, s3, hB] at hat
  rw [hB] at m1
  rw [s1] at m2
  rw [s2] at m3
  have b0 : Below w.heap.size w (w.alloc (.map #[] 0)) := (Below.refl _ _).alloc (Nat.le_refl _) _
  have b1 := (Below.refl (w.alloc (.map #[] 0)).heap.size (w.alloc (.map #[] 0))).alloc (Nat.le_refl _) (.map #[] 0)
  have b2 := (Below.refl ((w.alloc (.map #[] 0)).alloc (.map #[] 0)).heap.size ((w.alloc (.map #[] 0)).alloc (.map #[] 0))).alloc (Nat.le_refl _) (.map #[] 0)
  have b3 := (Below.refl (((w.alloc (.map #[] 0)).alloc (.map #[] 0)).alloc (.map #[] 0)).heap.size (((w.alloc (.map #[] 0)).alloc (.map #[] 0)).alloc (.map #[] 0))).alloc (Nat.le_refl _) (.cells (dkR size false (-1) w.heap.size none 0 0 (w.heap.size + 1) (w.heap.size + 1 + 1)) 58)
  rw [← hw] at b3
  have hb : Below w.heap.size w w' := below_trans (below_trans (below_trans b0 b1 (by rw [s1, hB]; omega)) b2 (by rw [s2, hB]; omega)) b3 (by rw [s3, hB]; omega)
  have hs : w'.heap.size = B + 1 + 1 + 1 + 1 := by rw [hw, World.size_alloc, s3]
  rw [hB]
  refine ⟨B + 1 + 1 + 1, fun k => B ≤ k ∧ k < w'.heap.size, rfl, ⟨B, B + 1, B + 1 + 1, none, 0, ?_⟩, hb, fun k hk => by rw [hB]; exact hk.1⟩
  refine ⟨hat, ⟨_, ((m1.below b1).below b2).below b3, fun i _ => rfl⟩, ⟨_, (m2.below b2).below b3, fun i _ => rfl⟩, ⟨_, m3.below b3, fun i _ => rfl⟩, Els.nil _ _ _ _ _, ?_, ⟨by omega, fun k hk => by simp [Value.ownBlock] at hk⟩, fun k hk => hk.2, ⟨Nat.le_refl _, fun i => ⟨Int.le_refl _, Int.le_refl _⟩, h, (show (Lit.int .i64 (-1)).wf = true by decide)⟩, ⟨fun _ => pag_z, fun k hk => absurd hk (Nat.not_lt_zero k)⟩⟩
  rw [hs]
  exact ⟨by omega, by omega, by omega, by omega, fun k hk => by simp [Value.ownBlock] at hk⟩

theorem built_disk (x p q r : Nat) : Try.prog.built 58 [(0, .int .i64 x), (2, .int .i64 (-1)), (3, .map (some p)), (5, .map (some q)), (6, .map (some r))] = some (dkR x false (-1) p none 0 0 q r) := by kernel_rfl
set_option maxHeartbeats 2000000 in
theorem new_yes (n : Nat) (h1 : 1 ≤ n) (h2 : n ≤ 1024) (w : World) : Calls Try.prog 9 #[.int .i64 n] w (RetNew w n) := by
  have hmm := @run_makeMap Try.prog
  have HM := Lib.hid (new_made w n h2)
  obtain ⟨x, hx⟩ : ∃ x : Int, (n : Int) = x := ⟨_, rfl⟩
  have hx1 : 1 ≤ x := by omega
  have hx2 : x ≤ 1024 := by omega
  have HB := Lib.hid (built_disk n w.heap.size (w.heap.size + 1) (w.heap.size + 1 + 1))
  rw [hx] at HB ⊢
  clear h1 h2 hx
  go_enter Try.func9, Try.ntmps9
  go_wp2_with (refine wpList_build_parts (by rfl) 58 [_, _, _, _, _] rfl _ rfl HB.out ?_)
  refine bodyPost_ret (results_tmp2 rfl _ _ _) rfl ?_
  exact HM.out _ rfl
theorem new_no (n : Int) (h : n < 1 ∨ 1024 < n) (w : World) : Calls Try.prog 9 #[.int .i64 n] w fun e w' => e = .returned (.tuple #[.pointer none, .int .i64 1]) ∧ w' = w := by
  rcases h with h | h
  · go_enter Try.func9, Try.ntmps9
    go_wp2
    refine bodyPost_ret (results_tmp2 rfl _ _ _) rfl ?_
    exact ⟨rfl, rfl⟩
  · have h1 : ¬ n < 1 := by omega
    go_enter Try.func9, Try.ntmps9
    go_wp2
    refine bodyPost_ret (results_tmp2 rfl _ _ _) rfl ?_
    exact ⟨rfl, rfl⟩

end Go.Proofs.Ytbbeekpndhfpjaa.Dk
end

section
/- Contracts of the program's disk: Reads, Read. -/
set_option maxRecDepth 100000
set_option linter.unusedVariables false
namespace Go.Proofs.Ytbbeekpndhfpjaa.Dk
open Go.RowKit Go.Proofs.Ytbbeekpndhfpjaa.Row

theorem zero_int (w : World) : (zeroValue 3).run Try.prog w = .ok (.int .i64 0) w := by kernel_rfl

/-- One more read counted. -/
theorem DkM.read {w w' : World} {b : Nat} {T : Nat → Prop} {N : Nat} {d : Dsk} {bs bl br : Nat} {a : Option Addr} {c : Nat} (h : DkM w b T N d bs bl br a c) {i : Int} {f : Int → Option Value}
    (hv : ∀ i, (Lit.int .i64 i).wf = true → (f i).getD (.int .i64 0) = .int .i64 (d.reads i))
    (hm : MpI w' 3 .i64 br (N + 1) fun j => if j = i then some (.int .i64 (d.reads i + 1)) else f j) (hg : w.grownBy w' (some br)) : DkM w' b T (N + 1) (d.readI i) bs bl br a c := by
  obtain ⟨h0, ⟨f1, h1, h1'⟩, ⟨f2, h2, h2'⟩, _, h4, h5, h6, h7, h8, h9⟩ := h
  have hk : ∀ k, k < w.heap.size → k ≠ br → w'.heap[k]? = w.heap[k]? := fun k hk he => hg.block k hk fun e => he (by simpa using e)
  refine ⟨(hk b h0.lt h6.1.2.2.1).trans h0, ⟨f1, (h1.keep (hk bs h1.lt h6.1.2.2.2.2.1)).mono (by show N - d.n ≤ N + 1 - d.n; omega), h1'⟩, ⟨f2, (h2.keep (hk bl h2.lt h6.1.2.2.2.2.2)).mono (by omega), h2'⟩, ⟨_, hm, fun j hj => ?_⟩, h4.keep fun g hg' => hk g (h4.block g hg').2 (h6.2 g hg').2.2.2, h5, h6, fun k hT => Nat.lt_of_lt_of_le (h7 k hT) hg.size, ⟨by show d.n ≤ N + 1; omega, fun j => ?_, h8.2.2⟩, h9⟩
  · show _ = Value.int .i64 (if j = i then d.reads j + 1 else d.reads j)
    by_cases e : j = i
    · subst e
      simp only [if_true, Option.getD_some]
    · simp only [if_neg e]
      exact hv j hj
  · show 0 ≤ (if j = i then d.reads j + 1 else d.reads j) ∧ (if j = i then d.reads j + 1 else d.reads j) ≤ _
    have := h8.2.1 j
    split <;> omega

theorem seen_pag {w : World} {b : Nat} {T : Nat → Prop} {N : Nat} {d : Dsk} (h : DkIs w b T N d) (i : Int) : Pag (d.seen i) := by
  obtain ⟨bs, bl, br, a, c, h⟩ := h
  unfold Dsk.seen
  cases e : lastOf d.sec i d.n with
  | none => exact h.pgs.1 i
  | some k => exact (h.pgs.2 k (lastOf_lt e).1).1
theorem built_z : Try.prog.built 69 [] = some zP := by kernel_rfl

theorem read_no (w : World) (b : Nat) (T : Nat → Prop) (N : Nat) (d : Dsk) (h : DkIs w b T N d) (i : Int) (hr : d.reach i ≠ 0) :
    Calls Try.prog 27 #[.pointer (some ⟨b, 0, none⟩), .int .i64 i] w fun e w' => e = .returned (.tuple #[.agg zP, .int .i64 (d.reach i)]) ∧ DkTo w b T N d w' := by
  have hz := zero_page
  have hb := (Below.refl w.heap.size w).alloc (Nat.le_refl _) (.cells zP 69)
  have HC := Lib.hid (reach_of _ b T N d (h.below hb) i)
  have HX := Lib.hid (show DkTo w b T N d ((w.alloc (.cells zP 69)).setRow w.heap.size zP) from ⟨T, by rw [Row.setRow_self (At.new w zP 69)]; exact h.below hb, by rw [Row.setRow_self (At.new w zP 69)]; exact .of_below hb, fun _ h => .inl h⟩)
  have hne : (d.reach i != 0) = true := by rw [bne_iff_ne]; exact hr
  have HA := Lib.hid (At.new w zP 69)
  have HA2 := Lib.hid (HA.out.setRow (C := zP))
  clear h hb hr
  generalize d.reach i = r at hne HC ⊢
  go_enter Try.func27, Try.ntmps27
  go_wp2_with fail
  refine HC.out.mono ?_
  rintro e w1 ⟨rfl, rfl⟩
  go_wp2_with (first
    | refine wpList_build_parts (by rfl) 69 [] rfl _ rfl built_z ?_
    | refine wpList_store_row rfl 69 _ _ rfl w.heap.size zP rfl rfl _ _ HA.out (info_pag pag_z) rfl pag_z.one ?_)
  exact bodyPost_ret (v := .tuple #[.agg zP, .int .i64 r]) (results_any_int rfl _ _ w.heap.size zP _ rfl rfl HA2.out Try.underlying69 rfl (info_pag pag_z)) rfl ⟨rfl, HX.out⟩

set_option maxHeartbeats 1000000 in
/-- A read that goes well: the last write of the sector, or what is sure. -/
theorem read_yes (w : World) (b : Nat) (T : Nat → Prop) (N : Nat) (d : Dsk) (h : DkIs w b T N d) (i : Int) (hi : (Lit.int .i64 i).wf = true) (hr : d.reach i = 0) (hN : N ≤ 1000000) :
    Calls Try.prog 27 #[.pointer (some ⟨b, 0, none⟩), .int .i64 i] w fun e w' => e = .returned (.tuple #[.agg (d.seen i), .int .i64 0]) ∧ DkTo w b T (N + 1) (d.readI i) w' := by
  have hz := zero_page
  have hb := (Below.refl w.heap.size w).alloc (Nat.le_refl _) (.cells zP 69)
  have HC := Lib.hid (reach_of _ b T N d (h.below hb) i)
  rw [hr] at HC
  have HP := Lib.hid (seen_pag h i)
  obtain ⟨bs, bl, br, a, c, h⟩ := h
  have hA := At.new w zP 69
  have h1 : DkM (w.alloc (.cells zP 69)) b T N d bs bl br a c := h.fr (U := fun _ => False) (.of_below hb) fun _ _ h => h
  obtain ⟨c0, c1, c2, c3, c4, c5, c6, f0⟩ := h1.cells
  obtain ⟨f, hf, hv⟩ := h1.reads
  have HB := Lib.hid hb
  have HA := Lib.hid hA
  have HM := Lib.hid h1
  have HF := Lib.hid hf
  have HV := Lib.hid hv
  have HV1 := Lib.hid (hv i hi)
  have HI := Lib.hid hi
  have HN := Lib.hid (show N < maxLen by unfold maxLen; omega)
  have hx0 := (h1.num.2.1 i).1
  have hx1 := (h1.num.2.1 i).2
  have HX := Lib.hid (show IntKind.i64.wrap (d.reads i + 1) = d.reads i + 1 from by rw [IntKind.wrap_i64]; omega)
  have HT := Lib.hid (show ∀ k, T k → k < w.heap.size from h.lt)
  obtain ⟨x, hx⟩ : ∃ x, d.reads i = x := ⟨_, rfl⟩
  rw [hx] at HX hx0 hx1 HV1
  have HXE := Lib.hid hx
  have HEZ := Lib.hid (fun w : World => zero_int w)
  have HZP := Lib.hid (fun w : World => zero_page w)
  clear h h1 hb hA hf hv hi hr c0 c1 c2 c3 c4 hx f0
  revert HC HA HM HF c5 c6 HB
  generalize hW : World.alloc w _ = W
  intro HC c5 c6 HB HA HM HF
  by_cases hl : lastOf d.sec i d.n = none
  · have hs : d.seen i = d.sure i := by unfold Dsk.seen; rw [hl]
    rw [hs] at HP ⊢
    have HL := Lib.hid hl
    clear hl hs
    subst hW
    go_enter Try.func27, Try.ntmps27
    go_wp2_with fail
    refine HC.out.mono ?_
    rintro e w1 ⟨rfl, rfl⟩
    revert HF; revert HM; revert HA; revert HB; revert c6; revert c5; revert HC
    generalize World.alloc w _ = W
    intro HC c5 c6 HB HA HM HF
    go_wp2_with (first
      | refine wpList_look_mpi (by rfl) _ _ rfl Try.underlying3 Try.underlying55 rfl HF.out (HEZ.out _) rfl HI.out HV1.out ?_
      | (refine wpList_put_mpi rfl _ _ _ rfl Try.underlying3 Try.underlying55 rfl HF.out HN.out rfl rfl HI.out ?_
         intro W1 hm1 hg1
         have HM1 := Lib.hid (HM.out.read (i := i) HV.out (by rw [HXE.out]; exact hm1) hg1)
         have HA1 := Lib.hid (show At W1 w.heap.size zP 69 from (hg1.block _ HA.out.lt (by have := HT.out br HM.out.own.2.2.2.1; simp; omega)).trans HA.out)
         have HB1 := Lib.hid (show Fr T w W1 from (Fr.of_below HB.out).grown hg1 fun k hk => by simp only [Option.some.injEq] at hk; subst hk; exact .inl HM.out.own.2.2.2.1)
         obtain ⟨_, _, _, d3, d4, d5, _, d7⟩ := HM1.out.cells
         obtain ⟨f1, hf1, hv1⟩ := HM1.out.sure
         obtain ⟨f2, hf2, hv2⟩ := HM1.out.last
         have HF1 := Lib.hid (And.intro hf1 (show (f1 i).getD (.agg zP) = .agg (d.sure i) from hv1 i HI.out))
         have HF2 := Lib.hid (And.intro hf2 (show f2 i = (lastOf d.sec i d.n).map fun k => .int .i64 (k : Nat) from hv2 i HI.out))
         clear hf1 hv1 hf2 hv2 hm1 hg1 HC HA HM HF c5 c6 HB d7
         skip)
      | (refine wpList_look_ok_mpi (v := .int .i64 0) (bb := false) (by rfl) _ _ rfl Try.underlying3 Try.underlying55 rfl HF2.out.1 (HEZ.out _) rfl HI.out (by rw [HF2.out.2, HL.out]; rfl) (by rw [HF2.out.2, HL.out]; rfl) ?_)
      | refine wpList_look_mpi (by rfl) _ _ rfl Try.underlying3 Try.underlying54 rfl HF1.out.1 (HZP.out _) rfl HI.out HF1.out.2 ?_
      | (refine wpList_store_row rfl 69 _ _ rfl w.heap.size (d.sure i) rfl rfl _ _ HA1.out (info_pag HP.out) (by rw [HP.out.size]; exact pag_z.size) HP.out.one ?_
         have HA2 := Lib.hid (HA1.out.setRow (C := (d.sure i)))
         have HM2 := Lib.hid (show DkTo w b T (N + 1) (d.readI i) (W1.setRow w.heap.size (d.sure i)) from ⟨T, ⟨bs, bl, br, _, c, HM1.out.keep (by rw [size_setRow]; exact Nat.le_refl _) fun k hk => Go.setRow_other _ _ _ _ (by have := HT.out k hk; omega)⟩, HB1.out.setRow (.inr (Nat.le_refl _)) _, fun _ h => .inl h⟩)))
    exact bodyPost_ret (v := .tuple #[.agg (d.sure i), .int .i64 0]) (results_any_int rfl _ _ w.heap.size (d.sure i) _ rfl rfl HA2.out Try.underlying69 rfl (info_pag HP.out)) rfl ⟨rfl, HM2.out⟩
  · obtain ⟨k, hl⟩ := Option.ne_none_iff_exists'.1 hl
    have hs : d.seen i = d.pg k := by unfold Dsk.seen; rw [hl]
    have hk := (lastOf_lt hl).1
    rw [hs] at HP ⊢
    have HL := Lib.hid hl
    have HK := Lib.hid hk
    have HG := Lib.hid (HM.out.loose.addr (by omega))
    obtain ⟨g, hg, _, _⟩ := HG.out
    subst hg
    clear hl hs hk HG
    subst hW
    go_enter Try.func27, Try.ntmps27
    go_wp2_with fail
    refine HC.out.mono ?_
    rintro e w1 ⟨rfl, rfl⟩
    revert HF; revert HM; revert HA; revert HB; revert c6; revert c5; revert HC
    generalize World.alloc w _ = W
    intro HC c5 c6 HB HA HM HF
    go_wp2_with (first
      | refine wpList_look_mpi (by rfl) _ _ rfl Try.underlying3 Try.underlying55 rfl HF.out (HEZ.out _) rfl HI.out HV1.out ?_
      | (refine wpList_put_mpi rfl _ _ _ rfl Try.underlying3 Try.underlying55 rfl HF.out HN.out rfl rfl HI.out ?_
         intro W1 hm1 hg1
         have HM1 := Lib.hid (HM.out.read (i := i) HV.out (by rw [HXE.out]; exact hm1) hg1)
         have HA1 := Lib.hid (show At W1 w.heap.size zP 69 from (hg1.block _ HA.out.lt (by have := HT.out br HM.out.own.2.2.2.1; simp; omega)).trans HA.out)
         have HB1 := Lib.hid (show Fr T w W1 from (Fr.of_below HB.out).grown hg1 fun k hk => by simp only [Option.some.injEq] at hk; subst hk; exact .inl HM.out.own.2.2.2.1)
         obtain ⟨_, _, _, d3, d4, d5, _, d7⟩ := HM1.out.cells
         obtain ⟨f1, hf1, hv1⟩ := HM1.out.sure
         obtain ⟨f2, hf2, hv2⟩ := HM1.out.last
         have HF1 := Lib.hid (And.intro hf1 (show (f1 i).getD (.agg zP) = .agg (d.sure i) from hv1 i HI.out))
         have HF2 := Lib.hid (And.intro hf2 (show f2 i = (lastOf d.sec i d.n).map fun k => .int .i64 (k : Nat) from hv2 i HI.out))
         clear hf1 hv1 hf2 hv2 hm1 hg1 HC HA HM HF c5 c6 HB d7
         have hr1 := HM1.out.loose.range HK.out
         have HR := Lib.hid (show W1.rangeAt g (k * 65 + 1) (d.pg k).toList from fun j v hj => by
           rw [Array.getElem?_toList] at hj
           have := hr1 (1 + j) v (by rw [Array.getElem?_toList]; exact (wrR_1 _ _ j).trans hj)
           rwa [← Nat.add_assoc] at this)
         have rx := run_ex (g := g) (o := 0) (n := d.n) (c := c) elt_w HK.out
         rw [Nat.zero_add] at rx
         clear hr1
         skip)
      | (refine wpList_look_ok_mpi (v := .int .i64 k) (bb := true) (by rfl) _ _ rfl Try.underlying3 Try.underlying55 rfl HF2.out.1 (HEZ.out _) rfl HI.out (by rw [HF2.out.2, HL.out]; rfl) (by rw [HF2.out.2, HL.out]; rfl) ?_)
      | refine wpList_load_range (by rfl) 69 _ rfl g (k * 65 + 1) rfl HR.out Try.underlying69 rfl (info_pag HP.out) ?_
      | (refine wpList_store_row rfl 69 _ _ rfl w.heap.size (d.pg k) rfl rfl _ _ HA1.out (info_pag HP.out) (by rw [HP.out.size]; exact pag_z.size) HP.out.one ?_
         have HA2 := Lib.hid (HA1.out.setRow (C := (d.pg k)))
         have HM2 := Lib.hid (show DkTo w b T (N + 1) (d.readI i) (W1.setRow w.heap.size (d.pg k)) from ⟨T, ⟨bs, bl, br, _, c, HM1.out.keep (by rw [size_setRow]; exact Nat.le_refl _) fun k hk => Go.setRow_other _ _ _ _ (by have := HT.out k hk; omega)⟩, HB1.out.setRow (.inr (Nat.le_refl _)) _, fun _ h => .inl h⟩)))
    exact bodyPost_ret (v := .tuple #[.agg (d.pg k), .int .i64 0]) (results_any_int rfl _ _ w.heap.size (d.pg k) _ rfl rfl HA2.out Try.underlying69 rfl (info_pag HP.out)) rfl ⟨rfl, HM2.out⟩
end Go.Proofs.Ytbbeekpndhfpjaa.Dk
end
