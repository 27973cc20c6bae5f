/- Texts of the walk, one behind the other. -/
import Derived.Test.YtbbeekpndhfpjaaSegLastsM26
import Derived.Test.YtbbeekpndhfpjaaSegLastsM14
import Derived.Test.YtbbeekpndhfpjaaSegLastsM29

section
/- SgCh: while a disk's sectors are gone through: the disk, the struct of a scan (a joiner, the records, the next page, the epoch), the caller's own blocks (for the proof of Scan). -/
set_option maxRecDepth 100000
set_option linter.unusedVariables false
namespace Go.Proofs.Ytbbeekpndhfpjaa.Sg
open Go.RowKit Go.Proofs.Ytbbeekpndhfpjaa.Row Go.Proofs.Ytbbeekpndhfpjaa.Pa Go.Proofs.Ytbbeekpndhfpjaa.Fg Go.Proofs.Ytbbeekpndhfpjaa.Dk

theorem jm_kp {w w' : World} {b e n c : Nat} {T : Nat → Prop} {a : Option Addr} {bs : List UInt8} {x y z : Value} (h : JM w b T e a n c bs x y z) (hk : Kp T w w') : JM w' b T e a n c bs x y z := by
  refine ⟨hk.at h.tb h.row, ?_, h.tb, h.blk, fun k hk' => Nat.lt_of_lt_of_le (h.lt k hk') hk.1⟩
  obtain ⟨h1, h2 | ⟨g, cap, cur, e2, h3, h4, h5⟩⟩ := h.own
  · exact ⟨h1, .inl h2⟩
  · exact ⟨h1, .inr ⟨g, cap, cur, e2, h3, (hk.2 g (h.blk g (by rw [e2]; rfl)).1).trans h4, h5⟩⟩
/-- A joiner's blocks stand: so does it. -/
theorem ji_kp {w w' : World} {b : Nat} {T : Nat → Prop} {j : Jn} {x y z : Value} (h : JI w b T x y z j) (hk : Kp T w w') : JI w' b T x y z j := by
  match j, h with
  | none, ⟨e, a, c, h⟩ => exact ⟨e, a, c, jm_kp h hk⟩
  | some (e, r), ⟨a, c, h, h1, h2⟩ => exact ⟨a, c, jm_kp h hk, h1, h2⟩
/-- The block of a list of records. -/
def OwnR (a : Option Addr) (n c k : Nat) : Prop := (Value.slice a n c).ownBlock = some k

/-- While sectors are gone through: blocks G stand since wb; the joiner, the records, and the caller's own blocks Q are newer. -/
structure ScW (w0 wb : World) (bd : Nat) (G : Nat → Prop) (N : Nat) (d : Dsk) (bj : Nat) (j : Jn) (a : Option Addr) (n c : Nat) (l : List (Nat × List UInt8)) (nx ep : Nat) (Q : Nat → Prop) (w : World) : Prop where
  ex : ∃ T, JI w bj T (.slice a n c) (.int .i64 (nx : Nat)) (.int .u32 (ep : Nat)) j ∧ (∀ k, T k → wb.heap.size ≤ k ∧ ¬ Q k ∧ ¬ OwnR a n c k) ∧ DkL w0 bd N d (fun k => G k ∨ T k ∨ OwnR a n c k ∨ Q k) w
  len : l.length = n
  els : Els w wb.heap.size 79 2 a n c (recF l)
  q : ∀ k, Q k → wb.heap.size ≤ k ∧ ¬ OwnR a n c k
  g : ∀ k, G k → k < wb.heap.size
  kp : Kp G wb w
section
variable {w0 wb w w' : World} {bd N bj n c nx ep : Nat} {G Q : Nat → Prop} {d d' : Dsk} {j : Jn} {a : Option Addr} {l : List (Nat × List UInt8)}
/-- A call of the disk's. -/
theorem ScW.disk (h : ScW w0 wb bd G N d bj j a n c l nx ep Q w) {N' : Nat} (hd : ∀ H, DkL w0 bd N d H w → DkL w0 bd N' d' H w' ∧ Kp H w w') : ScW w0 wb bd G N' d' bj j a n c l nx ep Q w' := by
  obtain ⟨⟨T, h1, h2, h3⟩, h4, h5, h6, h7, h8⟩ := h
  obtain ⟨k1, k2⟩ := hd _ h3
  exact ⟨⟨T, ji_kp h1 (kp_sub k2 fun k hk => .inr (.inl hk)), h2, k1⟩, h4, Kp.els k2 (fun k hk => .inr (.inr (.inl hk))) h5, h6, h7, h8.trans (kp_sub k2 fun k hk => .inl hk)⟩
theorem ScW.mono (h : ScW w0 wb bd G N d bj j a n c l nx ep Q w) {N' : Nat} (hN : N ≤ N') : ScW w0 wb bd G N' d bj j a n c l nx ep Q w := by
  obtain ⟨⟨T, h1, h2, h3⟩, h4, h5, h6, h7, h8⟩ := h
  exact ⟨⟨T, h1, h2, h3.mono hN⟩, h4, h5, h6, h7, h8⟩
/-- A sector is read. -/
theorem ScW.read (h : ScW w0 wb bd G N d bj j a n c l nx ep Q w) (i : Int) (hi : (Lit.int .i64 i).wf = true) (hN : N ≤ 1000000) :
    Calls Try.prog 27 #[.pointer (some ⟨bd, 0, none⟩), .int .i64 i] w fun e w' => e = .returned (.tuple #[.agg (d.readP zP i), .int .i64 (d.reach i)]) ∧ ScW w0 wb bd G (N + 1) (d.readD i) bj j a n c l nx ep Q w' := by
  obtain ⟨T, h1, h2, h3⟩ := h.ex
  refine (read_L h3 i hi hN).mono ?_
  rintro e w' ⟨he, k1, k2⟩
  obtain ⟨_, h4, h5, h6, h7, h8⟩ := h
  exact ⟨he, ⟨T, ji_kp h1 (kp_sub k2 fun k hk => .inr (.inl hk)), h2, k1⟩, h4, Kp.els k2 (fun k hk => .inr (.inr (.inl hk))) h5, h6, h7, h8.trans (kp_sub k2 fun k hk => .inl hk)⟩
/-- How many sectors there are. -/
theorem ScW.size (h : ScW w0 wb bd G N d bj j a n c l nx ep Q w) : Calls Try.prog 26 #[.pointer (some ⟨bd, 0, none⟩)] w fun e w' => e = .returned (.int .i64 d.size) ∧ w' = w := by
  obtain ⟨T, h1, h2, h3⟩ := h.ex
  exact size_L h3
theorem ScW.pag (h : ScW w0 wb bd G N d bj j a n c l nx ep Q w) (i : Int) : Pag (d.seen i) := by
  obtain ⟨T, h1, h2, h3⟩ := h.ex
  exact h3.seen i
/-- The caller changes its own blocks, and makes new ones. -/
theorem ScW.own (h : ScW w0 wb bd G N d bj j a n c l nx ep Q w) (hf : Fr Q w w') : ScW w0 wb bd G N d bj j a n c l nx ep (fun k => Q k ∨ (w.heap.size ≤ k ∧ k < w'.heap.size)) w' := by
  obtain ⟨⟨T, h1, h2, h3⟩, h4, h5, h6, h7, h8⟩ := h
  have hT := h3.2.2
  have hs := h8.1
  refine ⟨⟨T, h1.fr hf fun k hk => (h2 k hk).2.1, fun k hk => ⟨(h2 k hk).1, fun hq => ?_, (h2 k hk).2.2⟩, ?_⟩, h4, h5.keep fun k hk => hf.block k (h5.block k hk).2 fun hq => (h6 k hq).2 hk, fun k hk => ?_, h7, ?_⟩
  · rcases hq with hq | hq
    · exact (h2 k hk).2.1 hq
    · have := (hT k (.inr (.inl hk))).2; omega
  · refine (h3.own (hf.mono fun k _ hk => .inr (.inr (.inr hk)))).sub fun k hk => ?_
    rcases hk with hk | hk | hk | hk | hk
    · exact .inl (.inl hk)
    · exact .inl (.inr (.inl hk))
    · exact .inl (.inr (.inr (.inl hk)))
    · exact .inl (.inr (.inr (.inr hk)))
    · exact .inr hk
  · rcases hk with hk | hk
    · exact h6 k hk
    · exact ⟨by omega, fun ho => by have := (h5.block k ho).2; omega⟩
  · exact ⟨Nat.le_trans h8.1 hf.size, fun k hk => (hf.block k (by have := h7 k hk; omega) fun hq => by have := (h6 k hq).1; have := h7 k hk; omega).trans (h8.2 k hk)⟩
theorem ScW.sub {Q' : Nat → Prop} (h : ScW w0 wb bd G N d bj j a n c l nx ep Q w) (hQ : ∀ k, Q' k → Q k) : ScW w0 wb bd G N d bj j a n c l nx ep Q' w := by
  obtain ⟨⟨T, h1, h2, h3⟩, h4, h5, h6, h7, h8⟩ := h
  exact ⟨⟨T, h1, fun k hk => ⟨(h2 k hk).1, fun hq => (h2 k hk).2.1 (hQ k hq), (h2 k hk).2.2⟩, h3.sub fun k hk => hk.imp id (Or.imp id (Or.imp id (hQ k)))⟩, h4, h5, fun k hk => h6 k (hQ k hk), h7, h8⟩
theorem ScW.next (h : ScW w0 wb bd G N d bj j a n c l nx ep Q w) (hb : Below w.heap.size w w') : ScW w0 wb bd G N d bj j a n c l nx ep Q w' := (h.own (.of_below hb)).sub fun k hk => .inl hk
theorem ScW.alloc (h : ScW w0 wb bd G N d bj j a n c l nx ep Q w) (o : Obj) : ScW w0 wb bd G N d bj j a n c l nx ep (Plus Q w.heap.size) (w.alloc o) :=
  (h.own ((Fr.refl Q w).alloc o)).sub fun k (hk : Q k ∨ k = w.heap.size) => hk.imp id fun e => by subst e; rw [World.size_alloc]; omega
/-- A page is taken. -/
theorem ScW.take (h : ScW w0 wb bd G N d bj j a n c l nx ep Q w) (p : Pv) (hd : p.d.length ≤ maxLen) :
    Calls Try.prog 44 #[.pointer (some ⟨bj, 0, none⟩), .agg (pgV p)] w fun en w' => en = .returned (.tuple #[.string (tx (told j p)), .bool (ended j p), .int .i64 (terr j p : Nat)]) ∧ ScW w0 wb bd G N d bj (jt j p) a n c l nx ep Q w' ∧ Kp Q w w' := by
  obtain ⟨⟨T, h1, h2, h3⟩, h4, h5, h6, h7, h8⟩ := h
  refine (take_any h1 p hd).mono ?_
  rintro en w' ⟨he, hf, T', k1, k2⟩
  have hT := h3.2.2
  have hT' := k1.own.2
  have hs := h8.1
  refine ⟨he, ⟨⟨T', k1, fun k hk => ?_, ?_⟩, h4, h5.keep fun k hk => hf.block k (h5.block k hk).2 fun ht => (h2 k ht).2.2 hk, h6, h7, ?_⟩, hf.size, fun k hk => hf.block k (hT k (.inr (.inr (.inr hk)))).2 fun ht => (h2 k ht).2.1 hk⟩
  · rcases k2 k hk with hx | hx
    · exact h2 k hx
    · exact ⟨by omega, fun hq => by have := (hT k (.inr (.inr (.inr hq)))).2; omega, fun ho => by have := (h5.block k ho).2; omega⟩
  · refine (h3.own (hf.mono fun k _ hk => .inr (.inl hk))).sub fun k hk => ?_
    rcases hk with hk | hk | hk | hk
    · exact .inl (.inl hk)
    · rcases k2 k hk with hx | hx
      · exact .inl (.inr (.inl hx))
      · exact .inr ⟨hx, hT' k hk⟩
    · exact .inl (.inr (.inr (.inl hk)))
    · exact .inl (.inr (.inr (.inr hk)))
  · exact ⟨Nat.le_trans h8.1 hf.size, fun k hk => (hf.block k (by have := h7 k hk; omega) fun ht => by have := (h2 k ht).1; have := h7 k hk; omega).trans (h8.2 k hk)⟩
/-- Whether a record is begun. -/
theorem ScW.begun (h : ScW w0 wb bd G N d bj j a n c l nx ep Q w) :
    Calls Try.prog 45 #[.pointer (some ⟨bj, 0, none⟩)] w fun en w' => en = .returned (.bool j.isSome) ∧ w' = w := by
  obtain ⟨T, h1, _⟩ := h.ex
  exact begun_any h1
/-- The fields. -/
theorem ScW.flds (h : ScW w0 wb bd G N d bj j a n c l nx ep Q w) : (w.cell? ⟨bj, 2, none⟩ = some (.slice a n c) ∧ w.cell? ⟨bj, 3, none⟩ = some (.int .i64 (nx : Nat)) ∧ w.cell? ⟨bj, 4, none⟩ = some (.int .u32 (ep : Nat))) ∧ ∀ k, w.frozen? ⟨bj, k, none⟩ = false := by
  obtain ⟨T, h1, _⟩ := h.ex
  exact h1.flds
theorem ScW.lt (h : ScW w0 wb bd G N d bj j a n c l nx ep Q w) : bj < w.heap.size ∧ wb.heap.size ≤ bj ∧ ¬ Q bj ∧ ¬ OwnR a n c bj := by
  obtain ⟨T, h1, h2, _⟩ := h.ex
  exact ⟨h1.own.2 _ h1.own.1, h2 _ h1.own.1⟩
/-- One of its own fields changes. -/
theorem ScW.fld (h : ScW w0 wb bd G N d bj j a n c l nx ep Q w) {nx' ep' k : Nat} {v : Value}
    (hj : ∀ T, JI w bj T (.slice a n c) (.int .i64 (nx : Nat)) (.int .u32 (ep : Nat)) j → JI (w.setCell ⟨bj, k, none⟩ v) bj T (.slice a n c) (.int .i64 (nx' : Nat)) (.int .u32 (ep' : Nat)) j) :
    ScW w0 wb bd G N d bj j a n c l nx' ep' Q (w.setCell ⟨bj, k, none⟩ v) ∧ Kp Q w (w.setCell ⟨bj, k, none⟩ v) := by
  have hlt := h.lt
  obtain ⟨⟨T, h1, h2, h3⟩, h4, h5, h6, h7, h8⟩ := h
  have hTb := h1.own.1
  have hf : Fr T w (w.setCell ⟨bj, k, none⟩ v) := (Fr.refl _ _).setCell (.inl hTb) v
  have hQ := h3.2.2
  refine ⟨⟨⟨T, hj T h1, h2, (h3.own (hf.mono fun k _ hk => .inr (.inl hk))).sub fun k hk => .inl hk⟩, h4, h5.keep fun k hk => hf.block k (h5.block k hk).2 fun ht => (h2 k ht).2.2 hk, h6, h7, ?_⟩, hf.size, fun k hk => hf.block k (hQ k (.inr (.inr (.inr hk)))).2 fun ht => (h2 k ht).2.1 hk⟩
  exact ⟨Nat.le_trans h8.1 hf.size, fun k hk => (hf.block k (by have := h7 k hk; omega) fun ht => by have := (h2 k ht).1; have := h7 k hk; omega).trans (h8.2 k hk)⟩
theorem ScW.nxt (h : ScW w0 wb bd G N d bj j a n c l nx ep Q w) (m : Nat) : ScW w0 wb bd G N d bj j a n c l m ep Q (w.setCell ⟨bj, 3, none⟩ (.int .i64 (m : Nat))) ∧ Kp Q w (w.setCell ⟨bj, 3, none⟩ (.int .i64 (m : Nat))) := h.fld fun T hT => hT.fld3 _
theorem ScW.epo (h : ScW w0 wb bd G N d bj j a n c l nx ep Q w) (m : Nat) : ScW w0 wb bd G N d bj j a n c l nx m Q (w.setCell ⟨bj, 4, none⟩ (.int .u32 (m : Nat))) ∧ Kp Q w (w.setCell ⟨bj, 4, none⟩ (.int .u32 (m : Nat))) := h.fld fun T hT => hT.fld4 _
/-- A record more: it is appended, then the field is stored. -/
theorem ScW.append (h : ScW w0 wb bd G N d bj j a n c l nx ep Q w) {w2 : World} {a' : Option Addr} {c' : Nat} {x : Nat × List UInt8} (h4 : Els w2 wb.heap.size 79 2 a' (n + 1) c' (catE (recF l) n fun _ => #[.int .i64 (x.1 : Nat), .string (tx x.2)]))
    (hg : w.grownBy w2 (Value.slice a n c).ownBlock) (hat : (Value.slice a' (n + 1) c').ownBlock = (Value.slice a n c).ownBlock ∨ (Value.slice a' (n + 1) c').ownBlock = some w.heap.size) :
    (w2.cell? ⟨bj, 2, none⟩ = some (.slice a n c) ∧ w2.frozen? ⟨bj, 2, none⟩ = false) ∧ ScW w0 wb bd G N d bj j a' (n + 1) c' (l ++ [x]) nx ep Q (w2.setCell ⟨bj, 2, none⟩ (.slice a' (n + 1) c')) ∧ Kp Q w (w2.setCell ⟨bj, 2, none⟩ (.slice a' (n + 1) c')) := by
  have hlt := h.lt
  obtain ⟨⟨T, g1, g2, g3⟩, g4, g5, g6, g7, g8⟩ := h
  have hT := g3.2.2
  have hTb := g1.own.1
  have hs := g8.1
  have hf : Fr (OwnR a n c) w w2 := (Fr.refl _ _).grown hg fun k hk => .inl hk
  have ho : ∀ k, OwnR a' (n + 1) c' k → OwnR a n c k ∨ k = w.heap.size := fun k hk => by
    rcases hat with e | e
    · exact .inl (e.symm.trans hk)
    · exact .inr (Option.some.inj (hk.symm.trans e))
  have j2 := g1.fr hf fun k hk => (g2 k hk).2.2
  have hnb : ∀ g, (Value.slice a' (n + 1) c').ownBlock = some g → g ≠ bj := fun g hg' e => by
    subst e
    rcases ho _ hg' with hx | hx
    · exact hlt.2.2.2 hx
    · have := hlt.1; omega
  have hf2 : Fr (fun k => T k ∨ OwnR a n c k) w (w2.setCell ⟨bj, 2, none⟩ (.slice a' (n + 1) c')) := (hf.mono fun k _ hk => .inr hk).setCell (.inl (.inl hTb)) _
  refine ⟨⟨j2.flds.1.1, j2.flds.2 2⟩, ⟨⟨T, j2.fld2 _, fun k hk => ⟨(g2 k hk).1, (g2 k hk).2.1, fun hx => ?_⟩, ?_⟩, by rw [List.length_append, g4]; rfl, (h4.setCell _ hnb).ext fun i hi => ?_, fun k hk => ⟨(g6 k hk).1, fun hx => ?_⟩, g7, ?_⟩, hf2.size, fun k hk => hf2.block k (hT k (.inr (.inr (.inr hk)))).2 fun ht => ?_⟩
  · rcases ho k hx with hx | rfl
    · exact (g2 k hk).2.2 hx
    · exact absurd (hT _ (.inr (.inl hk))).2 (Nat.lt_irrefl _)
  · refine (g3.own (hf2.mono fun k _ hk => hk.elim (fun hk => .inr (.inl hk)) fun hk => .inr (.inr (.inl hk)))).sub fun k hk => ?_
    rcases hk with hk | hk | hk | hk
    · exact .inl (.inl hk)
    · exact .inl (.inr (.inl hk))
    · rcases ho k hk with hx | rfl
      · exact .inl (.inr (.inr (.inl hx)))
      · exact .inr ⟨Nat.le_refl _, ((h4.setCell _ hnb).block _ hk).2⟩
    · exact .inl (.inr (.inr (.inr hk)))
  · unfold catE recF
    by_cases hi2 : i < n
    · rw [if_pos hi2, List.getD_eq_getElem?_getD, List.getD_eq_getElem?_getD, List.getElem?_append_left (by rw [g4]; exact hi2)]
    · obtain rfl : i = n := by omega
      rw [if_neg hi2, List.getD_eq_getElem?_getD, List.getElem?_append_right (by rw [g4]; exact Nat.le_refl _), g4, Nat.sub_self]
      rfl
  · rcases ho k hx with hx | rfl
    · exact (g6 k hk).2 hx
    · exact absurd (hT _ (.inr (.inr (.inr hk)))).2 (Nat.lt_irrefl _)
  · exact ⟨Nat.le_trans g8.1 hf2.size, fun k hk => (hf2.block k (by have := g7 k hk; omega) fun ht => by
      have hk2 := g7 k hk
      rcases ht with ht | ht
      · have := (g2 k ht).1; omega
      · have := (g5.block k ht).1; omega).trans (g8.2 k hk)⟩
  · rcases ht with ht | ht
    · exact (g2 k ht).2.1 hk
    · exact (g6 k hk).2 ht
/-- At the start: nothing is known. -/
theorem ScW.start (hD : DkL w0 bd N d G wb) (hb : Below wb.heap.size wb w) : ScW w0 wb bd G N d w.heap.size none none 0 0 [] 0 0 (fun _ => False) (w.alloc (.cells (cR 0 none 0 0 (.slice none 0 0) (.int .i64 0) (.int .u32 0)) 67)) := by
  have hs := hb.size
  have hG : ∀ k, G k → k < wb.heap.size := fun k hk => (hD.2.2 k hk).2
  have h1 := (hD.own (.of_below hb)).alloc (.cells (cR 0 none 0 0 (.slice none 0 0) (.int .i64 0) (.int .u32 0)) 67)
  refine ⟨⟨Just w.heap.size, JI.zero w, fun k hk => ⟨by rw [show k = _ from hk]; exact hs, fun h => h, fun h => by cases h⟩, h1.sub fun k hk => ?_⟩, rfl, Els.nil _ _ _ _ _, fun _ h => h.elim, hG, ⟨by rw [World.size_alloc]; omega, fun k hk => ?_⟩⟩
  · rcases hk with hk | hk | hk | hk
    · exact .inl (.inl hk)
    · exact .inr hk
    · cases hk
    · exact hk.elim
  · have hk2 := hG k hk
    exact (heap_alloc_old w (.cells (cR 0 none 0 0 (.slice none 0 0) (.int .i64 0) (.int .u32 0)) 67) (by omega)).trans (hb.block k hk2)
/-- At the end: what Scan leaves. -/
theorem ScW.done (h : ScW w0 wb bd G N d bj j a n c l nx ep Q w) : DkL w0 bd N d (fun k => G k ∨ (OwnR a n c k)) w ∧ Kp G wb w ∧ RecsAt wb.heap.size w a n c l (OwnR a n c) := by
  obtain ⟨⟨T, g1, g2, g3⟩, g4, g5, g6, g7, g8⟩ := h
  exact ⟨g3.sub fun k hk => hk.imp id fun h => .inr (.inl h), g8, g4, g5.wide (Nat.zero_le _), fun k hk => hk, fun k hk => (g5.block k hk).1⟩
end
end Go.Proofs.Ytbbeekpndhfpjaa.Sg
end
