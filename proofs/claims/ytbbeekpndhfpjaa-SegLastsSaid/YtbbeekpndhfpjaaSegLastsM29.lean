/- Texts of the walk, one behind the other. -/
import Derived.Test.YtbbeekpndhfpjaaSegLastsM28
import Derived.Test.YtbbeekpndhfpjaaSegLastsM19
import Derived.Test.YtbbeekpndhfpjaaSegLastsM6
import Derived.OwnWalk

section
/- A joiner within the struct of a scan: what stands, and what a call leaves. -/
set_option maxRecDepth 100000
set_option linter.unusedVariables false
set_option linter.unusedSimpArgs false
namespace Go.Proofs.Ytbbeekpndhfpjaa.Fg
open Go.RowKit Go.Proofs.Ytbbeekpndhfpjaa.Row Go.Proofs.Ytbbeekpndhfpjaa.Pa
variable {x y z : Value}

/-- A joiner's memory: its fields at b, its bytes; T: the blocks that it owns. -/
structure JM (w : World) (b : Nat) (T : Nat → Prop) (e : Nat) (a : Option Addr) (n c : Nat) (bs : List UInt8) (x y z : Value) : Prop where
  row : At w b (cR e a n c x y z) 67
  own : OwB w a n c bs
  tb : T b
  blk : ∀ k, (Value.slice a n c).ownBlock = some k → T k ∧ k ≠ b
  lt : ∀ k, T k → k < w.heap.size
section
variable {w w' : World} {b e n c : Nat} {T U : Nat → Prop} {a : Option Addr} {bs : List UInt8}
theorem JM.fr (h : JM w b T e a n c bs x y z) (hf : Fr U w w') (hd : ∀ k, T k → ¬ U k) : JM w' b T e a n c bs x y z :=
  ⟨h.row.fr hf (hd b h.tb), h.own.fr hf fun k hk => hd k (h.blk k hk).1, h.tb, h.blk, fun k hk => Nat.lt_of_lt_of_le (h.lt k hk) hf.size⟩
theorem JM.below (h : JM w b T e a n c bs x y z) (hb : Below w.heap.size w w') : JM w' b T e a n c bs x y z := h.fr (U := fun _ => False) (.of_below hb) fun _ _ h => h
theorem JM.cells (h : JM w b T e a n c bs x y z) : w.cell? ⟨b, 0, none⟩ = some (.int .u32 e) ∧ w.cell? ⟨b, 1, none⟩ = some (.slice a n c) ∧ w.frozen? ⟨b, 0, none⟩ = false ∧ w.frozen? ⟨b, 1, none⟩ = false :=
  ⟨by rw [h.row.cell]; rfl, by rw [h.row.cell]; rfl, h.row.frozen 0, h.row.frozen 1⟩
/-- Another epoch. -/
theorem JM.epoch (h : JM w b T e a n c bs x y z) (e' : Nat) : JM (w.setCell ⟨b, 0, none⟩ (.int .u32 e')) b T e' a n c bs x y z := by
  have hf : Fr (Just b) w (w.setCell ⟨b, 0, none⟩ (.int .u32 (e' : Int))) := (Fr.refl _ _).setCell (.inl (Just.self b)) _
  exact ⟨h.row.setCell, h.own.fr hf fun k hk => (h.blk k hk).2, h.tb, h.blk, fun k hk => Nat.lt_of_lt_of_le (h.lt k hk) hf.size⟩
/-- More bytes. -/
theorem JM.more {w1 : World} {g m c' : Nat} {bs' : List UInt8} (h : JM w b T e a n c bs x y z) (ho : OwB w1 (some ⟨g, 0, none⟩) m c' bs') (hg : w.grownBy w1 (Value.slice a n c).ownBlock) (hw : (Value.slice a n c).ownBlock = some g ∨ w.heap.size ≤ g) :
    At w1 b (cR e a n c x y z) 67 ∧ JM (w1.setCell ⟨b, 1, none⟩ (.slice (some ⟨g, 0, none⟩) m c')) b (fun k => T k ∨ k = g) e (some ⟨g, 0, none⟩) m c' bs' x y z ∧ Fr T w (w1.setCell ⟨b, 1, none⟩ (.slice (some ⟨g, 0, none⟩) m c')) ∧ ∀ k, (T k ∨ k = g) → T k ∨ w.heap.size ≤ k := by
  have hA1 : At w1 b (cR e a n c x y z) 67 := (hg.block b h.row.lt fun e => (h.blk b e.symm).2 rfl).trans h.row
  have hF : Fr T w w1 := (Fr.refl _ _).grown hg fun k hk => .inl (h.blk k hk).1
  have hgb : g ≠ b := by
    rcases hw with hw | hw
    · exact (h.blk g hw).2
    · have := h.row.lt; omega
  have hf : Fr (Just b) w1 (w1.setCell ⟨b, 1, none⟩ (.slice (some ⟨g, 0, none⟩) m c')) := (Fr.refl _ _).setCell (.inl (Just.self b)) _
  refine ⟨hA1, ⟨hA1.setCell, ho.fr hf fun k hk e => ?_, .inl h.tb, fun k hk => ?_, fun k hk => ?_⟩, hF.setCell (.inl h.tb) _, fun k hk => ?_⟩
  · obtain rfl : g = k := by injection hk
    exact hgb e
  · obtain rfl : g = k := by injection hk
    exact ⟨.inr rfl, hgb⟩
  · refine Nat.lt_of_lt_of_le ?_ hf.size
    rcases hk with hk | rfl
    · exact Nat.lt_of_lt_of_le (h.lt k hk) hF.size
    · exact ho.lt _ rfl
  · rcases hk with hk | rfl
    · exact .inl hk
    · rcases hw with hw | hw
      · exact .inl (h.blk _ hw).1
      · exact .inr hw
/-- Dropped. -/
theorem JM.drop (h : JM w b T e a n c bs x y z) : JM (w.setRow b (cR 0 none 0 0 x y z)) b T 0 none 0 0 [] x y z ∧ Fr T w (w.setRow b (cR 0 none 0 0 x y z)) := by
  have hF : Fr T w (w.setRow b (cR 0 none 0 0 x y z)) := (Fr.refl _ _).setRow (.inl h.tb) _
  exact ⟨⟨h.row.setRow, OwB.nil _, h.tb, (fun k hk => by cases hk), fun k hk => Nat.lt_of_lt_of_le (h.lt k hk) hF.size⟩, hF⟩
end

/-- A joiner at b. -/
def JI (w : World) (b : Nat) (T : Nat → Prop) (x y z : Value) : Jn → Prop
  | none => ∃ e a c, JM w b T e a 0 c [] x y z
  | some (e, r) => ∃ a c, JM w b T e a r.length c r x y z ∧ 1 ≤ r.length ∧ r.length ≤ 4096
/-- In either case. -/
theorem JI.mem {w : World} {b : Nat} {T : Nat → Prop} {j : Jn} (h : JI w b T x y z j) : ∃ e a n c bs, JM w b T e a n c bs x y z ∧ bs.length = n ∧ n ≤ 4096 ∧ (j.isSome = decide (0 < n)) ∧ (j = none ∧ n = 0 ∧ bs = [] ∨ j = some (e, bs) ∧ 1 ≤ n) := by
  match j, h with
  | none, ⟨e, a, c, h⟩ => exact ⟨e, a, 0, c, [], h, rfl, by omega, rfl, .inl ⟨rfl, rfl, rfl⟩⟩
  | some (e, r), ⟨a, c, h, h1, h2⟩ => exact ⟨e, a, r.length, c, r, h, rfl, h2, by rw [decide_eq_true (by omega)]; rfl, .inr ⟨rfl, h1⟩⟩
theorem JI.of {w : World} {b e n c : Nat} {T : Nat → Prop} {a : Option Addr} {bs : List UInt8} (h : JM w b T e a n c bs x y z) (h1 : 1 ≤ n) (h2 : n ≤ 4096) : JI w b T x y z (some (e, bs)) := by
  have hl := h.own.len
  subst hl
  exact ⟨a, c, h, h1, h2⟩
/-- What a call has left of a joiner. -/
def Left (w : World) (b : Nat) (T : Nat → Prop) (x y z : Value) (j : Jn) (w' : World) : Prop := Fr T w w' ∧ ∃ T', JI w' b T' x y z j ∧ ∀ k, T' k → T k ∨ w.heap.size ≤ k
theorem JI.fr {w w' : World} {b : Nat} {T U : Nat → Prop} {j : Jn} (h : JI w b T x y z j) (hf : Fr U w w') (hd : ∀ k, T k → ¬ U k) : JI w' b T x y z j := by
  match j, h with
  | none, ⟨e, a, c, h⟩ => exact ⟨e, a, c, h.fr hf hd⟩
  | some (e, r), ⟨a, c, h, h1, h2⟩ => exact ⟨a, c, h.fr hf hd, h1, h2⟩
theorem Left.same {w w' : World} {b : Nat} {T : Nat → Prop} {j : Jn} (h : JI w b T x y z j) (hb : Below w.heap.size w w') : Left w b T x y z j w' :=
  ⟨.of_below hb, T, h.fr (U := fun _ => False) (.of_below hb) fun _ _ h => h, fun k hk => .inl hk⟩

theorem fld_j0 : FldO 65 0 0 := fldO Try.underlying65 rfl rfl (s := 1) (by kernel_rfl) (by omega)
theorem fld_j1 : FldO 65 1 1 := fldO Try.underlying65 rfl rfl (s := 1) (by kernel_rfl) (by omega)

theorem right_no {p : Pv} {w : World} (hd : p.d.length ≤ maxLen) (hr : ¬ p.right) : Calls Try.prog 52 #[.agg (pgV p)] w fun e w' => e = .returned (.bool false) ∧ Below w.heap.size w w' := by
  have := right_any p w hd
  rwa [decide_eq_false hr] at this
theorem right_yes {p : Pv} {w : World} (hd : p.d.length ≤ maxLen) (hr : p.right) : Calls Try.prog 52 #[.agg (pgV p)] w fun e w' => e = .returned (.bool true) ∧ Below w.heap.size w w' := by
  have := right_any p w hd
  rwa [decide_eq_true hr] at this

/-- A page that isn't right. -/
theorem take_wrong {w : World} {b : Nat} {T : Nat → Prop} {j : Jn} (h : JI w b T x y z j) (p : Pv) (hd : p.d.length ≤ maxLen) (hr : ¬ p.right) :
    Calls Try.prog 44 #[.pointer (some ⟨b, 0, none⟩), .agg (pgV p)] w fun en w' => en = .returned (.tuple #[.string ⟨#[]⟩, .bool false, .int .i64 1]) ∧ Left w b T x y z j w' := by
  have hA := At.new w (pgV p) 73
  have HR := Lib.hid (right_no (w := w.alloc (.cells (pgV p) 73)) hd hr)
  have HA := Lib.hid hA
  have H := Lib.hid h
  clear h hA hr
  go_enter Try.func44, Try.ntmps44
  go_wp2_with (refine wpList_load_w rfl 73 _ rfl _ rfl HA.out Try.underlying73 rfl (info_pg rfl) ?_)
  refine HR.out.mono ?_
  rintro en w1 ⟨rfl, hb⟩
  have HL := Lib.hid (Left.same H.out ((((Below.refl w.heap.size w).alloc (Nat.le_refl _) (.cells (pgV p) 73))).trans (hb.mono (by simp))))
  clear hb
  go_wp2
  exact bodyPost_ret (results_tmp3 rfl _ _ _) rfl ⟨rfl, HL.out⟩

/-- A head. -/
theorem take_head {w : World} {b : Nat} {T : Nat → Prop} {j : Jn} (h : JI w b T x y z j) (p : Pv) (hr : p.right) (hk : p.k = 1) :
    Calls Try.prog 44 #[.pointer (some ⟨b, 0, none⟩), .agg (pgV p)] w fun en w' => en = .returned (.tuple #[.string ⟨#[]⟩, .bool false, .int .i64 0]) ∧ Left w b T x y z j w' := by
  have hA := At.new w (pgV p) 73
  have HR := Lib.hid (right_yes (w := w.alloc (.cells (pgV p) 73)) (by have := hr.2.1; unfold maxLen; omega) hr)
  have HA := Lib.hid hA
  have H := Lib.hid h
  clear h hA hr
  go_enter Try.func44, Try.ntmps44
  go_wp2_with (refine wpList_load_w rfl 73 _ rfl _ rfl HA.out Try.underlying73 rfl (info_pg rfl) ?_)
  refine HR.out.mono ?_
  rintro en w1 ⟨rfl, hb⟩
  have HL := Lib.hid (Left.same H.out ((((Below.refl w.heap.size w).alloc (Nat.le_refl _) (.cells (pgV p) 73))).trans (hb.mono (by simp))))
  have hA1 := HA.out.below hb HA.out.lt
  have c2 : w1.cell? ⟨w.heap.size, 2, none⟩ = some (.int .i64 1) := by rw [hA1.cell, ← hk]; rfl
  clear hb hA1
  go_wp2
  exact bodyPost_ret (results_tmp3 rfl _ _ _) rfl ⟨rfl, HL.out⟩

/-- What is refused. -/
theorem take_bad {w : World} {b e n c : Nat} {a : Option Addr} {bs : List UInt8} {T : Nat → Prop} (h : JM w b T e a n c bs x y z) (p : Pv) (hr : p.right) (hk : p.k ≠ 1)
    (hf : ∀ w1, Below w.heap.size w w1 → Calls Try.prog 55 #[.pointer (some ⟨b, 0, none⟩), .agg (pgV p)] w1 fun en w' => en = .returned (.bool false) ∧ Below w1.heap.size w1 w') :
    Calls Try.prog 44 #[.pointer (some ⟨b, 0, none⟩), .agg (pgV p)] w fun en w' => en = .returned (.tuple #[.string ⟨#[]⟩, .bool false, .int .i64 4]) ∧ Left w b T x y z none w' := by
  have hA := At.new w (pgV p) 73
  have HR := Lib.hid (right_yes (w := w.alloc (.cells (pgV p) 73)) (by have := hr.2.1; unfold maxLen; omega) hr)
  have HA := Lib.hid hA
  have H := Lib.hid h
  have HF := Lib.hid hf
  obtain ⟨k, hkk⟩ : ∃ k, p.k = k := ⟨_, rfl⟩
  rw [hkk] at hk
  have HK := Lib.hid hkk
  have dk : (k == 1) = false := by rw [beq_eq_false_iff_ne]; exact hk
  clear h hA hr hf hkk hk
  go_enter Try.func44, Try.ntmps44
  go_wp2_with (refine wpList_load_w rfl 73 _ rfl _ rfl HA.out Try.underlying73 rfl (info_pg rfl) ?_)
  refine HR.out.mono ?_
  rintro en w1 ⟨rfl, hb⟩
  have HB1 := Lib.hid ((((Below.refl w.heap.size w).alloc (Nat.le_refl _) (.cells (pgV p) 73))).trans (hb.mono (by simp)))
  have hA1 := HA.out.below hb HA.out.lt
  have HA1 := Lib.hid hA1
  have c2 : w1.cell? ⟨w.heap.size, 2, none⟩ = some (.int .i64 k) := by rw [hA1.cell, ← HK.out]; rfl
  clear hb hA1
  go_wp2_with (refine wpList_load_w rfl 73 _ rfl _ rfl HA1.out Try.underlying73 rfl (info_pg rfl) ?_)
  refine (HF.out _ HB1.out).mono ?_
  rintro en w2 ⟨rfl, hb2⟩
  have hB2 := below_trans HB1.out hb2 HB1.out.size
  have hJ := H.out.below hB2
  have HD := Lib.hid (drop_as hJ.row)
  have hdr := hJ.drop
  have HL := Lib.hid (show Left w b T x y z none (w2.setRow b (cR 0 none 0 0 x y z)) from ⟨(Fr.of_below hB2).same hdr.2, T, ⟨0, none, 0, hdr.1⟩, fun k hk => .inl hk⟩)
  clear hb2 hB2 hJ hdr c2
  go_wp2_with fail
  refine HD.out.mono ?_
  rintro en w3 ⟨rfl, rfl⟩
  go_wp2
  exact bodyPost_ret (results_tmp3 rfl _ _ _) rfl ⟨rfl, HL.out⟩
end Go.Proofs.Ytbbeekpndhfpjaa.Fg
end

section
/- Contract of frag's Take: what fits. -/
set_option maxRecDepth 100000
set_option linter.unusedVariables false
set_option linter.unusedSimpArgs false
namespace Go.Proofs.Ytbbeekpndhfpjaa.Fg
open Go.RowKit Go.Proofs.Ytbbeekpndhfpjaa.Row Go.Proofs.Ytbbeekpndhfpjaa.Pa
variable {x y z : Value}

/-- What comes of a page that fits. -/
def Told (w : World) (b : Nat) (T : Nat → Prop) (x y z : Value) (e : Nat) (r : List UInt8) : Bool → Ending → World → Prop
  | true, en, w' => en = .returned (.tuple #[.string ⟨r.toArray⟩, .bool true, .int .i64 0]) ∧ Left w b T x y z none w'
  | false, en, w' => en = .returned (.tuple #[.string ⟨#[]⟩, .bool false, .int .i64 0]) ∧ Left w b T x y z (some (e, r)) w'

set_option maxHeartbeats 2000000 in
theorem take_fit {w : World} {b e n c : Nat} {a : Option Addr} {bs : List UInt8} {T : Nat → Prop} (h : JM w b T e a n c bs x y z) (p : Pv) (hr : p.right) (hk : p.k ≠ 1) (hn : n + p.d.length ≤ 4096)
    (hf : ∀ w1, Below w.heap.size w w1 → Calls Try.prog 55 #[.pointer (some ⟨b, 0, none⟩), .agg (pgV p)] w1 fun en w' => en = .returned (.bool true) ∧ Below w1.heap.size w1 w') :
    Calls Try.prog 44 #[.pointer (some ⟨b, 0, none⟩), .agg (pgV p)] w (Told w b T x y z p.e (bs ++ p.d) p.l) := by
  have hA := At.new w (pgV p) 73
  have HR := Lib.hid (right_yes (w := w.alloc (.cells (pgV p) 73)) (by have := hr.2.1; unfold maxLen; omega) hr)
  have HA := Lib.hid hA
  have H := Lib.hid h
  have HF := Lib.hid hf
  have HD1 := Lib.hid hr.1
  have HN := Lib.hid hn
  obtain ⟨k, hkk⟩ : ∃ k, p.k = k := ⟨_, rfl⟩
  rw [hkk] at hk
  obtain ⟨L, hL⟩ : ∃ L, p.l = L := ⟨_, rfl⟩
  rw [hL]
  obtain ⟨E, hE⟩ : ∃ E, p.e = E := ⟨_, rfl⟩
  rw [hE]
  have HK := Lib.hid (And.intro hkk (And.intro hL hE))
  have dk : (k == 1) = false := by rw [beq_eq_false_iff_ne]; exact hk
  clear h hA hr hf hkk hk hL hE hn
  go_enter Try.func44, Try.ntmps44
  go_wp2_with (refine wpList_load_w rfl 73 _ rfl _ rfl HA.out Try.underlying73 rfl (info_pg rfl) ?_)
  refine HR.out.mono ?_
  rintro en w1 ⟨rfl, hb⟩
  have HB1 := Lib.hid ((((Below.refl w.heap.size w).alloc (Nat.le_refl _) (.cells (pgV p) 73))).trans (hb.mono (by simp)))
  have hA1 := HA.out.below hb HA.out.lt
  have HA1 := Lib.hid hA1
  have c2 : w1.cell? ⟨w.heap.size, 2, none⟩ = some (.int .i64 k) := by rw [hA1.cell, ← HK.out.1]; rfl
  clear hb hA1
  go_wp2_with (refine wpList_load_w rfl 73 _ rfl _ rfl HA1.out Try.underlying73 rfl (info_pg rfl) ?_)
  refine (HF.out _ HB1.out).mono ?_
  rintro en w2 ⟨rfl, hb2⟩
  have hB2 := below_trans HB1.out hb2 HB1.out.size
  have HB2 := Lib.hid hB2
  have hA2 := HA1.out.below hb2 HA1.out.lt
  have HA2 := Lib.hid hA2
  have hJ := H.out.below hB2
  have HJ := Lib.hid hJ
  have p0 : w2.cell? ⟨w.heap.size, 0, none⟩ = some (.int .u32 E) := by rw [hA2.cell, ← HK.out.2.2]; rfl
  obtain ⟨j0, j1, f0, f1⟩ := hJ.cells
  clear hb2 hB2 hA2 hJ c2 j1 f1 HA HA1 HR HF
  go_wp2_with fail
  have hJ3 := HJ.out.epoch E
  have hne : w.heap.size ≠ b := by have := H.out.lt b H.out.tb; omega
  have hA3 : At (w2.setCell ⟨b, 0, none⟩ (.int .u32 E)) w.heap.size (pgV p) 73 := HA2.out.setCell_other hne
  have hF3 : Fr T w (w2.setCell ⟨b, 0, none⟩ (.int .u32 E)) := (Fr.of_below HB2.out).setCell (.inl H.out.tb) _
  generalize w2.setCell ⟨b, 0, none⟩ (.int .u32 (E : Int)) = W3 at hJ3 hA3 hF3 ⊢
  clear p0 j0 f0 HJ HA2 HB2
  have HX3 := Lib.hid (show W3.cell? ⟨b, 1, none⟩ = some (.slice a n c) ∧ W3.cell? ⟨w.heap.size, 5, none⟩ = some (.string ⟨p.d.toArray⟩) from ⟨hJ3.cells.2.1, by rw [hA3.cell]; rfl⟩)
  refine mf_start (fun w' => w'.cell? ⟨b, 1, none⟩ = some (.slice a n c) ∧ w'.cell? ⟨w.heap.size, 5, none⟩ = some (.string ⟨p.d.toArray⟩)) (fun j => j == 10) HX3.out fun hS => ?_
  refine mf_yield (i := 0) (d := 32) (.pointer (some ⟨b, 0, none⟩)) rfl rfl (by kernel_rfl) (by kernel_rfl) (by kernel_rfl) (by kernel_rfl) hS (y_run (by rfl) fun _ => by rfl) ?_
  simp only [Act.put, List.setIfInBounds_toArray, List.set_cons_zero, List.set_cons_succ]
  refine mf_yield (i := 1) (d := 33) (.pointer (some ⟨b, 0, none⟩)) rfl rfl (by kernel_rfl) (by kernel_rfl) (by kernel_rfl) (by kernel_rfl) hS (y_run (by rfl) fun _ => by rfl) ?_
  simp only [Act.put, List.setIfInBounds_toArray, List.set_cons_zero, List.set_cons_succ]
  refine mf_yield (i := 2) (d := 34) (.pointer (some ⟨b, 0, none⟩)) rfl rfl (by kernel_rfl) (by kernel_rfl) (by kernel_rfl) (by kernel_rfl) hS (y_run (by rfl) fun _ => by rfl) ?_
  simp only [Act.put, List.setIfInBounds_toArray, List.set_cons_zero, List.set_cons_succ]
  refine mf_yield (i := 3) (d := 35) (.pointer (some ⟨b, 1, none⟩)) rfl rfl (by kernel_rfl) (by kernel_rfl) (by kernel_rfl) (by kernel_rfl) hS (y_fieldO (by rfl) rfl rfl fld_j1 rfl) ?_
  simp only [Act.put, List.setIfInBounds_toArray, List.set_cons_zero, List.set_cons_succ]
  refine mf_yield (i := 4) (d := 36) (.slice a n c) rfl rfl (by kernel_rfl) (by kernel_rfl) (by kernel_rfl) (by kernel_rfl) hS (y_cell1 (by rfl) rfl rfl Try.underlying52 rfl fun w h => h.1) ?_
  simp only [Act.put, List.setIfInBounds_toArray, List.set_cons_zero, List.set_cons_succ]
  refine mf_yield (i := 5) (d := 37) (.pointer (some ⟨w.heap.size, 5, none⟩)) rfl rfl (by kernel_rfl) (by kernel_rfl) (by kernel_rfl) (by kernel_rfl) hS (y_fieldO (by rfl) rfl rfl (fldp 5 (by omega)) rfl) ?_
  simp only [Act.put, List.setIfInBounds_toArray, List.set_cons_zero, List.set_cons_succ]
  refine mf_yield (i := 6) (d := 38) (.string ⟨p.d.toArray⟩) rfl rfl (by kernel_rfl) (by kernel_rfl) (by kernel_rfl) (by kernel_rfl) hS (y_cell1 (by rfl) rfl rfl Try.underlying9 rfl fun w h => h.2) ?_
  simp only [Act.put, List.setIfInBounds_toArray, List.set_cons_zero, List.set_cons_succ]
  have hJd : JM W3.drew b T E a n c bs x y z := hJ3.below (Below.refl _ _).drew
  refine mf_of (i := 7) rfl (by kernel_rfl) (by rfl) fun Q' hQ => ?_
  refine wpList_append_str Try.underlying52 Try.underlying9 rfl _ _ rfl rfl hJd.own p.d rfl HD1.out (by have := HN.out; omega) ?_
  intro g c' W4 h4 g4 hw
  have hM := hJd.more h4 g4 hw
  have hA4 : At W4 w.heap.size (pgV p) 73 := (g4.block _ hA3.lt fun e => by have := H.out.lt _ (H.out.blk _ e.symm).1; omega).trans hA3
  have HS4 := Lib.hid (show (W4.cell? ⟨b, 1, none⟩ = some (.slice a n c) ∧ W4.cell? ⟨w.heap.size, 5, none⟩ = some (.string ⟨p.d.toArray⟩)) ∧ W4.frozen? ⟨b, 1, none⟩ = false from ⟨⟨by rw [hM.1.cell]; rfl, by rw [hA4.cell]; rfl⟩, hM.1.frozen 1⟩)
  refine hQ _ _ (fun _ => HS4.out.1) ?_
  clear hQ
  clear Q'
  simp only [Act.put, List.setIfInBounds_toArray, List.set_cons_zero, List.set_cons_succ]
  refine mf_one (i := 8) (d := 40) (.pointer (some ⟨b, 0, none⟩)) rfl rfl (by kernel_rfl) HS4.out.1 (y_run (by rfl) fun _ => by rfl) ?_
  simp only [Act.put, List.setIfInBounds_toArray, List.set_cons_zero, List.set_cons_succ]
  refine mf_one (i := 9) (d := 41) (.pointer (some ⟨b, 1, none⟩)) rfl rfl (by kernel_rfl) HS4.out.1 (y_fieldO (by rfl) rfl rfl fld_j1 rfl) ?_
  simp only [Act.put, List.setIfInBounds_toArray, List.set_cons_zero, List.set_cons_succ]
  refine mf_of (i := 10) rfl (by kernel_rfl) (by rfl) fun Q' hQ => ?_
  refine wpList_store1 rfl 52 _ _ rfl (v := .slice (some ⟨g, 0, none⟩) (n + p.d.length) c') rfl rfl (by kernel_rfl) rfl HS4.out.1.1 HS4.out.2 ?_
  refine hQ _ _ (fun h => by cases h) ?_
  clear hQ
  clear Q'
  simp only [Act.put]
  refine mf_done (by kernel_rfl) ?_
  have hA5 : At (W4.setCell ⟨b, 1, none⟩ (.slice (some ⟨g, 0, none⟩) (n + p.d.length) c')) w.heap.size (pgV p) 73 := hA4.setCell_other hne
  obtain ⟨_, hJ5, hF5, hT5⟩ := hM
  generalize W4.setCell ⟨b, 1, none⟩ (.slice (some ⟨g, 0, none⟩) (n + p.d.length) c') = W5 at hA5 hJ5 hF5 ⊢
  have hF : Fr T w W5 := (hF3.drew).same hF5
  have hTT : ∀ k, (T k ∨ k = g) → T k ∨ w.heap.size ≤ k := fun k hk => by
    rcases hT5 k hk with h | h
    · exact .inl h
    · exact .inr (Nat.le_trans hF3.size h)
  have c4 : W5.cell? ⟨w.heap.size, 4, none⟩ = some (.bool L) := by rw [hA5.cell, ← HK.out.2.1]; rfl
  have c1 := hJ5.cells.2.1
  have hcv := hJ5.own.text Try.underlying52 Try.underlying9
  have HF := Lib.hid (And.intro hF hTT)
  have HJ := Lib.hid hJ5
  have HNN := Lib.hid (show 1 ≤ n + p.d.length ∧ n + p.d.length ≤ 4096 from ⟨by have := HD1.out; omega, HN.out⟩)
  clear hF hTT hJ5 hF5 hT5 hA5 hA4 h4 g4 hw HS4 hJd hS hJ3 hA3 hF3 HX3 hne
  generalize n + p.d.length = m at *
  generalize bs ++ p.d = r at *
  cases L with
  | true =>
    have HD := Lib.hid (drop_as HJ.out.row)
    have hdr := HJ.out.drop
    have HL := Lib.hid (show Left w b T x y z none (W5.setRow b (cR 0 none 0 0 x y z)) from ⟨HF.out.1.trans hdr.2 fun i hi ht => by
      rcases ht with h | rfl
      · exact h
      · rcases HF.out.2 _ (.inr rfl) with h | h
        · exact h
        · omega, _, ⟨0, none, 0, hdr.1⟩, HF.out.2⟩)
    clear hdr
    go_wp2_with fail
    refine HD.out.mono ?_
    rintro en w3 ⟨rfl, rfl⟩
    go_wp2
    exact bodyPost_ret (results_tmp3 rfl _ _ _) rfl ⟨rfl, HL.out⟩
  | false =>
    have HL := Lib.hid (show Left w b T x y z (some (E, r)) W5 from ⟨HF.out.1, _, JI.of HJ.out HNN.out.1 HNN.out.2, HF.out.2⟩)
    go_wp2
    exact bodyPost_ret (results_tmp3 rfl _ _ _) rfl ⟨rfl, HL.out⟩
end Go.Proofs.Ytbbeekpndhfpjaa.Fg
end

section
/- The joiner within the struct of a scan: Take, Begun, the other fields. -/
set_option maxRecDepth 100000
set_option linter.unusedVariables false
set_option linter.unusedSimpArgs false
namespace Go.Proofs.Ytbbeekpndhfpjaa.Fg
open Go.RowKit Go.Proofs.Ytbbeekpndhfpjaa.Row Go.Proofs.Ytbbeekpndhfpjaa.Pa
variable {x y z : Value}

theorem wrong_is (j : Jn) {p : Pv} (hr : ¬ p.right) : jt j p = j ∧ told j p = [] ∧ ended j p = false ∧ terr j p = 1 := by
  refine ⟨?_, ?_, ?_, ?_⟩
  · unfold jt; rw [if_pos (.inl hr)]
  · unfold told; rw [if_pos (.inl hr)]
  · unfold ended; rw [decide_eq_false (by simp [hr])]; rfl
  · unfold terr; rw [if_pos hr]
theorem fit_is {j : Jn} {p : Pv} (hr : p.right) (hk : p.k ≠ 1) (h : refused j p = false) : jt j p = (if p.l then none else some (p.e, joined j p)) ∧ told j p = (if p.l then joined j p else []) ∧ ended j p = p.l ∧ terr j p = 0 := by
  refine ⟨?_, ?_, ?_, ?_⟩
  · unfold jt; rw [if_neg (by simp [hr, hk]), if_neg (by simp [h])]
  · unfold told
    cases hl : p.l
    · rw [if_pos (by simp)]; rfl
    · rw [if_neg (by simp [hr, hk, h])]; rfl
  · unfold ended; rw [decide_eq_true ⟨hr, hk⟩, h]; simp
  · unfold terr; rw [if_neg (by simp [hr]), if_neg hk, if_neg (by simp [h])]

theorem refused_some {e n : Nat} {bs : List UInt8} (hl : bs.length = n) (p : Pv) : refused (some (e, bs)) p = (p.f || decide (p.e ≠ e) || decide (4096 < n + p.d.length)) := by subst hl; rfl
theorem take_any {w : World} {b : Nat} {T : Nat → Prop} {j : Jn} (h : JI w b T x y z j) (p : Pv) (hd : p.d.length ≤ maxLen) :
    Calls Try.prog 44 #[.pointer (some ⟨b, 0, none⟩), .agg (pgV p)] w fun en w' => en = .returned (.tuple #[.string (tx (told j p)), .bool (ended j p), .int .i64 (terr j p : Nat)]) ∧ Left w b T x y z (jt j p) w' := by
  by_cases hr : p.right
  · by_cases hk : p.k = 1
    · obtain ⟨e1, e2, e3, e4⟩ := jt_head j hr hk
      rw [e1, e2, e3, e4]
      exact take_head h p hr hk
    · obtain ⟨e, a, n, c, bs, hJ, hl, hn, _, hj⟩ := h.mem
      have hfit : ∀ w1, Below w.heap.size w w1 → Calls Try.prog 55 #[.pointer (some ⟨b, 0, none⟩), .agg (pgV p)] w1 fun en w' => en = .returned (.bool (!refused j p)) ∧ Below w1.heap.size w1 w' := by
        intro w1 hb
        have hJ1 := hJ.below hb
        rcases hj with ⟨rfl, rfl, rfl⟩ | ⟨rfl, hn1⟩
        · have := fits_none hJ1.row p
          rwa [show p.f = !refused none p by unfold refused; simp] at this
        · have h2 := fits_some hJ1.row hn1 hn p hr.2.1
          have e2 : (!p.f && decide (p.e = e) && decide (n + p.d.length ≤ 4096)) = !refused (some (e, bs)) p := by
            rw [refused_some hl]
            have e3 : decide (4096 < n + p.d.length) = !decide (n + p.d.length ≤ 4096) := by
              by_cases c : n + p.d.length ≤ 4096
              · rw [decide_eq_true c, decide_eq_false (by omega)]; rfl
              · rw [decide_eq_false c, decide_eq_true (by omega)]; rfl
            have e4 : decide (p.e ≠ e) = !decide (p.e = e) := by
              by_cases c : p.e = e
              · rw [decide_eq_true c, decide_eq_false (by simp [c])]; rfl
              · rw [decide_eq_false c, decide_eq_true c]; rfl
            rw [e3, e4]
            cases p.f <;> cases decide (p.e = e) <;> cases decide (n + p.d.length ≤ 4096) <;> rfl
          rwa [e2] at h2
      cases hrf : refused j p with
      | true =>
        obtain ⟨e1, e2, e3, e4⟩ := jt_bad hr hk hrf
        rw [e1, e2, e3, e4]
        rw [hrf] at hfit
        exact take_bad hJ p hr hk hfit
      | false =>
        obtain ⟨e1, e2, e3, e4⟩ := fit_is hr hk hrf
        rw [e1, e2, e3, e4]
        have hb : joined j p = bs ++ p.d := by
          rcases hj with ⟨rfl, rfl, rfl⟩ | ⟨rfl, hn1⟩
          · rfl
          · rfl
        have hlen : n + p.d.length ≤ 4096 := by
          rcases hj with ⟨rfl, rfl, rfl⟩ | ⟨rfl, hn1⟩
          · have := hr.2.1; omega
          · rw [refused_some hl] at hrf
            simp only [Bool.or_eq_false_iff, decide_eq_false_iff_not] at hrf
            omega
        rw [hrf] at hfit
        refine (take_fit hJ p hr hk hlen hfit).mono fun en w' ht => ?_
        rw [hb]
        cases hpl : p.l with
        | true => rw [hpl] at ht; exact ht
        | false => rw [hpl] at ht; exact ht
  · obtain ⟨e1, e2, e3, e4⟩ := wrong_is j hr
    rw [e1, e2, e3, e4]
    exact take_wrong h p hd hr

theorem begun_any {w : World} {b : Nat} {T : Nat → Prop} {j : Jn} (h : JI w b T x y z j) :
    Calls Try.prog 45 #[.pointer (some ⟨b, 0, none⟩)] w fun en w' => en = .returned (.bool j.isSome) ∧ w' = w := by
  obtain ⟨e, a, n, c, bs, hJ, _, _, hs, _⟩ := h.mem
  exact (begun_as hJ.row).mono fun en w' ⟨e1, e2⟩ => ⟨by rw [e1, hs], e2⟩
theorem JI.own {w : World} {b : Nat} {T : Nat → Prop} {j : Jn} (h : JI w b T x y z j) : T b ∧ ∀ k, T k → k < w.heap.size := by
  obtain ⟨e, a, n, c, bs, hJ, _⟩ := h.mem
  exact ⟨hJ.tb, hJ.lt⟩
/-- The three other fields. -/
theorem JI.flds {w : World} {b : Nat} {T : Nat → Prop} {j : Jn} (h : JI w b T x y z j) : (w.cell? ⟨b, 2, none⟩ = some x ∧ w.cell? ⟨b, 3, none⟩ = some y ∧ w.cell? ⟨b, 4, none⟩ = some z) ∧ ∀ k, w.frozen? ⟨b, k, none⟩ = false := by
  obtain ⟨e, a, n, c, bs, hJ, _⟩ := h.mem
  exact ⟨⟨by rw [hJ.row.cell]; rfl, by rw [hJ.row.cell]; rfl, by rw [hJ.row.cell]; rfl⟩, fun k => hJ.row.frozen k⟩
theorem jm_fld {w w' : World} {b e n c : Nat} {T : Nat → Prop} {a : Option Addr} {bs : List UInt8} {x' y' z' : Value} (h : JM w b T e a n c bs x y z) (hf : Fr (Just b) w w') (hr : At w' b (cR e a n c x' y' z') 67) : JM w' b T e a n c bs x' y' z' :=
  ⟨hr, h.own.fr hf fun k hk => (h.blk k hk).2, h.tb, h.blk, fun k hk => Nat.lt_of_lt_of_le (h.lt k hk) hf.size⟩
theorem JI.fld2 {w : World} {b : Nat} {T : Nat → Prop} {j : Jn} (h : JI w b T x y z j) (v : Value) : JI (w.setCell ⟨b, 2, none⟩ v) b T v y z j := by
  have hf : Fr (Just b) w (w.setCell ⟨b, 2, none⟩ v) := (Fr.refl _ _).setCell (.inl (Just.self b)) _
  match j, h with
  | none, ⟨e, a, c, h⟩ => exact ⟨e, a, c, jm_fld h hf h.row.setCell⟩
  | some (e, r), ⟨a, c, h, h1, h2⟩ => exact ⟨a, c, jm_fld h hf h.row.setCell, h1, h2⟩
theorem JI.fld3 {w : World} {b : Nat} {T : Nat → Prop} {j : Jn} (h : JI w b T x y z j) (v : Value) : JI (w.setCell ⟨b, 3, none⟩ v) b T x v z j := by
  have hf : Fr (Just b) w (w.setCell ⟨b, 3, none⟩ v) := (Fr.refl _ _).setCell (.inl (Just.self b)) _
  match j, h with
  | none, ⟨e, a, c, h⟩ => exact ⟨e, a, c, jm_fld h hf h.row.setCell⟩
  | some (e, r), ⟨a, c, h, h1, h2⟩ => exact ⟨a, c, jm_fld h hf h.row.setCell, h1, h2⟩
theorem JI.fld4 {w : World} {b : Nat} {T : Nat → Prop} {j : Jn} (h : JI w b T x y z j) (v : Value) : JI (w.setCell ⟨b, 4, none⟩ v) b T x y v j := by
  have hf : Fr (Just b) w (w.setCell ⟨b, 4, none⟩ v) := (Fr.refl _ _).setCell (.inl (Just.self b)) _
  match j, h with
  | none, ⟨e, a, c, h⟩ => exact ⟨e, a, c, jm_fld h hf h.row.setCell⟩
  | some (e, r), ⟨a, c, h, h1, h2⟩ => exact ⟨a, c, jm_fld h hf h.row.setCell, h1, h2⟩
/-- A new one. -/
theorem JI.zero (w : World) : JI (w.alloc (.cells (cR 0 none 0 0 (.slice none 0 0) (.int .i64 0) (.int .u32 0)) 67)) w.heap.size (Just w.heap.size) (.slice none 0 0) (.int .i64 0) (.int .u32 0) none :=
  ⟨0, none, 0, At.new w _ _, OwB.nil _, rfl, (fun k hk => by cases hk), fun k hk => by rw [hk, World.size_alloc]; omega⟩
end Go.Proofs.Ytbbeekpndhfpjaa.Fg
end
