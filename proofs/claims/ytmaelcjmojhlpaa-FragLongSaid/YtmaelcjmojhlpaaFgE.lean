/- A joiner in memory: what stands, and what a call leaves. -/
import Derived.Test.YtmaelcjmojhlpaaFgD
import Derived.Test.YtmaelcjmojhlpaaPaRt
import Derived.Test.YtmaelcjmojhlpaaAfOf
import Derived.Test.YtmaelcjmojhlpaaRowMvY
import Derived.OwnWalk
set_option maxRecDepth 100000
set_option linter.unusedVariables false
set_option linter.unusedSimpArgs false
namespace Go.Proofs.Ytmaelcjmojhlpaa.Fg
open Go.RowKit Go.Proofs.Ytmaelcjmojhlpaa.Row Go.Proofs.Ytmaelcjmojhlpaa.Pa

/-- A joiner's memory: its fields at b, its bytes; T: the blocks that it owns. -/
structure JM (w : World) (b : Nat) (T : Nat → Prop) (e : Nat) (a : Option Addr) (n c : Nat) (bs : List UInt8) : Prop where
  row : At w b (jR e a n c) 32
  own : OwB w a n c bs
  tb : T b
  blk : ∀ k, (Value.slice a n c).ownBlock = some k → T k ∧ k ≠ b
  lt : ∀ k, T k → k < w.heap.size
section
variable {w w' : World} {b e n c : Nat} {T U : Nat → Prop} {a : Option Addr} {bs : List UInt8}
theorem JM.fr (h : JM w b T e a n c bs) (hf : Fr U w w') (hd : ∀ k, T k → ¬ U k) : JM w' b T e a n c bs :=
  ⟨h.row.fr hf (hd b h.tb), h.own.fr hf fun k hk => hd k (h.blk k hk).1, h.tb, h.blk, fun k hk => Nat.lt_of_lt_of_le (h.lt k hk) hf.size⟩
theorem JM.below (h : JM w b T e a n c bs) (hb : Below w.heap.size w w') : JM w' b T e a n c bs := h.fr (U := fun _ => False) (.of_below hb) fun _ _ h => h
theorem JM.cells (h : JM w b T e a n c bs) : w.cell? ⟨b, 0, none⟩ = some (.int .u32 e) ∧ w.cell? ⟨b, 1, none⟩ = some (.slice a n c) ∧ w.frozen? ⟨b, 0, none⟩ = false ∧ w.frozen? ⟨b, 1, none⟩ = false :=
  ⟨by rw [h.row.cell]; rfl, by rw [h.row.cell]; rfl, h.row.frozen 0, h.row.frozen 1⟩
/-- Another epoch. -/
theorem JM.epoch (h : JM w b T e a n c bs) (e' : Nat) : JM (w.setCell ⟨b, 0, none⟩ (.int .u32 e')) b T e' a n c bs := by
  have hf : Fr (Just b) w (w.setCell ⟨b, 0, none⟩ (.int .u32 (e' : Int))) := (Fr.refl _ _).setCell (.inl (Just.self b)) _
  exact ⟨h.row.setCell, h.own.fr hf fun k hk => (h.blk k hk).2, h.tb, h.blk, fun k hk => Nat.lt_of_lt_of_le (h.lt k hk) hf.size⟩
/-- More bytes. -/
theorem JM.more {w1 : World} {g m c' : Nat} {bs' : List UInt8} (h : JM w b T e a n c bs) (ho : OwB w1 (some ⟨g, 0, none⟩) m c' bs') (hg : w.grownBy w1 (Value.slice a n c).ownBlock) (hw : (Value.slice a n c).ownBlock = some g ∨ w.heap.size ≤ g) :
    At w1 b (jR e a n c) 32 ∧ JM (w1.setCell ⟨b, 1, none⟩ (.slice (some ⟨g, 0, none⟩) m c')) b (fun k => T k ∨ k = g) e (some ⟨g, 0, none⟩) m c' bs' ∧ Fr T w (w1.setCell ⟨b, 1, none⟩ (.slice (some ⟨g, 0, none⟩) m c')) ∧ ∀ k, (T k ∨ k = g) → T k ∨ w.heap.size ≤ k := by
  have hA1 : At w1 b (jR e a n c) 32 := (hg.block b h.row.lt fun e => (h.blk b e.symm).2 rfl).trans h.row
  have hF : Fr T w w1 := (Fr.refl _ _).grown hg fun k hk => .inl (h.blk k hk).1
  have hgb : g ≠ b := by
    rcases hw with hw | hw
    · exact (h.blk g hw).2
    · have := h.row.lt; omega
  have hf : Fr (Just b) w1 (w1.setCell ⟨b, 1, none⟩ (.slice (some ⟨g, 0, none⟩) m c')) := (Fr.refl _ _).setCell (.inl (Just.self b)) _
  refine ⟨hA1, ⟨hA1.setCell, ho.fr hf fun k hk e => ?_, .inl h.tb, fun k hk => ?_, fun k hk => ?_⟩, hF.setCell (.inl h.tb) _, fun k hk => ?_⟩
  · obtain rfl : g = k := by injection hk
    exact hgb e
  · obtain rfl : g = k := by injection hk
    exact ⟨.inr rfl, hgb⟩
  · refine Nat.lt_of_lt_of_le ?_ hf.size
    rcases hk with hk | rfl
    · exact Nat.lt_of_lt_of_le (h.lt k hk) hF.size
    · exact ho.lt _ rfl
  · rcases hk with hk | rfl
    · exact .inl hk
    · rcases hw with hw | hw
      · exact .inl (h.blk _ hw).1
      · exact .inr hw
/-- Dropped. -/
theorem JM.drop (h : JM w b T e a n c bs) : JM (w.setRow b (jR 0 none 0 0)) b T 0 none 0 0 [] ∧ Fr T w (w.setRow b (jR 0 none 0 0)) := by
  have hF : Fr T w (w.setRow b (jR 0 none 0 0)) := (Fr.refl _ _).setRow (.inl h.tb) _
  exact ⟨⟨h.row.setRow, OwB.nil _, h.tb, (fun k hk => by cases hk), fun k hk => Nat.lt_of_lt_of_le (h.lt k hk) hF.size⟩, hF⟩
end

/-- A joiner at b. -/
def JI (w : World) (b : Nat) (T : Nat → Prop) : Jn → Prop
  | none => ∃ e a c, JM w b T e a 0 c []
  | some (e, r) => ∃ a c, JM w b T e a r.length c r ∧ 1 ≤ r.length ∧ r.length ≤ 4096
/-- In either case. -/
theorem JI.mem {w : World} {b : Nat} {T : Nat → Prop} {j : Jn} (h : JI w b T j) : ∃ e a n c bs, JM w b T e a n c bs ∧ bs.length = n ∧ n ≤ 4096 ∧ (j.isSome = decide (0 < n)) ∧ (j = none ∧ n = 0 ∧ bs = [] ∨ j = some (e, bs) ∧ 1 ≤ n) := by
  match j, h with
  | none, ⟨e, a, c, h⟩ => exact ⟨e, a, 0, c, [], h, rfl, by omega, rfl, .inl ⟨rfl, rfl, rfl⟩⟩
  | some (e, r), ⟨a, c, h, h1, h2⟩ => exact ⟨e, a, r.length, c, r, h, rfl, h2, by rw [decide_eq_true (by omega)]; rfl, .inr ⟨rfl, h1⟩⟩
theorem JI.of {w : World} {b e n c : Nat} {T : Nat → Prop} {a : Option Addr} {bs : List UInt8} (h : JM w b T e a n c bs) (h1 : 1 ≤ n) (h2 : n ≤ 4096) : JI w b T (some (e, bs)) := by
  have hl := h.own.len
  subst hl
  exact ⟨a, c, h, h1, h2⟩
/-- What a call has left of a joiner. -/
def Left (w : World) (b : Nat) (T : Nat → Prop) (j : Jn) (w' : World) : Prop := Fr T w w' ∧ ∃ T', JI w' b T' j ∧ ∀ k, T' k → T k ∨ w.heap.size ≤ k
theorem JI.fr {w w' : World} {b : Nat} {T U : Nat → Prop} {j : Jn} (h : JI w b T j) (hf : Fr U w w') (hd : ∀ k, T k → ¬ U k) : JI w' b T j := by
  match j, h with
  | none, ⟨e, a, c, h⟩ => exact ⟨e, a, c, h.fr hf hd⟩
  | some (e, r), ⟨a, c, h, h1, h2⟩ => exact ⟨a, c, h.fr hf hd, h1, h2⟩
theorem Left.same {w w' : World} {b : Nat} {T : Nat → Prop} {j : Jn} (h : JI w b T j) (hb : Below w.heap.size w w') : Left w b T j w' :=
  ⟨.of_below hb, T, h.fr (U := fun _ => False) (.of_below hb) fun _ _ h => h, fun k hk => .inl hk⟩

theorem fld_j0 : FldO 32 0 0 := fldO Try.underlying32 rfl rfl (s := 1) (by kernel_rfl) (by omega)
theorem fld_j1 : FldO 32 1 1 := fldO Try.underlying32 rfl rfl (s := 1) (by kernel_rfl) (by omega)

theorem right_no {p : Pv} {w : World} (hd : p.d.length ≤ maxLen) (hr : ¬ p.right) : Calls Try.prog 12 #[.agg (pgV p)] w fun e w' => e = .returned (.bool false) ∧ Below w.heap.size w w' := by
  have := right_any p w hd
  rwa [decide_eq_false hr] at this
theorem right_yes {p : Pv} {w : World} (hd : p.d.length ≤ maxLen) (hr : p.right) : Calls Try.prog 12 #[.agg (pgV p)] w fun e w' => e = .returned (.bool true) ∧ Below w.heap.size w w' := by
  have := right_any p w hd
  rwa [decide_eq_true hr] at this

/-- A page that isn't right. -/
theorem take_wrong {w : World} {b : Nat} {T : Nat → Prop} {j : Jn} (h : JI w b T j) (p : Pv) (hd : p.d.length ≤ maxLen) (hr : ¬ p.right) :
    Calls Try.prog 11 #[.pointer (some ⟨b, 0, none⟩), .agg (pgV p)] w fun en w' => en = .returned (.tuple #[.string ⟨#[]⟩, .bool false, .int .i64 1]) ∧ Left w b T j w' := by
  have hA := At.new w (pgV p) 36
  have HR := Lib.hid (right_no (w := w.alloc (.cells (pgV p) 36)) hd hr)
  have HA := Lib.hid hA
  have H := Lib.hid h
  clear h hA hr
  go_enter Try.func11, Try.ntmps11
  go_wp2_with (refine wpList_load_w rfl 36 _ rfl _ rfl HA.out Try.underlying36 rfl (info_pg rfl) ?_)
  refine HR.out.mono ?_
  rintro en w1 ⟨rfl, hb⟩
  have HL := Lib.hid (Left.same H.out ((((Below.refl w.heap.size w).alloc (Nat.le_refl _) (.cells (pgV p) 36))).trans (hb.mono (by simp))))
  clear hb
  go_wp2
  exact bodyPost_ret (results_tmp3 rfl _ _ _) rfl ⟨rfl, HL.out⟩

/-- A head. -/
theorem take_head {w : World} {b : Nat} {T : Nat → Prop} {j : Jn} (h : JI w b T j) (p : Pv) (hr : p.right) (hk : p.k = 1) :
    Calls Try.prog 11 #[.pointer (some ⟨b, 0, none⟩), .agg (pgV p)] w fun en w' => en = .returned (.tuple #[.string ⟨#[]⟩, .bool false, .int .i64 0]) ∧ Left w b T j w' := by
  have hA := At.new w (pgV p) 36
  have HR := Lib.hid (right_yes (w := w.alloc (.cells (pgV p) 36)) (by have := hr.2.1; unfold maxLen; omega) hr)
  have HA := Lib.hid hA
  have H := Lib.hid h
  clear h hA hr
  go_enter Try.func11, Try.ntmps11
  go_wp2_with (refine wpList_load_w rfl 36 _ rfl _ rfl HA.out Try.underlying36 rfl (info_pg rfl) ?_)
  refine HR.out.mono ?_
  rintro en w1 ⟨rfl, hb⟩
  have HL := Lib.hid (Left.same H.out ((((Below.refl w.heap.size w).alloc (Nat.le_refl _) (.cells (pgV p) 36))).trans (hb.mono (by simp))))
  have hA1 := HA.out.below hb HA.out.lt
  have c2 : w1.cell? ⟨w.heap.size, 2, none⟩ = some (.int .i64 1) := by rw [hA1.cell, ← hk]; rfl
  clear hb hA1
  go_wp2
  exact bodyPost_ret (results_tmp3 rfl _ _ _) rfl ⟨rfl, HL.out⟩

/-- What is refused. -/
theorem take_bad {w : World} {b e n c : Nat} {a : Option Addr} {bs : List UInt8} {T : Nat → Prop} (h : JM w b T e a n c bs) (p : Pv) (hr : p.right) (hk : p.k ≠ 1)
    (hf : ∀ w1, Below w.heap.size w w1 → Calls Try.prog 19 #[.pointer (some ⟨b, 0, none⟩), .agg (pgV p)] w1 fun en w' => en = .returned (.bool false) ∧ Below w1.heap.size w1 w') :
    Calls Try.prog 11 #[.pointer (some ⟨b, 0, none⟩), .agg (pgV p)] w fun en w' => en = .returned (.tuple #[.string ⟨#[]⟩, .bool false, .int .i64 4]) ∧ Left w b T none w' := by
  have hA := At.new w (pgV p) 36
  have HR := Lib.hid (right_yes (w := w.alloc (.cells (pgV p) 36)) (by have := hr.2.1; unfold maxLen; omega) hr)
  have HA := Lib.hid hA
  have H := Lib.hid h
  have HF := Lib.hid hf
  obtain ⟨k, hkk⟩ : ∃ k, p.k = k := ⟨_, rfl⟩
  rw [hkk] at hk
  have HK := Lib.hid hkk
  have dk : (k == 1) = false := by rw [beq_eq_false_iff_ne]; exact hk
  clear h hA hr hf hkk hk
  go_enter Try.func11, Try.ntmps11
  go_wp2_with (refine wpList_load_w rfl 36 _ rfl _ rfl HA.out Try.underlying36 rfl (info_pg rfl) ?_)
  refine HR.out.mono ?_
  rintro en w1 ⟨rfl, hb⟩
  have HB1 := Lib.hid ((((Below.refl w.heap.size w).alloc (Nat.le_refl _) (.cells (pgV p) 36))).trans (hb.mono (by simp)))
  have hA1 := HA.out.below hb HA.out.lt
  have HA1 := Lib.hid hA1
  have c2 : w1.cell? ⟨w.heap.size, 2, none⟩ = some (.int .i64 k) := by rw [hA1.cell, ← HK.out]; rfl
  clear hb hA1
  go_wp2_with (refine wpList_load_w rfl 36 _ rfl _ rfl HA1.out Try.underlying36 rfl (info_pg rfl) ?_)
  refine (HF.out _ HB1.out).mono ?_
  rintro en w2 ⟨rfl, hb2⟩
  have hB2 := below_trans HB1.out hb2 HB1.out.size
  have hJ := H.out.below hB2
  have HD := Lib.hid (drop_as hJ.row)
  have hdr := hJ.drop
  have HL := Lib.hid (show Left w b T none (w2.setRow b (jR 0 none 0 0)) from ⟨(Fr.of_below hB2).same hdr.2, T, ⟨0, none, 0, hdr.1⟩, fun k hk => .inl hk⟩)
  clear hb2 hB2 hJ hdr c2
  go_wp2_with fail
  refine HD.out.mono ?_
  rintro en w3 ⟨rfl, rfl⟩
  go_wp2
  exact bodyPost_ret (results_tmp3 rfl _ _ _) rfl ⟨rfl, HL.out⟩
end Go.Proofs.Ytmaelcjmojhlpaa.Fg
