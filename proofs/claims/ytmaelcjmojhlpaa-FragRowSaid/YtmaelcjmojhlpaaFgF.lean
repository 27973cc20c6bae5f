/- Contract of frag's Take: what fits. -/
import Derived.Test.YtmaelcjmojhlpaaFgE
set_option maxRecDepth 100000
set_option linter.unusedVariables false
set_option linter.unusedSimpArgs false
namespace Go.Proofs.Ytmaelcjmojhlpaa.Fg
open Go.RowKit Go.Proofs.Ytmaelcjmojhlpaa.Row Go.Proofs.Ytmaelcjmojhlpaa.Pa

/-- What comes of a page that fits. -/
def Told (w : World) (b : Nat) (T : Nat → Prop) (e : Nat) (r : List UInt8) : Bool → Ending → World → Prop
  | true, en, w' => en = .returned (.tuple #[.string ⟨r.toArray⟩, .bool true, .int .i64 0]) ∧ Left w b T none w'
  | false, en, w' => en = .returned (.tuple #[.string ⟨#[]⟩, .bool false, .int .i64 0]) ∧ Left w b T (some (e, r)) w'

set_option maxHeartbeats 2000000 in
theorem take_fit {w : World} {b e n c : Nat} {a : Option Addr} {bs : List UInt8} {T : Nat → Prop} (h : JM w b T e a n c bs) (p : Pv) (hr : p.right) (hk : p.k ≠ 1) (hn : n + p.d.length ≤ 4096)
    (hf : ∀ w1, Below w.heap.size w w1 → Calls Try.prog 19 #[.pointer (some ⟨b, 0, none⟩), .agg (pgV p)] w1 fun en w' => en = .returned (.bool true) ∧ Below w1.heap.size w1 w') :
    Calls Try.prog 11 #[.pointer (some ⟨b, 0, none⟩), .agg (pgV p)] w (Told w b T p.e (bs ++ p.d) p.l) := by
  have hA := At.new w (pgV p) 36
  have HR := Lib.hid (right_yes (w := w.alloc (.cells (pgV p) 36)) (by have := hr.2.1; unfold maxLen; omega) hr)
  have HA := Lib.hid hA
  have H := Lib.hid h
  have HF := Lib.hid hf
  have HD1 := Lib.hid hr.1
  have HN := Lib.hid hn
  obtain ⟨k, hkk⟩ : ∃ k, p.k = k := ⟨_, rfl⟩
  rw [hkk] at hk
  obtain ⟨L, hL⟩ : ∃ L, p.l = L := ⟨_, rfl⟩
  rw [hL]
  obtain ⟨E, hE⟩ : ∃ E, p.e = E := ⟨_, rfl⟩
  rw [hE]
  have HK := Lib.hid (And.intro hkk (And.intro hL hE))
  have dk : (k == 1) = false := by rw [beq_eq_false_iff_ne]; exact hk
  clear h hA hr hf hkk hk hL hE hn
  go_enter Try.func11, Try.ntmps11
  go_wp2_with (refine wpList_load_w rfl 36 _ rfl _ rfl HA.out Try.underlying36 rfl (info_pg rfl) ?_)
  refine HR.out.mono ?_
  rintro en w1 ⟨rfl, hb⟩
  have HB1 := Lib.hid ((((Below.refl w.heap.size w).alloc (Nat.le_refl _) (.cells (pgV p) 36))).trans (hb.mono (by simp)))
  have hA1 := HA.out.below hb HA.out.lt
  have HA1 := Lib.hid hA1
  have c2 : w1.cell? ⟨w.heap.size, 2, none⟩ = some (.int .i64 k) := by rw [hA1.cell, ← HK.out.1]; rfl
  clear hb hA1
  go_wp2_with (refine wpList_load_w rfl 36 _ rfl _ rfl HA1.out Try.underlying36 rfl (info_pg rfl) ?_)
  refine (HF.out _ HB1.out).mono ?_
  rintro en w2 ⟨rfl, hb2⟩
  have hB2 := below_trans HB1.out hb2 HB1.out.size
  have HB2 := Lib.hid hB2
  have hA2 := HA1.out.below hb2 HA1.out.lt
  have HA2 := Lib.hid hA2
  have hJ := H.out.below hB2
  have HJ := Lib.hid hJ
  have p0 : w2.cell? ⟨w.heap.size, 0, none⟩ = some (.int .u32 E) := by rw [hA2.cell, ← HK.out.2.2]; rfl
  obtain ⟨j0, j1, f0, f1⟩ := hJ.cells
  clear hb2 hB2 hA2 hJ c2 j1 f1 HA HA1 HR HF
  go_wp2_with fail
  have hJ3 := HJ.out.epoch E
  have hne : w.heap.size ≠ b := by have := H.out.lt b H.out.tb; omega
  have hA3 : At (w2.setCell ⟨b, 0, none⟩ (.int .u32 E)) w.heap.size (pgV p) 36 := HA2.out.setCell_other hne
  have hF3 : Fr T w (w2.setCell ⟨b, 0, none⟩ (.int .u32 E)) := (Fr.of_below HB2.out).setCell (.inl H.out.tb) _
  generalize w2.setCell ⟨b, 0, none⟩ (.int .u32 (E : Int)) = W3 at hJ3 hA3 hF3 ⊢
  clear p0 j0 f0 HJ HA2 HB2
  have HX3 := Lib.hid (show W3.cell? ⟨b, 1, none⟩ = some (.slice a n c) ∧ W3.cell? ⟨w.heap.size, 5, none⟩ = some (.string ⟨p.d.toArray⟩) from ⟨hJ3.cells.2.1, by rw [hA3.cell]; rfl⟩)
  refine mf_start (fun w' => w'.cell? ⟨b, 1, none⟩ = some (.slice a n c) ∧ w'.cell? ⟨w.heap.size, 5, none⟩ = some (.string ⟨p.d.toArray⟩)) (fun j => j == 10) HX3.out fun hS => ?_
  refine mf_yield (i := 0) (d := 32) (.pointer (some ⟨b, 0, none⟩)) rfl rfl (by kernel_rfl) (by kernel_rfl) (by kernel_rfl) (by kernel_rfl) hS (y_run (by rfl) fun _ => by rfl) ?_
  simp only [Act.put, List.setIfInBounds_toArray, List.set_cons_zero, List.set_cons_succ]
  refine mf_yield (i := 1) (d := 33) (.pointer (some ⟨b, 0, none⟩)) rfl rfl (by kernel_rfl) (by kernel_rfl) (by kernel_rfl) (by kernel_rfl) hS (y_run (by rfl) fun _ => by rfl) ?_
  simp only [Act.put, List.setIfInBounds_toArray, List.set_cons_zero, List.set_cons_succ]
  refine mf_yield (i := 2) (d := 34) (.pointer (some ⟨b, 0, none⟩)) rfl rfl (by kernel_rfl) (by kernel_rfl) (by kernel_rfl) (by kernel_rfl) hS (y_run (by rfl) fun _ => by rfl) ?_
  simp only [Act.put, List.setIfInBounds_toArray, List.set_cons_zero, List.set_cons_succ]
  refine mf_yield (i := 3) (d := 35) (.pointer (some ⟨b, 1, none⟩)) rfl rfl (by kernel_rfl) (by kernel_rfl) (by kernel_rfl) (by kernel_rfl) hS (y_fieldO (by rfl) rfl rfl fld_j1 rfl) ?_
  simp only [Act.put, List.setIfInBounds_toArray, List.set_cons_zero, List.set_cons_succ]
  refine mf_yield (i := 4) (d := 36) (.slice a n c) rfl rfl (by kernel_rfl) (by kernel_rfl) (by kernel_rfl) (by kernel_rfl) hS (y_cell1 (by rfl) rfl rfl Try.underlying30 rfl fun w h => h.1) ?_
  simp only [Act.put, List.setIfInBounds_toArray, List.set_cons_zero, List.set_cons_succ]
  refine mf_yield (i := 5) (d := 37) (.pointer (some ⟨w.heap.size, 5, none⟩)) rfl rfl (by kernel_rfl) (by kernel_rfl) (by kernel_rfl) (by kernel_rfl) hS (y_fieldO (by rfl) rfl rfl (fldp 5 (by omega)) rfl) ?_
  simp only [Act.put, List.setIfInBounds_toArray, List.set_cons_zero, List.set_cons_succ]
  refine mf_yield (i := 6) (d := 38) (.string ⟨p.d.toArray⟩) rfl rfl (by kernel_rfl) (by kernel_rfl) (by kernel_rfl) (by kernel_rfl) hS (y_cell1 (by rfl) rfl rfl Try.underlying9 rfl fun w h => h.2) ?_
  simp only [Act.put, List.setIfInBounds_toArray, List.set_cons_zero, List.set_cons_succ]
  have hJd : JM W3.drew b T E a n c bs := hJ3.below (Below.refl _ _).drew
  refine mf_of (i := 7) rfl (by kernel_rfl) (by rfl) fun Q' hQ => ?_
  refine wpList_append_str Try.underlying30 Try.underlying9 rfl _ _ rfl rfl hJd.own p.d rfl HD1.out (by have := HN.out; omega) ?_
  intro g c' W4 h4 g4 hw
  have hM := hJd.more h4 g4 hw
  have hA4 : At W4 w.heap.size (pgV p) 36 := (g4.block _ hA3.lt fun e => by have := H.out.lt _ (H.out.blk _ e.symm).1; omega).trans hA3
  have HS4 := Lib.hid (show (W4.cell? ⟨b, 1, none⟩ = some (.slice a n c) ∧ W4.cell? ⟨w.heap.size, 5, none⟩ = some (.string ⟨p.d.toArray⟩)) ∧ W4.frozen? ⟨b, 1, none⟩ = false from ⟨⟨by rw [hM.1.cell]; rfl, by rw [hA4.cell]; rfl⟩, hM.1.frozen 1⟩)
  refine hQ _ _ (fun _ => HS4.out.1) ?_
  clear hQ
  clear Q'
  simp only [Act.put, List.setIfInBounds_toArray, List.set_cons_zero, List.set_cons_succ]
  refine mf_one (i := 8) (d := 40) (.pointer (some ⟨b, 0, none⟩)) rfl rfl (by kernel_rfl) HS4.out.1 (y_run (by rfl) fun _ => by rfl) ?_
  simp only [Act.put, List.setIfInBounds_toArray, List.set_cons_zero, List.set_cons_succ]
  refine mf_one (i := 9) (d := 41) (.pointer (some ⟨b, 1, none⟩)) rfl rfl (by kernel_rfl) HS4.out.1 (y_fieldO (by rfl) rfl rfl fld_j1 rfl) ?_
  simp only [Act.put, List.setIfInBounds_toArray, List.set_cons_zero, List.set_cons_succ]
  refine mf_of (i := 10) rfl (by kernel_rfl) (by rfl) fun Q' hQ => ?_
  refine wpList_store1 rfl 30 _ _ rfl (v := .slice (some ⟨g, 0, none⟩) (n + p.d.length) c') rfl rfl (by kernel_rfl) rfl HS4.out.1.1 HS4.out.2 ?_
  refine hQ _ _ (fun h => by cases h) ?_
  clear hQ
  clear Q'
  simp only [Act.put]
  refine mf_done (by kernel_rfl) ?_
  have hA5 : At (W4.setCell ⟨b, 1, none⟩ (.slice (some ⟨g, 0, none⟩) (n + p.d.length) c')) w.heap.size (pgV p) 36 := hA4.setCell_other hne
  obtain ⟨_, hJ5, hF5, hT5⟩ := hM
  generalize W4.setCell ⟨b, 1, none⟩ (.slice (some ⟨g, 0, none⟩) (n + p.d.length) c') = W5 at hA5 hJ5 hF5 ⊢
  have hF : Fr T w W5 := (hF3.drew).same hF5
  have hTT : ∀ k, (T k ∨ k = g) → T k ∨ w.heap.size ≤ k := fun k hk => by
    rcases hT5 k hk with h | h
    · exact .inl h
    · exact .inr (Nat.le_trans hF3.size h)
  have c4 : W5.cell? ⟨w.heap.size, 4, none⟩ = some (.bool L) := by rw [hA5.cell, ← HK.out.2.1]; rfl
  have c1 := hJ5.cells.2.1
  have hcv := hJ5.own.text Try.underlying30 Try.underlying9
  have HF := Lib.hid (And.intro hF hTT)
  have HJ := Lib.hid hJ5
  have HNN := Lib.hid (show 1 ≤ n + p.d.length ∧ n + p.d.length ≤ 4096 from ⟨by have := HD1.out; omega, HN.out⟩)
  clear hF hTT hJ5 hF5 hT5 hA5 hA4 h4 g4 hw HS4 hJd hS hJ3 hA3 hF3 HX3 hne
  generalize n + p.d.length = m at *
  generalize bs ++ p.d = r at *
  cases L with
  | true =>
    have HD := Lib.hid (drop_as HJ.out.row)
    have hdr := HJ.out.drop
    have HL := Lib.hid (show Left w b T none (W5.setRow b (jR 0 none 0 0)) from ⟨HF.out.1.trans hdr.2 fun i hi ht => by
      rcases ht with h | rfl
      · exact h
      · rcases HF.out.2 _ (.inr rfl) with h | h
        · exact h
        · omega, _, ⟨0, none, 0, hdr.1⟩, HF.out.2⟩)
    clear hdr
    go_wp2_with fail
    refine HD.out.mono ?_
    rintro en w3 ⟨rfl, rfl⟩
    go_wp2
    exact bodyPost_ret (results_tmp3 rfl _ _ _) rfl ⟨rfl, HL.out⟩
  | false =>
    have HL := Lib.hid (show Left w b T (some (E, r)) W5 from ⟨HF.out.1, _, JI.of HJ.out HNN.out.1 HNN.out.2, HF.out.2⟩)
    go_wp2
    exact bodyPost_ret (results_tmp3 rfl _ _ _) rfl ⟨rfl, HL.out⟩
end Go.Proofs.Ytmaelcjmojhlpaa.Fg
