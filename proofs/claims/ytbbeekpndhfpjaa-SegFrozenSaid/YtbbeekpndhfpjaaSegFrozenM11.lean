/- Texts of the walk, one behind the other. -/
import Derived.Test.YtbbeekpndhfpjaaSegFrozenM8
import Derived.Test.YtbbeekpndhfpjaaSegFrozenM10
import Derived.Test.YtbbeekpndhfpjaaSegFrozenM9

section
/- Contracts of the program's disk: Write. -/
set_option maxRecDepth 100000
set_option linter.unusedVariables false
set_option linter.unusedSimpArgs false
namespace Go.Proofs.Ytbbeekpndhfpjaa.Dk
open Go.RowKit Go.Proofs.Ytbbeekpndhfpjaa.Row

theorem fld_d5 : FldO 58 5 5 := fldO Try.underlying58 rfl rfl (s := 1) (by kernel_rfl) (by omega)
theorem fld_d4 : FldO 58 4 4 := fldO Try.underlying58 rfl rfl (s := 1) (by kernel_rfl) (by omega)

/-- A write is done: the last of its sector, and one more that isn't sure. -/
theorem DkM.wrote {w w2 w3 w4 w5 : World} {b : Nat} {T : Nat → Prop} {N : Nat} {d : Dsk} {bs bl br : Nat} {a a' : Option Addr} {c c' : Nat} (h : DkM w b T N d bs bl br a c) {i : Int} {P : Array Value} (hP : Pag P) (hi : (Lit.int .i64 i).wf = true) {f2 : Int → Option Value}
    (hv2 : ∀ i, (Lit.int .i64 i).wf = true → f2 i = (lastOf d.sec i d.n).map fun k => .int .i64 (k : Nat))
    (h2 : MpI w2 3 .i64 bl (N + 1) fun j => if j = i then some (.int .i64 (d.n : Nat)) else f2 j) (g2 : w.grownBy w2 (some bl)) (g3 : Below w2.heap.size w2 w3)
    (h4 : Els w4 0 85 65 a' (d.n + 1) c' (catE (fun k => wrR (d.sec k) (d.pg k)) d.n (fun _ => wrR i P))) (g4 : w3.grownBy w4 (Value.slice a d.n c).ownBlock)
    (hat : (Value.slice a' (d.n + 1) c').ownBlock = (Value.slice a d.n c).ownBlock ∨ (Value.slice a' (d.n + 1) c').ownBlock = some w3.heap.size) (e5 : w5 = w4.setCell ⟨b, 4, none⟩ (.slice a' (d.n + 1) c')) : DkTo w b T (N + 1) (d.wrote i P) w5 := by
  obtain ⟨h0, ⟨f1, h1, h1'⟩, _, ⟨f3, h3, h3'⟩, hL, h5, h6, h7, h8, h9⟩ := h
  have z2 := g2.size
  have z3 := g3.size
  have z4 := g4.size
  have z5 : w5.heap.size = w4.heap.size := by rw [e5]; simp [World.setCell]
  have q2 : ∀ k, k < w.heap.size → k ≠ bl → w2.heap[k]? = w.heap[k]? := fun k hk he => g2.block k hk fun e => he (by simpa using e)
  have q4 : ∀ k, k < w2.heap.size → (Value.slice a d.n c).ownBlock ≠ some k → w4.heap[k]? = w2.heap[k]? := fun k hk he => (g4.block k (by omega) (Ne.symm he)).trans (g3.block k hk)
  have q5 : ∀ k, k ≠ b → w5.heap[k]? = w4.heap[k]? := fun k hk => by rw [e5]; exact heap_setCell_other _ _ _ _ hk
  have hb := h7 b h5.1
  have hbs := h7 bs h5.2.1
  have hbl := h7 bl h5.2.2.1
  have hbr := h7 br h5.2.2.2.1
  have own : ∀ k, (Value.slice a' (d.n + 1) c').ownBlock = some k → (T k ∧ (Value.slice a d.n c).ownBlock = some k) ∨ (w.heap.size ≤ k ∧ k < w5.heap.size) := fun k hk => by
    rcases hat with e | e
    · rw [e] at hk; exact .inl ⟨h5.2.2.2.2 k hk, hk⟩
    · have hk' := hk
      rw [e] at hk
      injection hk with hk
      have := (h4.block k hk').2
      exact .inr ⟨by omega, by omega⟩
  have ob : ∀ k, k = b ∨ k = bs ∨ k = bl ∨ k = br → (Value.slice a d.n c).ownBlock ≠ some k := fun k hk e => by
    have := h6.2 k e
    omega
  refine ⟨fun k => T k ∨ (w.heap.size ≤ k ∧ k < w5.heap.size), ⟨bs, bl, br, a', c', ?_⟩, ?_, fun k hk => hk.imp id And.left⟩
  · refine ⟨?_, ⟨f1, ?_, h1'⟩, ⟨fun j => if j = i then some (.int .i64 (d.n : Nat)) else f2 j, ?_, fun j hj => ?_⟩, ⟨f3, ?_, h3'⟩, ?_, ⟨.inl h5.1, .inl h5.2.1, .inl h5.2.2.1, .inl h5.2.2.2.1, fun k hk => (own k hk).imp And.left id⟩, ⟨h6.1, fun k hk => ?_⟩, fun k hk => ?_, ⟨?_, fun j => ?_, h8.2.2⟩, ⟨h9.1, fun k hk => ?_⟩⟩
    · have e0 : At w4 b (dkR d.size d.down d.fuse bs a d.n c bl br) 58 := (q4 b (by omega) (ob b (by simp))).trans ((q2 b hb (by omega)).trans h0)
      have := e0.setCell (i := 4) (v := .slice a' (d.n + 1) c')
      rw [← e5] at this
      exact this
    · have := h1.keep (w' := w5) ((q5 bs (by omega)).trans ((q4 bs (by omega) (ob bs (by simp))).trans (q2 bs hbs (by omega))))
      exact this.mono (by show N - d.n ≤ N + 1 - (d.n + 1); omega)
    · exact h2.keep ((q5 bl (by omega)).trans (q4 bl (by omega) (ob bl (by simp))))
    · show (if j = i then some (Value.int .i64 (d.n : Nat)) else f2 j) = _
      have e : lastOf (d.wrote i P).sec j (d.wrote i P).n = if i = j then some d.n else lastOf d.sec j d.n := by
        show lastOf (fun k => if k = d.n then i else d.sec k) j (d.n + 1) = _
        rw [lastOf]
        simp only [if_true]
        split
        · rfl
        · exact lastOf_ext fun k hk => by rw [if_neg (by omega)]
      rw [e]
      by_cases hji : j = i
      · rw [if_pos hji, if_pos hji.symm]; rfl
      · rw [if_neg hji, if_neg (Ne.symm hji)]; exact hv2 j hj
    · have := h3.keep (w' := w5) ((q5 br (by omega)).trans ((q4 br (by omega) (ob br (by simp))).trans (q2 br hbr (by omega))))
      exact this.mono (by omega)
    · have h4' : Els w5 0 85 65 a' (d.n + 1) c' (catE (fun k => wrR (d.sec k) (d.pg k)) d.n (fun _ => wrR i P)) := h4.keep fun k hk => q5 k (by
        rcases own k hk with ⟨_, e⟩ | ⟨e, _⟩
        · exact (h6.2 k e).1
        · omega)
      refine h4'.ext fun k hk => ?_
      show catE _ _ _ k = wrR (if k = d.n then i else d.sec k) (if k = d.n then P else d.pg k)
      unfold catE
      by_cases e : k = d.n
      · rw [if_neg (by omega), if_pos e, if_pos e]
      · rw [if_pos (by omega), if_neg e, if_neg e]
    · rcases own k hk with ⟨_, e⟩ | ⟨e, _⟩
      · exact h6.2 k e
      · exact ⟨by omega, by omega, by omega, by omega⟩
    · rcases hk with hk | hk
      · have := h7 k hk; omega
      · exact hk.2
    · show d.n + 1 ≤ N + 1
      have := h8.1; omega
    · have := h8.2.1 j
      show 0 ≤ d.reads j ∧ d.reads j ≤ _
      omega
    · show Pag (if k = d.n then P else d.pg k) ∧ (Lit.int .i64 (if k = d.n then i else d.sec k)).wf = true
      by_cases e : k = d.n
      · rw [if_pos e, if_pos e]; exact ⟨hP, hi⟩
      · rw [if_neg e, if_neg e]; exact h9.2 k (by have : k < d.n + 1 := hk; omega)
  · have hf : Fr T w w4 := ((Fr.refl T w).grown g2 fun k hk => by simp only [Option.some.injEq] at hk; subst hk; exact .inl h5.2.2.1).below_trans g3 |>.grown g4 fun k hk => .inl (h5.2.2.2.2 k hk)
    rw [e5]
    exact hf.setCell (.inl h5.1) _

theorem built_w {i : Int} {P : Array Value} (hP : Pag P) : Try.prog.built 85 [(0, .int .i64 i), (1, .agg P)] = some (wrR i P) := by
  have hb : Try.prog.built 85 [(0, .int .i64 i), (1, .agg P)] = Instr.fill (#[(0, 1), (1, 64)][·]?) (wrR 0 zP) [(0, .int .i64 i), (1, .agg P)] := by kernel_rfl
  rw [hb, fill_step (l := 0) (n := 1) rfl rfl (by rw [wrR_size pag_z]; omega)]
  obtain ⟨p1, p2⟩ := fold_lay [Value.int .i64 i] 0 0 (wrR 0 zP)
  have e1 := p1.trans (wrR_size pag_z)
  rw [fill_step (v := .agg P) (l := 1) (n := 64) rfl hP.size (by
    refine Nat.le_trans ?_ (Nat.le_of_eq e1.symm)
    omega)]
  show some _ = some _
  congr 1
  obtain ⟨q1, q2⟩ := fold_lay P.toList 0 1 (List.foldl (fun cs x => cs.setIfInBounds (0 + x.2) x.1) (wrR 0 zP) (List.zipIdx [Value.int .i64 i] 0))
  apply Array.ext_getElem?
  intro k
  by_cases hk : k < 65
  · refine (q2 k (by rw [p1, wrR_size pag_z]; exact hk)).trans ?_
    rw [Array.length_toList, hP.size, p2 k (by rw [wrR_size pag_z]; exact hk)]
    by_cases h0 : k = 0
    · subst h0
      rw [if_neg (by omega), if_pos (by simp), wrR_0]; rfl
    · obtain ⟨j, rfl⟩ : ∃ j, k = 1 + j := ⟨k - 1, by omega⟩
      rw [if_pos (by omega), wrR_1, Array.getElem?_toList]
      congr 1; omega
  · rw [Array.getElem?_eq_none (by
      refine Nat.le_trans (Nat.le_of_eq (q1.trans e1)) ?_
      omega), Array.getElem?_eq_none (by rw [wrR_size hP]; omega)]

set_option maxHeartbeats 2000000 in
/-- A write that goes well. -/
theorem write_yes (w : World) (b : Nat) (T : Nat → Prop) (N : Nat) (d : Dsk) (h : DkIs w b T N d) (i : Int) (P : Array Value) (hP : Pag P) (hi : (Lit.int .i64 i).wf = true) (hr : d.reach i = 0) (hu : d.fuse ≠ 0) (hN : N < 1000000) :
    Calls Try.prog 49 #[.pointer (some ⟨b, 0, none⟩), .int .i64 i, .agg P] w fun e w' => e = .returned (.int .i64 0) ∧ DkTo w b T (N + 1) (d.spent.wrote i P) w' := by
  have hb := (Below.refl w.heap.size w).alloc (Nat.le_refl _) (.cells P 69)
  have h0 := h.below hb
  have HC := Lib.hid (reach_of _ b T N d h0 i)
  have HS := Lib.hid (spend_of _ b T N d h0)
  rw [hr] at HC
  rw [if_neg hu] at HS
  have HA := Lib.hid (At.new w P 69)
  have HT := Lib.hid h.lt
  have HP := Lib.hid hP
  have HI := Lib.hid hi
  have HN := Lib.hid hN
  have HB := Lib.hid hb
  have HBW := Lib.hid (built_w (i := i) hP)
  clear h h0 hb hP hi hr hu hN
  generalize d.spent = d1 at HS ⊢
  go_enter Try.func49, Try.ntmps49
  go_wp2_with fail
  refine HC.out.mono ?_
  rintro e w1 ⟨rfl, rfl⟩
  go_wp2_with fail
  refine HS.out.mono ?_
  rintro e W1 ⟨rfl, T', hd, hf, hT'⟩
  obtain ⟨bs, bl, br, a, c, hM⟩ := hd
  have HT2 := Lib.hid (show ¬ T' w.heap.size from fun hx => by
    rcases hT' _ hx with h | h
    · exact absurd (HT.out _ h) (Nat.lt_irrefl _)
    · rw [World.size_alloc] at h; omega)
  have HA1 := Lib.hid (show At W1 w.heap.size P 69 from HA.out.fr hf fun hx => absurd (HT.out _ hx) (Nat.lt_irrefl _))
  have HF := Lib.hid (show Fr T w W1 from (Fr.of_below HB.out).same hf)
  have HT1 := Lib.hid (show ∀ k, T' k → T k ∨ w.heap.size ≤ k from fun k hk => (hT' k hk).imp id fun h => by rw [World.size_alloc] at h; omega)
  obtain ⟨n, hn⟩ : ∃ n, d1.n = n := ⟨_, rfl⟩
  have HM := Lib.hid hM
  have HM' := Lib.hid (hM.cells)
  obtain ⟨f2, hf2, hv2⟩ := hM.last
  have HL := Lib.hid hf2
  have HV := Lib.hid hv2
  have HW := Lib.hid hM.loose
  have HNE := Lib.hid hM.ne
  have HNN := Lib.hid hM.num.1
  rw [hn] at HM' HW HNE HNN
  have HNX := Lib.hid hn
  have HZ := Lib.hid (show w.heap.size < W1.heap.size from HA1.out.lt)
  clear HC HS HA HB hM hf2 hv2 hf hT' hn HT
  go_wp2_with fail
  refine mf_start (fun w' => w'.cell? ⟨b, 5, none⟩ = some (.map (some bl)) ∧ w'.cell? ⟨b, 4, none⟩ = some (.slice a n c)) (fun _ => false) ⟨HM'.out.2.2.2.2.2.1, HM'.out.2.2.2.2.1⟩ fun hS => ?_
  refine mf_yield (i := 0) (d := 20) (.pointer (some ⟨b, 0, none⟩)) rfl rfl (by kernel_rfl) (by kernel_rfl) (by kernel_rfl) (by kernel_rfl) hS (y_run (by rfl) fun _ => by rfl) ?_
  simp only [Act.put, List.setIfInBounds_toArray, List.set_cons_zero, List.set_cons_succ]
  refine mf_yield (i := 1) (d := 21) (.pointer (some ⟨b, 0, none⟩)) rfl rfl (by kernel_rfl) (by kernel_rfl) (by kernel_rfl) (by kernel_rfl) hS (y_run (by rfl) fun _ => by rfl) ?_
  simp only [Act.put, List.setIfInBounds_toArray, List.set_cons_zero, List.set_cons_succ]
  refine mf_yield (i := 2) (d := 22) (.pointer (some ⟨b, 5, none⟩)) rfl rfl (by kernel_rfl) (by kernel_rfl) (by kernel_rfl) (by kernel_rfl) hS (y_fieldO (by rfl) rfl rfl fld_d5 rfl) ?_
  simp only [Act.put, List.setIfInBounds_toArray, List.set_cons_zero, List.set_cons_succ]
  refine mf_yield (i := 3) (d := 23) (.map (some bl)) rfl rfl (by kernel_rfl) (by kernel_rfl) (by kernel_rfl) (by kernel_rfl) hS (y_cell1 (by rfl) rfl rfl Try.underlying55 rfl (fun _ h => h.1)) ?_
  simp only [Act.put, List.setIfInBounds_toArray, List.set_cons_zero, List.set_cons_succ]
  refine mf_yield (i := 4) (d := 24) (.int .i64 i) rfl rfl (by kernel_rfl) (by kernel_rfl) (by kernel_rfl) (by kernel_rfl) hS (y_run (by rfl) fun _ => by rfl) ?_
  simp only [Act.put, List.setIfInBounds_toArray, List.set_cons_zero, List.set_cons_succ]
  refine mf_yield (i := 5) (d := 25) (.pointer (some ⟨b, 0, none⟩)) rfl rfl (by kernel_rfl) (by kernel_rfl) (by kernel_rfl) (by kernel_rfl) hS (y_run (by rfl) fun _ => by rfl) ?_
  simp only [Act.put, List.setIfInBounds_toArray, List.set_cons_zero, List.set_cons_succ]
  refine mf_yield (i := 6) (d := 26) (.pointer (some ⟨b, 0, none⟩)) rfl rfl (by kernel_rfl) (by kernel_rfl) (by kernel_rfl) (by kernel_rfl) hS (y_run (by rfl) fun _ => by rfl) ?_
  simp only [Act.put, List.setIfInBounds_toArray, List.set_cons_zero, List.set_cons_succ]
  refine mf_yield (i := 7) (d := 27) (.pointer (some ⟨b, 4, none⟩)) rfl rfl (by kernel_rfl) (by kernel_rfl) (by kernel_rfl) (by kernel_rfl) hS (y_fieldO (by rfl) rfl rfl fld_d4 rfl) ?_
  simp only [Act.put, List.setIfInBounds_toArray, List.set_cons_zero, List.set_cons_succ]
  refine mf_yield (i := 8) (d := 28) (.slice a n c) rfl rfl (by kernel_rfl) (by kernel_rfl) (by kernel_rfl) (by kernel_rfl) hS (y_cell1 (by rfl) rfl rfl Try.underlying56 rfl (fun _ h => h.2)) ?_
  simp only [Act.put, List.setIfInBounds_toArray, List.set_cons_zero, List.set_cons_succ]
  refine mf_yield (i := 9) (d := 29) (.int .i64 ((n : Nat))) rfl rfl (by kernel_rfl) (by kernel_rfl) (by kernel_rfl) (by kernel_rfl) hS (y_len (by rfl) rfl Try.underlying56 rfl) ?_
  simp only [Act.put, List.setIfInBounds_toArray, List.set_cons_zero, List.set_cons_succ]
  refine mf_of (i := 10) rfl (by kernel_rfl) (by rfl) fun Q' hQ => ?_
  refine wpList_put_mpi (w := W1.drew) rfl _ _ _ rfl Try.underlying3 Try.underlying55 rfl (show MpI W1.drew _ _ bl N f2 from HL.out) (by have := HN.out; unfold maxLen; omega) rfl rfl HI.out ?_
  intro W2 hm2 hg2
  have HM2 := Lib.hid hm2
  have HG2 := Lib.hid (show W1.grownBy W2 (some bl) from ⟨hg2.os, hg2.tape, hg2.output, hg2.size, hg2.block⟩)
  have hbW : b < W1.heap.size := HM.out.lt b HM.out.own.1
  have hS2 : W2.cell? ⟨b, 5, none⟩ = some (.map (some bl)) ∧ W2.cell? ⟨b, 4, none⟩ = some (.slice a n c) := by
    have e : W2.heap[b]? = W1.heap[b]? := HG2.out.block b hbW (by have := HNE.out.1.2.1; simp; omega)
    exact ⟨(World.cell?_of_block (w := W1) e).trans HM'.out.2.2.2.2.2.1, (World.cell?_of_block (w := W1) e).trans HM'.out.2.2.2.2.1⟩
  have HA2 := Lib.hid (show At W2 w.heap.size P 69 from (HG2.out.block _ HZ.out (by
    have := HM.out.own.2.2.1
    intro e
    simp only [Option.some.injEq] at e
    exact HT2.out (e ▸ this))).trans HA1.out)
  have HC2 := Lib.hid hS2.2
  have HE2 := Lib.hid (show Els W2 0 85 65 a n c (fun k => wrR (d1.sec k) (d1.pg k)) from HW.out.keep fun k hk => HG2.out.block k (HW.out.block k hk).2 (by have := (HNE.out.2 k hk).2.2.1; simp; omega))
  refine hQ _ _ (fun _ => hS2) ?_
  simp only [Act.put]
  refine mf_done (by kernel_rfl) ?_
  clear hS hm2 hg2 hS2 hQ
  clear Q'
  go_wp2_with fail
  refine mf_start (fun w' => w'.cell? ⟨b, 4, none⟩ = some (.slice a n c) ∧ At w' w.heap.size P 69) (fun j => j == 12) ⟨HC2.out, HA2.out⟩ fun hS => ?_
  refine mf_yield (i := 0) (d := 30) (.pointer (some ⟨b, 0, none⟩)) rfl rfl (by kernel_rfl) (by kernel_rfl) (by kernel_rfl) (by kernel_rfl) hS (y_run (by rfl) fun _ => by rfl) ?_
  simp only [Act.put, List.setIfInBounds_toArray, List.set_cons_zero, List.set_cons_succ]
  refine mf_yield (i := 1) (d := 31) (.pointer (some ⟨b, 0, none⟩)) rfl rfl (by kernel_rfl) (by kernel_rfl) (by kernel_rfl) (by kernel_rfl) hS (y_run (by rfl) fun _ => by rfl) ?_
  simp only [Act.put, List.setIfInBounds_toArray, List.set_cons_zero, List.set_cons_succ]
  refine mf_yield (i := 2) (d := 32) (.pointer (some ⟨b, 0, none⟩)) rfl rfl (by kernel_rfl) (by kernel_rfl) (by kernel_rfl) (by kernel_rfl) hS (y_run (by rfl) fun _ => by rfl) ?_
  simp only [Act.put, List.setIfInBounds_toArray, List.set_cons_zero, List.set_cons_succ]
  refine mf_yield (i := 3) (d := 33) (.pointer (some ⟨b, 4, none⟩)) rfl rfl (by kernel_rfl) (by kernel_rfl) (by kernel_rfl) (by kernel_rfl) hS (y_fieldO (by rfl) rfl rfl fld_d4 rfl) ?_
  simp only [Act.put, List.setIfInBounds_toArray, List.set_cons_zero, List.set_cons_succ]
  refine mf_yield (i := 4) (d := 34) (.slice a n c) rfl rfl (by kernel_rfl) (by kernel_rfl) (by kernel_rfl) (by kernel_rfl) hS (y_cell1 (by rfl) rfl rfl Try.underlying56 rfl (fun _ h => h.1)) ?_
  simp only [Act.put, List.setIfInBounds_toArray, List.set_cons_zero, List.set_cons_succ]
  refine mf_yield (i := 5) (d := 35) (.int .i64 i) rfl rfl (by kernel_rfl) (by kernel_rfl) (by kernel_rfl) (by kernel_rfl) hS (y_run (by rfl) fun _ => by rfl) ?_
  simp only [Act.put, List.setIfInBounds_toArray, List.set_cons_zero, List.set_cons_succ]
  refine mf_yield (i := 6) (d := 36) (.agg P) rfl rfl (by kernel_rfl) (by kernel_rfl) (by kernel_rfl) (by kernel_rfl) hS (y_load_range (by rfl) rfl rfl (fun w' h => by have := At.one (m := 64) h.2 0 (by omega); simpa using this) Try.underlying69 rfl (info_pag HP.out)) ?_
  simp only [Act.put, List.setIfInBounds_toArray, List.set_cons_zero, List.set_cons_succ]
  refine mf_yield (i := 7) (d := 37) (.agg (wrR i P)) rfl rfl (by kernel_rfl) (by kernel_rfl) (by kernel_rfl) (by kernel_rfl) hS (y_build_parts (L := [(0, .tmp 35), (1, .tmp 36)]) (by rfl) rfl _ rfl HBW.out) ?_
  simp only [Act.put, List.setIfInBounds_toArray, List.set_cons_zero, List.set_cons_succ]
  refine mf_of (i := 8) rfl (by kernel_rfl) (by rfl) fun Q' hQ => ?_
  refine wpList_slice_el elt_w (wrR_size HP.out) (by omega) rfl _ rfl rfl rfl ?_
  have hb3 : Below W2.heap.size W2 (W2.drew.alloc (.cells (wrR i P) 85)) := (Below.refl W2.heap.size W2).drew.alloc (Nat.le_refl _) _
  have HB3 := Lib.hid hb3
  have HA3 := Lib.hid (At.new W2.drew (wrR i P) 85)
  have HE3 := Lib.hid (HE2.out.below hb3)
  have HC3 := Lib.hid (show (W2.drew.alloc (.cells (wrR i P) 85)).cell? ⟨b, 4, none⟩ = some (.slice a n c) from (Below.cell hb3 (block_lt_of_cell HC2.out)).trans HC2.out)
  have HP3 := Lib.hid (HA2.out.below hb3 HA2.out.lt)
  refine hQ _ _ (fun _ => ⟨HC3.out, HP3.out⟩) ?_
  clear hQ hS hb3
  clear Q'
  simp only [Act.put, List.setIfInBounds_toArray, List.set_cons_zero, List.set_cons_succ]
  revert HB3 HA3 HE3 HC3 HP3
  generalize World.alloc _ _ = W3
  intro HB3 HA3 HE3 HC3 HP3
  refine mf_of (i := 9) rfl (by kernel_rfl) (by rfl) fun Q' hQ => ?_
  refine wpList_append_els elt_w rfl _ _ rfl rfl HE3.out W2.drew.heap.size 0 1 1 rfl (wid_one (wrR_size HP.out) (wrR_one HP.out)) (At.one HA3.out) (by have := HN.out; have := HNN.out; omega) (Nat.zero_le _) ?_
  intro a' c' W4 h4 _ g4 hat
  have HE4 := Lib.hid h4
  have HG4 := Lib.hid g4
  have HAT := Lib.hid hat
  have hS4 : W4.cell? ⟨b, 4, none⟩ = some (.slice a n c) ∧ At W4 w.heap.size P 69 := by
    have hz3 := HB3.out.size
    have hz2 := HG2.out.size
    have hbW : b < W1.heap.size := HM.out.lt b HM.out.own.1
    have e : W4.heap[b]? = W3.heap[b]? := g4.block b (by omega) fun e => (HNE.out.2 b e.symm).1 rfl
    have e2 : W4.heap[w.heap.size]? = W3.heap[w.heap.size]? := g4.block _ HP3.out.lt fun e => HT2.out (HM.out.own.2.2.2.2 _ (by rw [HNX.out]; exact e.symm))
    exact ⟨(World.cell?_of_block (w := W3) e).trans HC3.out, e2.trans HP3.out⟩
  have HC4 := Lib.hid (And.intro hS4.1 (show W4.frozen? ⟨b, 4, none⟩ = false from by
    have hz3 := HB3.out.size
    have hz2 := HG2.out.size
    have hbW : b < W1.heap.size := HM.out.lt b HM.out.own.1
    have e : W4.heap[b]? = W3.heap[b]? := g4.block b (by omega) fun e => (HNE.out.2 b e.symm).1 rfl
    have e1 : W3.heap[b]? = W2.heap[b]? := HB3.out.block b (by omega)
    have e2 : W2.heap[b]? = W1.heap[b]? := HG2.out.block b hbW (by have := HNE.out.1.2.1; simp; omega)
    exact At.frozen (show At W4 b _ _ from (e.trans (e1.trans e2)).trans HM.out.row) 4))
  refine hQ _ _ (fun _ => hS4) ?_
  clear hQ h4 g4 hat
  clear Q'
  simp only [Act.put, List.setIfInBounds_toArray, List.set_cons_zero, List.set_cons_succ]
  refine mf_one (i := 10) (d := 40) (.pointer (some ⟨b, 0, none⟩)) rfl rfl (by kernel_rfl) hS4 (y_run (by rfl) fun _ => by rfl) ?_
  simp only [Act.put, List.setIfInBounds_toArray, List.set_cons_zero, List.set_cons_succ]
  refine mf_one (i := 11) (d := 41) (.pointer (some ⟨b, 4, none⟩)) rfl rfl (by kernel_rfl) hS4 (y_fieldO (by rfl) rfl rfl fld_d4 rfl) ?_
  simp only [Act.put, List.setIfInBounds_toArray, List.set_cons_zero, List.set_cons_succ]
  refine mf_of (i := 12) rfl (by kernel_rfl) (by rfl) fun Q' hQ => ?_
  refine wpList_store1 rfl 56 _ _ rfl rfl rfl (by kernel_rfl) rfl HC4.out.1 HC4.out.2 ?_
  refine hQ _ _ (fun h => by cases h) ?_
  clear hQ hS4
  clear Q'
  simp only [Act.put]
  refine mf_done (by kernel_rfl) ?_
  have HX := Lib.hid (show DkTo w b T (N + 1) (d1.wrote i P) (W4.setCell ⟨b, 4, none⟩ (.slice a' (n + 1) c')) from by
    have e := HNX.out
    subst e
    obtain ⟨T'', k1, k2, k3⟩ := HM.out.wrote HP.out HI.out HV.out HM2.out HG2.out HB3.out HE4.out HG4.out HAT.out rfl
    exact ⟨T'', k1, HF.out.trans k2 fun k hk hT => (HT1.out k hT).resolve_right (by omega), fun k hk => by
      rcases k3 k hk with h | h
      · exact HT1.out k h
      · exact .inr (by have := HZ.out; omega)⟩)
  clear HM HM' HL HV HW HNE HNN HM2 HG2 HB3 HE4 HG4 HAT HC4 HE3 HE2 HA2 HA3 HC2 HC3 HP3 HF HT1 HT2
  go_wp2_with fail
  go_ret
  exact ⟨rfl, HX.out⟩
end Go.Proofs.Ytbbeekpndhfpjaa.Dk
end
