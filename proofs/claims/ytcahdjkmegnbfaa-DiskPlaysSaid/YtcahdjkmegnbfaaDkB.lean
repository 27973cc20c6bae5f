/- Contracts of the program's disk: Reads, Read. -/
import Derived.Test.YtcahdjkmegnbfaaDkA
set_option maxRecDepth 100000
set_option linter.unusedVariables false
namespace Go.Proofs.Ytcahdjkmegnbfaa.Dk
open Go.RowKit Go.Proofs.Ytcahdjkmegnbfaa.Row

theorem zero_int (w : World) : (zeroValue 3).run Try.prog w = .ok (.int .i64 0) w := by kernel_rfl

theorem reads_of (w : World) (b : Nat) (T : Nat → Prop) (N : Nat) (d : Dsk) (h : DkIs w b T N d) (i : Int) (hi : (Lit.int .i64 i).wf = true) :
    Calls Try.prog 22 #[.pointer (some ⟨b, 0, none⟩), .int .i64 i] w fun e w' => e = .returned (.int .i64 (d.reads i)) ∧ w' = w := by
  obtain ⟨bs, bl, br, a, c, h⟩ := h
  obtain ⟨c0, c1, c2, c3, c4, c5, c6, _⟩ := h.cells
  obtain ⟨f, hf, hv⟩ := h.reads
  have HL := Lib.hid hf
  have HV := Lib.hid (hv i hi)
  have HI := Lib.hid hi
  clear h c0 c1 c2 c3 c4 c5 hf hv hi
  generalize d.reads i = x at HV ⊢
  go_enter Try.func22, Try.ntmps22
  go_wp2_with (refine wpList_look_mpi (by rfl) _ _ rfl Try.underlying3 Try.underlying57 rfl HL.out (zero_int _) rfl HI.out HV.out ?_)
  go_ret
  exact ⟨rfl, rfl⟩

/-- One more read counted. -/
theorem DkM.read {w w' : World} {b : Nat} {T : Nat → Prop} {N : Nat} {d : Dsk} {bs bl br : Nat} {a : Option Addr} {c : Nat} (h : DkM w b T N d bs bl br a c) {i : Int} {f : Int → Option Value}
    (hv : ∀ i, (Lit.int .i64 i).wf = true → (f i).getD (.int .i64 0) = .int .i64 (d.reads i))
    (hm : MpI w' 3 .i64 br (N + 1) fun j => if j = i then some (.int .i64 (d.reads i + 1)) else f j) (hg : w.grownBy w' (some br)) : DkM w' b T (N + 1) (d.readI i) bs bl br a c := by
  obtain ⟨h0, ⟨f1, h1, h1'⟩, ⟨f2, h2, h2'⟩, _, h4, h5, h6, h7, h8, h9⟩ := h
  have hk : ∀ k, k < w.heap.size → k ≠ br → w'.heap[k]? = w.heap[k]? := fun k hk he => hg.block k hk fun e => he (by simpa using e)
  refine ⟨(hk b h0.lt h6.1.2.2.1).trans h0, ⟨f1, (h1.keep (hk bs h1.lt h6.1.2.2.2.2.1)).mono (by show N - d.n ≤ N + 1 - d.n; omega), h1'⟩, ⟨f2, (h2.keep (hk bl h2.lt h6.1.2.2.2.2.2)).mono (by omega), h2'⟩, ⟨_, hm, fun j hj => ?_⟩, h4.keep fun g hg' => hk g (h4.block g hg').2 (h6.2 g hg').2.2.2, h5, h6, fun k hT => Nat.lt_of_lt_of_le (h7 k hT) hg.size, ⟨by show d.n ≤ N + 1; omega, fun j => ?_, h8.2.2⟩, h9⟩
  · show _ = Value.int .i64 (if j = i then d.reads j + 1 else d.reads j)
    by_cases e : j = i
    · subst e
      simp only [if_true, Option.getD_some]
    · simp only [if_neg e]
      exact hv j hj
  · show 0 ≤ (if j = i then d.reads j + 1 else d.reads j) ∧ (if j = i then d.reads j + 1 else d.reads j) ≤ _
    have := h8.2.1 j
    split <;> omega

theorem seen_pag {w : World} {b : Nat} {T : Nat → Prop} {N : Nat} {d : Dsk} (h : DkIs w b T N d) (i : Int) : Pag (d.seen i) := by
  obtain ⟨bs, bl, br, a, c, h⟩ := h
  unfold Dsk.seen
  cases e : lastOf d.sec i d.n with
  | none => exact h.pgs.1 i
  | some k => exact (h.pgs.2 k (lastOf_lt e).1).1
theorem built_z : Try.prog.built 36 [] = some zP := by kernel_rfl

theorem read_no (w : World) (b : Nat) (T : Nat → Prop) (N : Nat) (d : Dsk) (h : DkIs w b T N d) (i : Int) (hr : d.reach i ≠ 0) :
    Calls Try.prog 21 #[.pointer (some ⟨b, 0, none⟩), .int .i64 i] w fun e w' => e = .returned (.tuple #[.agg zP, .int .i64 (d.reach i)]) ∧ DkTo w b T N d w' := by
  have hz := zero_page
  have hb := (Below.refl w.heap.size w).alloc (Nat.le_refl _) (.cells zP 36)
  have HC := Lib.hid (reach_of _ b T N d (h.below hb) i)
  have HX := Lib.hid (show DkTo w b T N d ((w.alloc (.cells zP 36)).setRow w.heap.size zP) from ⟨T, by rw [Row.setRow_self (At.new w zP 36)]; exact h.below hb, by rw [Row.setRow_self (At.new w zP 36)]; exact .of_below hb, fun _ h => .inl h⟩)
  have hne : (d.reach i != 0) = true := by rw [bne_iff_ne]; exact hr
  have HA := Lib.hid (At.new w zP 36)
  have HA2 := Lib.hid (HA.out.setRow (C := zP))
  clear h hb hr
  generalize d.reach i = r at hne HC ⊢
  go_enter Try.func21, Try.ntmps21
  go_wp2_with fail
  refine HC.out.mono ?_
  rintro e w1 ⟨rfl, rfl⟩
  go_wp2_with (first
    | refine wpList_build_parts (by rfl) 36 [] rfl _ rfl built_z ?_
    | refine wpList_store_row rfl 36 _ _ rfl w.heap.size zP rfl rfl _ _ HA.out (info_pag pag_z) rfl pag_z.one ?_)
  exact bodyPost_ret (v := .tuple #[.agg zP, .int .i64 r]) (results_any_int rfl _ _ w.heap.size zP _ rfl rfl HA2.out Try.underlying36 rfl (info_pag pag_z)) rfl ⟨rfl, HX.out⟩

set_option maxHeartbeats 1000000 in
/-- A read that goes well: the last write of the sector, or what is sure. -/
theorem read_yes (w : World) (b : Nat) (T : Nat → Prop) (N : Nat) (d : Dsk) (h : DkIs w b T N d) (i : Int) (hi : (Lit.int .i64 i).wf = true) (hr : d.reach i = 0) (hN : N ≤ 1000000) :
    Calls Try.prog 21 #[.pointer (some ⟨b, 0, none⟩), .int .i64 i] w fun e w' => e = .returned (.tuple #[.agg (d.seen i), .int .i64 0]) ∧ DkTo w b T (N + 1) (d.readI i) w' := by
  have hz := zero_page
  have hb := (Below.refl w.heap.size w).alloc (Nat.le_refl _) (.cells zP 36)
  have HC := Lib.hid (reach_of _ b T N d (h.below hb) i)
  rw [hr] at HC
  have HP := Lib.hid (seen_pag h i)
  obtain ⟨bs, bl, br, a, c, h⟩ := h
  have hA := At.new w zP 36
  have h1 : DkM (w.alloc (.cells zP 36)) b T N d bs bl br a c := h.fr (U := fun _ => False) (.of_below hb) fun _ _ h => h
  obtain ⟨c0, c1, c2, c3, c4, c5, c6, f0⟩ := h1.cells
  obtain ⟨f, hf, hv⟩ := h1.reads
  have HB := Lib.hid hb
  have HA := Lib.hid hA
  have HM := Lib.hid h1
  have HF := Lib.hid hf
  have HV := Lib.hid hv
  have HV1 := Lib.hid (hv i hi)
  have HI := Lib.hid hi
  have HN := Lib.hid (show N < maxLen by unfold maxLen; omega)
  have hx0 := (h1.num.2.1 i).1
  have hx1 := (h1.num.2.1 i).2
  have HX := Lib.hid (show IntKind.i64.wrap (d.reads i + 1) = d.reads i + 1 from by rw [IntKind.wrap_i64]; omega)
  have HT := Lib.hid (show ∀ k, T k → k < w.heap.size from h.lt)
  obtain ⟨x, hx⟩ : ∃ x, d.reads i = x := ⟨_, rfl⟩
  rw [hx] at HX hx0 hx1 HV1
  have HXE := Lib.hid hx
  have HEZ := Lib.hid (fun w : World => zero_int w)
  have HZP := Lib.hid (fun w : World => zero_page w)
  clear h h1 hb hA hf hv hi hr c0 c1 c2 c3 c4 hx f0
  revert HC HA HM HF c5 c6 HB
  generalize hW : World.alloc w _ = W
  intro HC c5 c6 HB HA HM HF
  by_cases hl : lastOf d.sec i d.n = none
  · have hs : d.seen i = d.sure i := by unfold Dsk.seen; rw [hl]
    rw [hs] at HP ⊢
    have HL := Lib.hid hl
    clear hl hs
    subst hW
    go_enter Try.func21, Try.ntmps21
    go_wp2_with fail
    refine HC.out.mono ?_
    rintro e w1 ⟨rfl, rfl⟩
    revert HF; revert HM; revert HA; revert HB; revert c6; revert c5; revert HC
    generalize World.alloc w _ = W
    intro HC c5 c6 HB HA HM HF
    go_wp2_with (first
      | refine wpList_look_mpi (by rfl) _ _ rfl Try.underlying3 Try.underlying57 rfl HF.out (HEZ.out _) rfl HI.out HV1.out ?_
      | (refine wpList_put_mpi rfl _ _ _ rfl Try.underlying3 Try.underlying57 rfl HF.out HN.out rfl rfl HI.out ?_
         intro W1 hm1 hg1
         have HM1 := Lib.hid (HM.out.read (i := i) HV.out (by rw [HXE.out]; exact hm1) hg1)
         have HA1 := Lib.hid (show At W1 w.heap.size zP 36 from (hg1.block _ HA.out.lt (by have := HT.out br HM.out.own.2.2.2.1; simp; omega)).trans HA.out)
         have HB1 := Lib.hid (show Fr T w W1 from (Fr.of_below HB.out).grown hg1 fun k hk => by simp only [Option.some.injEq] at hk; subst hk; exact .inl HM.out.own.2.2.2.1)
         obtain ⟨_, _, _, d3, d4, d5, _, d7⟩ := HM1.out.cells
         obtain ⟨f1, hf1, hv1⟩ := HM1.out.sure
         obtain ⟨f2, hf2, hv2⟩ := HM1.out.last
         have HF1 := Lib.hid (And.intro hf1 (show (f1 i).getD (.agg zP) = .agg (d.sure i) from hv1 i HI.out))
         have HF2 := Lib.hid (And.intro hf2 (show f2 i = (lastOf d.sec i d.n).map fun k => .int .i64 (k : Nat) from hv2 i HI.out))
         clear hf1 hv1 hf2 hv2 hm1 hg1 HC HA HM HF c5 c6 HB d7
         skip)
      | (refine wpList_look_ok_mpi (v := .int .i64 0) (bb := false) (by rfl) _ _ rfl Try.underlying3 Try.underlying57 rfl HF2.out.1 (HEZ.out _) rfl HI.out (by rw [HF2.out.2, HL.out]; rfl) (by rw [HF2.out.2, HL.out]; rfl) ?_)
      | refine wpList_look_mpi (by rfl) _ _ rfl Try.underlying3 Try.underlying56 rfl HF1.out.1 (HZP.out _) rfl HI.out HF1.out.2 ?_
      | (refine wpList_store_row rfl 36 _ _ rfl w.heap.size (d.sure i) rfl rfl _ _ HA1.out (info_pag HP.out) (by rw [HP.out.size]; exact pag_z.size) HP.out.one ?_
         have HA2 := Lib.hid (HA1.out.setRow (C := (d.sure i)))
         have HM2 := Lib.hid (show DkTo w b T (N + 1) (d.readI i) (W1.setRow w.heap.size (d.sure i)) from ⟨T, ⟨bs, bl, br, _, c, HM1.out.keep (by rw [size_setRow]; exact Nat.le_refl _) fun k hk => Go.setRow_other _ _ _ _ (by have := HT.out k hk; omega)⟩, HB1.out.setRow (.inr (Nat.le_refl _)) _, fun _ h => .inl h⟩)))
    exact bodyPost_ret (v := .tuple #[.agg (d.sure i), .int .i64 0]) (results_any_int rfl _ _ w.heap.size (d.sure i) _ rfl rfl HA2.out Try.underlying36 rfl (info_pag HP.out)) rfl ⟨rfl, HM2.out⟩
  · obtain ⟨k, hl⟩ := Option.ne_none_iff_exists'.1 hl
    have hs : d.seen i = d.pg k := by unfold Dsk.seen; rw [hl]
    have hk := (lastOf_lt hl).1
    rw [hs] at HP ⊢
    have HL := Lib.hid hl
    have HK := Lib.hid hk
    have HG := Lib.hid (HM.out.loose.addr (by omega))
    obtain ⟨g, hg, _, _⟩ := HG.out
    subst hg
    clear hl hs hk HG
    subst hW
    go_enter Try.func21, Try.ntmps21
    go_wp2_with fail
    refine HC.out.mono ?_
    rintro e w1 ⟨rfl, rfl⟩
    revert HF; revert HM; revert HA; revert HB; revert c6; revert c5; revert HC
    generalize World.alloc w _ = W
    intro HC c5 c6 HB HA HM HF
    go_wp2_with (first
      | refine wpList_look_mpi (by rfl) _ _ rfl Try.underlying3 Try.underlying57 rfl HF.out (HEZ.out _) rfl HI.out HV1.out ?_
      | (refine wpList_put_mpi rfl _ _ _ rfl Try.underlying3 Try.underlying57 rfl HF.out HN.out rfl rfl HI.out ?_
         intro W1 hm1 hg1
         have HM1 := Lib.hid (HM.out.read (i := i) HV.out (by rw [HXE.out]; exact hm1) hg1)
         have HA1 := Lib.hid (show At W1 w.heap.size zP 36 from (hg1.block _ HA.out.lt (by have := HT.out br HM.out.own.2.2.2.1; simp; omega)).trans HA.out)
         have HB1 := Lib.hid (show Fr T w W1 from (Fr.of_below HB.out).grown hg1 fun k hk => by simp only [Option.some.injEq] at hk; subst hk; exact .inl HM.out.own.2.2.2.1)
         obtain ⟨_, _, _, d3, d4, d5, _, d7⟩ := HM1.out.cells
         obtain ⟨f1, hf1, hv1⟩ := HM1.out.sure
         obtain ⟨f2, hf2, hv2⟩ := HM1.out.last
         have HF1 := Lib.hid (And.intro hf1 (show (f1 i).getD (.agg zP) = .agg (d.sure i) from hv1 i HI.out))
         have HF2 := Lib.hid (And.intro hf2 (show f2 i = (lastOf d.sec i d.n).map fun k => .int .i64 (k : Nat) from hv2 i HI.out))
         clear hf1 hv1 hf2 hv2 hm1 hg1 HC HA HM HF c5 c6 HB d7
         have hr1 := HM1.out.loose.range HK.out
         have HR := Lib.hid (show W1.rangeAt g (k * 65 + 1) (d.pg k).toList from fun j v hj => by
           rw [Array.getElem?_toList] at hj
           have := hr1 (1 + j) v (by rw [Array.getElem?_toList]; exact (wrR_1 _ _ j).trans hj)
           rwa [← Nat.add_assoc] at this)
         have rx := run_ex (g := g) (o := 0) (n := d.n) (c := c) elt_w HK.out
         rw [Nat.zero_add] at rx
         clear hr1
         skip)
      | (refine wpList_look_ok_mpi (v := .int .i64 k) (bb := true) (by rfl) _ _ rfl Try.underlying3 Try.underlying57 rfl HF2.out.1 (HEZ.out _) rfl HI.out (by rw [HF2.out.2, HL.out]; rfl) (by rw [HF2.out.2, HL.out]; rfl) ?_)
      | refine wpList_load_range (by rfl) 36 _ rfl g (k * 65 + 1) rfl HR.out Try.underlying36 rfl (info_pag HP.out) ?_
      | (refine wpList_store_row rfl 36 _ _ rfl w.heap.size (d.pg k) rfl rfl _ _ HA1.out (info_pag HP.out) (by rw [HP.out.size]; exact pag_z.size) HP.out.one ?_
         have HA2 := Lib.hid (HA1.out.setRow (C := (d.pg k)))
         have HM2 := Lib.hid (show DkTo w b T (N + 1) (d.readI i) (W1.setRow w.heap.size (d.pg k)) from ⟨T, ⟨bs, bl, br, _, c, HM1.out.keep (by rw [size_setRow]; exact Nat.le_refl _) fun k hk => Go.setRow_other _ _ _ _ (by have := HT.out k hk; omega)⟩, HB1.out.setRow (.inr (Nat.le_refl _)) _, fun _ h => .inl h⟩)))
    exact bodyPost_ret (v := .tuple #[.agg (d.pg k), .int .i64 0]) (results_any_int rfl _ _ w.heap.size (d.pg k) _ rfl rfl HA2.out Try.underlying36 rfl (info_pag HP.out)) rfl ⟨rfl, HM2.out⟩
end Go.Proofs.Ytcahdjkmegnbfaa.Dk
