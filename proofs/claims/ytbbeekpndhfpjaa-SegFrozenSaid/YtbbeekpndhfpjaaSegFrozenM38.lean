/- Texts of the walk, one behind the other. -/
import Derived.Test.YtbbeekpndhfpjaaSegFrozenM33
import Derived.Test.YtbbeekpndhfpjaaSegFrozenM37
import Derived.Laws.EntriesVeiled

section
/- SgPs: contract of seg's pages (the pages of a record, heads too). -/
set_option maxRecDepth 100000
set_option linter.unusedVariables false
set_option linter.unusedSimpArgs false
namespace Go.Proofs.Ytbbeekpndhfpjaa.Row
open Go.RowKit
section
variable {ops : Array Oper} {Q : Exit → Act → World → Prop} {S : World → Prop} {F : Nat → Bool} {fuel : Nat} {listed : Array Bool} {a : Act} {w : World} {oi : Oper} {i d : Nat} {rs : List Nat}
/-- A call of a func value by its contract. -/
theorem af_callV {f : FuncId} {y : Operand} {xs : Array Operand} {ats : Array TypeId} {caps : Array Value} {R : Value → World → Prop} (args : Array Value) (hi : ops[i]? = some oi) (hd : oi.dst = some d) (hw : Region.wanted oi (yielded ops a.tmps) = true)
    (ho : oi.op = .call { callee := .value y, args := xs, argTypes := ats }) (hy : a.eval y = .func (.func f) #[] caps) (hn : ∀ args w, (callFunc f args).run Try.prog w = .ok (.enter f args) w)
    (ha : xs.map a.eval ++ caps = args) (hc : Calls Try.prog f args w fun e w' => ∃ v, e = .returned v ∧ R v w') (hR : ∀ v w', R v w' → S w')
    (h : ∀ v w', R v w' → wpAnyF Try.prog .any ops (NoPanic Q) S F fuel (listed.setIfInBounds i true) (a.put (some d) v) w')
    (hs : AllReadyF Try.prog .any ops (NoPanic Q) S F fuel listed a w rs) : AllReadyF Try.prog .any ops (NoPanic Q) S F fuel listed a w (i :: rs) := by
  refine AllReadyF.cons hi (fun K hK => ?_) hs
  rw [if_pos hw]
  obtain ⟨dst, op, type, pos, after, guard⟩ := oi
  dsimp only at ho hd
  subst ho hd
  have e : execOp a.eval { dst := some d, op := .call { callee := .value y, args := xs, argTypes := ats }, type, pos, after, guard } = callFunc f ((#[] ++ xs.map a.eval) ++ caps) := by
    unfold execOp resolve
    simp only [hy]
    rfl
  unfold Oper.wp
  rw [e, Array.empty_append, hn, ha]
  show Calls Try.prog f args w _
  refine hc.mono fun e w' ⟨v, he, hb⟩ => ?_
  subst he
  exact hK.out _ _ (fun _ => hR v w' hb) (h v w' hb)
end
end Go.Proofs.Ytbbeekpndhfpjaa.Row
namespace Go.Proofs.Ytbbeekpndhfpjaa.Sg
open Go.RowKit Go.Proofs.Ytbbeekpndhfpjaa.Row Go.Proofs.Ytbbeekpndhfpjaa.Pa Go.Proofs.Ytbbeekpndhfpjaa.Fg Go.Proofs.Ytbbeekpndhfpjaa.Dk Go.Proofs.Ytbbeekpndhfpjaa.Crc

/-- Pages as elements. -/
def pgF (l : List Pv) (i : Nat) : Array Value := pgV (l.getD i Pv.zero)
/-- The same page, of another number. -/
def Pv.nr (p : Pv) (n : Nat) : Pv := ⟨p.e, n, p.k, p.f, p.l, p.d⟩
/-- While pages are listed: the boxes of the next page and of the list, and the list. -/
structure PgB (wb : World) (ga gl N : Nat) (l : List Pv) (a : Option Addr) (c : Nat) (w : World) : Prop where
  at_ : At w ga #[.int .i64 (N : Nat)] 3
  li : At w gl #[.slice a l.length c] 80
  els : Els w wb.heap.size 73 6 a l.length c (pgF l)
  fr : Fr (fun k => k = ga ∨ k = gl) wb w
  ha : ga < wb.heap.size
  hl : gl < wb.heap.size
  ne : ga ≠ gl
section
variable {wb w w' : World} {ga gl N c : Nat} {l : List Pv} {a : Option Addr}
theorem PgB.next (h : PgB wb ga gl N l a c w) (hb : Below w.heap.size w w') : PgB wb ga gl N l a c w' :=
  ⟨h.at_.below hb h.at_.lt, h.li.below hb h.li.lt, h.els.below hb, h.fr.below_trans hb, h.ha, h.hl, h.ne⟩
/-- A page more. -/
theorem PgB.more (h : PgB wb ga gl N l a c w) (p : Pv) {w2 : World} {a' : Option Addr} {c' : Nat} (h4 : Els w2 wb.heap.size 73 6 a' (l.length + 1) c' (catE (pgF l) l.length fun _ => pgV p))
    (hg : w.grownBy w2 (Value.slice a l.length c).ownBlock) :
    At w2 ga #[.int .i64 (N : Nat)] 3 ∧ At w2 gl #[.slice a l.length c] 80 ∧ PgB wb ga gl N (l ++ [p]) a' c' (w2.setCell ⟨gl, 0, none⟩ (.slice a' (l.length + 1) c')) := by
  have k : ∀ {b A t}, At w b A t → b < wb.heap.size → At w2 b A t := fun h1 hb => (hg.block _ h1.lt fun e => by
    have := (h.els.block _ e.symm).1
    omega).trans h1
  have k1 := k h.at_ h.ha
  have k2 := k h.li h.hl
  have hn : (l ++ [p]).length = l.length + 1 := by simp
  refine ⟨k1, k2, ⟨k1.setCell_other h.ne, by rw [hn]; exact k2.setCell, ?_, ?_, h.ha, h.hl, h.ne⟩⟩
  · rw [hn]
    refine (h4.setCell _ fun k hk => by have := (h4.block k hk).1; have := h.hl; show k ≠ gl; omega).ext fun i hi => ?_
    unfold catE pgF
    by_cases hi2 : i < l.length
    · rw [if_pos hi2, List.getD_eq_getElem?_getD, List.getD_eq_getElem?_getD, List.getElem?_append_left hi2]
    · obtain rfl : i = l.length := by omega
      rw [if_neg hi2, List.getD_eq_getElem?_getD, List.getElem?_append_right (Nat.le_refl _), Nat.sub_self]
      rfl
  · exact (h.fr.grown hg fun k e => .inr (h.els.block k e).1).setCell (p := ⟨gl, 0, none⟩) (.inl (.inr rfl)) _
theorem PgB.num (h : PgB wb ga gl N l a c w) (m : Nat) : PgB wb ga gl m l a c (w.setCell ⟨ga, 0, none⟩ (.int .i64 (m : Nat))) :=
  ⟨h.at_.setCell, h.li.setCell_other h.ne.symm, h.els.setCell _ fun k hk => by have := (h.els.block k hk).1; have := h.ha; show k ≠ ga; omega, h.fr.setCell (p := ⟨ga, 0, none⟩) (.inl (.inl rfl)) _, h.ha, h.hl, h.ne⟩
end

set_option maxHeartbeats 1000000 in
theorem put_as {wb w : World} {ga gl N c : Nat} {l : List Pv} {a : Option Addr} (h : PgB wb ga gl N l a c w) (p : Pv) (hN : N ≤ 1000000) (hl : l.length ≤ 10000) :
    Calls Try.prog 46 #[.agg (pgV p), .pointer (some ⟨ga, 0, none⟩), .pointer (some ⟨gl, 0, none⟩)] w fun e w' => e = .returned (.tuple #[]) ∧ (∃ a' c', PgB wb ga gl (N + 1) (l ++ [Pv.nr p N]) a' c' w') ∧ Fr (fun k => k = ga ∨ k = gl ∨ (Value.slice a l.length c).ownBlock = some k) w w' := by
  have HH := Lib.hid h
  obtain ⟨m, hm⟩ : ∃ m, l.length = m := ⟨_, rfl⟩
  have c0 : w.cell? ⟨ga, 0, none⟩ = some (.int .i64 N) := (h.at_.cell 0).trans rfl
  have hga := h.at_.lt
  have hgl := h.li.lt
  have c1 : (w.alloc (.cells (pgV p) 73)).cell? ⟨ga, 0, none⟩ = some (.int .i64 N) := ((h.at_.alloc _).cell 0).trans rfl
  have c2 : (w.alloc (.cells (pgV p) 73)).cell? ⟨w.heap.size, 1, none⟩ = some (.int .u32 p.n) := ((At.new w (pgV p) 73).cell 1).trans rfl
  have c3 : (w.alloc (.cells (pgV p) 73)).frozen? ⟨w.heap.size, 1, none⟩ = false := (At.new w (pgV p) 73).frozen 1
  clear h
  go_enter Try.func46, Try.ntmps46
  go_upto_region 2 with fail
  have HB := Lib.hid (show (w.alloc (.cells ((pgV p).setIfInBounds 1 (.int .u32 (N : Int))) 73)) = w.alloc (.cells (pgV (Pv.nr p N)) 73) from rfl)
  rw [HB.out]
  have H1 := Lib.hid (HH.out.next ((Below.refl _ _).alloc (Nat.le_refl _) (.cells (pgV (Pv.nr p N)) 73)))
  have HP1 := Lib.hid (At.new w (pgV (Pv.nr p N)) 73)
  have HF1 := Lib.hid (show Fr (fun k => k = ga ∨ k = gl ∨ (Value.slice a l.length c).ownBlock = some k) w (w.alloc (.cells (pgV (Pv.nr p N)) 73)) from (Fr.refl _ _).alloc _)
  obtain ⟨g, hg⟩ : ∃ g, w.heap.size = g := ⟨_, rfl⟩
  rw [hg] at HP1 ⊢
  clear HB c0 c1 c2 c3 HH
  revert H1 HP1 HF1
  generalize w.alloc (.cells (pgV (Pv.nr p N)) 73) = W1
  intro H1 HF1 HP1
  clear hga hgl hg
  have d0 : W1.cell? ⟨gl, 0, none⟩ = some (.slice a m c) := by rw [← hm]; exact (H1.out.li.cell 0).trans rfl
  have HM := Lib.hid hm
  have hm9 : m ≤ 10000 := by omega
  clear hm hl
  go_wp2_with (first
    | (refine wpList_load_w (by rfl) 73 _ rfl g rfl HP1.out Try.underlying73 rfl (info_pgv _) ?_)
    | (refine wpList_slice_el elt_p (R := pgV (Pv.nr p N)) rfl (by omega) rfl _ rfl rfl rfl ?_
       have H2 := Lib.hid (H1.out.next ((Below.refl _ _).alloc (Nat.le_refl _) (.cells (pgV (Pv.nr p N)) 73))))
    | (at_builtin; refine wpList_append_els elt_p rfl _ _ rfl rfl (by rw [← HM.out]; exact H2.out.els) W1.heap.size 0 1 1 rfl (wid_one (R := pgV (Pv.nr p N)) rfl (pgv_one _)) (At.one (At.new W1 _ _)) (by omega) H2.out.fr.size ?_
       intro a' c' W3 h4 hb4 hg4 hat4
       rw [← HM.out] at h4 hg4 hat4
       have HMo := Lib.hid (H2.out.more (Pv.nr p N) h4 hg4)
       have HF3 := Lib.hid ((HF1.out.alloc (.cells (pgV (Pv.nr p N)) 73)).grown hg4 fun k e => .inl (.inr (.inr e)))
       have d3 : W3.cell? ⟨gl, 0, none⟩ = some (.slice a m c) := by rw [← HM.out]; exact (HMo.out.2.1.cell 0).trans rfl
       have f3 : W3.frozen? ⟨gl, 0, none⟩ = false := HMo.out.2.1.frozen 0
       have d5 : (W3.setCell ⟨gl, 0, none⟩ (.slice a' (m + 1) c')).cell? ⟨ga, 0, none⟩ = some (.int .i64 N) := by rw [← HM.out]; exact (HMo.out.2.2.at_.cell 0).trans rfl
       have f5 : (W3.setCell ⟨gl, 0, none⟩ (.slice a' (m + 1) c')).frozen? ⟨ga, 0, none⟩ = false := by rw [← HM.out]; exact HMo.out.2.2.at_.frozen 0
       clear h4 hb4 hg4 hat4))
  go_end0
  rw [← HM.out]
  exact ⟨rfl, ⟨a', c', HMo.out.2.2.num (N + 1)⟩, (HF3.out.setCell (p := ⟨gl, 0, none⟩) (.inl (.inr (.inl rfl))) _).setCell (p := ⟨ga, 0, none⟩) (.inl (.inl rfl)) _⟩

theorem enter_put (args : Array Value) (w : World) : (callFunc 46 args).run Try.prog w = .ok (.enter 46 args) w := run_enter Try.func46 (by kernel_rfl) rfl args w
theorem fld_l0 : FldO 60 0 0 := fldO Try.underlying60 rfl rfl (s := 1) (by kernel_rfl) (by omega)
theorem fld_l1 : FldO 60 1 1 := fldO Try.underlying60 rfl rfl (s := 1) (by kernel_rfl) (by omega)
theorem fld_l2 : FldO 60 2 2 := fldO Try.underlying60 rfl rfl (s := 1) (by kernel_rfl) (by omega)
theorem built_hd (a k : Int) (s : ByteArray) : Try.prog.built 73 [(0, .int .u32 a), (2, .int .i64 k), (5, .string s)] = some #[.int .u32 a, .int .u32 0, .int .i64 k, .bool false, .bool false, .string s] := by kernel_rfl
theorem zero_pl (w : World) : (zeroValue 80).run Try.prog w = .ok (.slice none 0 0) w := by kernel_rfl
theorem zero_int (w : World) : (zeroValue 3).run Try.prog w = .ok (.int .i64 0) w := by kernel_rfl

/-- The loop's state: i pieces are listed. -/
def PgI (wb : World) (ga gl ep nx : Nat) (r : List UInt8) (i : Nat) (w : World) : Prop :=
  ∃ l a c, PgB wb ga gl (nx + l.length) l a c w ∧ l ++ wrs ep r (np r.length - i) i (nx + l.length) = wr ep r nx
set_option maxHeartbeats 4000000 in
theorem pages_as {w : World} {b bd : Nat} {T : Nat → Prop} {x : Lg} (h : LM w b T bd x) (r : List UInt8) (h1 : 1 ≤ r.length) (hr : r.length ≤ 4096) :
    Calls Try.prog 32 #[.pointer (some ⟨b, 0, none⟩), .string (tx r)] w fun e w' => ∃ a c, e = .returned (.slice a (wr x.ep r x.nx).length c) ∧ Els w' w.heap.size 73 6 a (wr x.ep r x.nx).length c (pgF (wr x.ep r x.nx)) ∧ Below w.heap.size w w' := by
  have HR := Lib.hid (And.intro h1 hr)
  have HW9 := Lib.hid (show (wr x.ep r x.nx).length ≤ 200 by rw [wr_len]; have := nd_le (np r.length) x.nx; unfold np at this ⊢; omega)
  have hnx := h.nx
  have hep := h.ep
  obtain ⟨ep, hepp⟩ : ∃ ep, x.ep = ep := ⟨_, rfl⟩
  obtain ⟨nx, hnxx⟩ : ∃ nx, x.nx = nx := ⟨_, rfl⟩
  rw [hepp] at hep HW9 ⊢
  rw [hnxx] at hnx HW9 ⊢
  have c2 : w.cell? ⟨b, 2, none⟩ = some (.int .i64 (nx : Nat)) := by rw [← hnxx]; exact h.flds.1.2.2.1
  have hrow := h.row
  have hlt := hrow.lt
  have HROW := Lib.hid hrow
  have HEP := Lib.hid hepp
  obtain ⟨R, hR⟩ : ∃ R, tx r = R := ⟨_, rfl⟩
  obtain ⟨cnt, hcnt⟩ : ∃ cnt, np r.length = cnt := ⟨_, rfl⟩
  have hc84 : cnt ≤ 84 := by rw [← hcnt]; unfold np; omega
  have HC := Lib.hid fun w => cutYes ep r w hep h1 hr
  rw [hR, hcnt] at HC
  rw [hR]
  have HCNT := Lib.hid hcnt
  have hmf : ∀ (fn : Fn) (first cap : Array Value) (w : World), (Instr.makeFunc fn first cap).run Try.prog w = .ok (.func fn first cap) w := fun _ _ _ _ => rfl
  have hz1 := zero_pl
  have hz2 := zero_int
  have hz3 := zero_pgv
  obtain ⟨W1, hW1⟩ : ∃ W1, w.alloc (.cells #[.slice none 0 0] 80) = W1 := ⟨_, rfl⟩
  have c2b : W1.cell? ⟨b, 2, none⟩ = some (.int .i64 (nx : Nat)) := by rw [← hW1]; rw [← hnxx]; exact (LM.below h ((Below.refl _ _).alloc (Nat.le_refl _) _)).flds.1.2.2.1
  have HW1 := Lib.hid hW1
  clear h h1 hr hcnt hR hepp hnxx hrow
  go_enter Try.func32, Try.ntmps32
  go_upto_region 4 with fail
  obtain ⟨gl, hgl⟩ : ∃ g, w.heap.size = g := ⟨_, rfl⟩
  obtain ⟨ga, hga⟩ : ∃ g, W1.heap.size = g := ⟨_, rfl⟩
  have hb1 : Below w.heap.size w W1 := by rw [← HW1.out]; exact (Below.refl _ _).alloc (Nat.le_refl _) _
  have hA1 : At W1 gl #[.slice none 0 0] 80 := by rw [← HW1.out, ← hgl]; exact At.new _ _ _
  have hs1 : ga = gl + 1 := by rw [← hga, ← HW1.out, World.size_alloc, hgl]
  have HA2 := Lib.hid (show At (W1.alloc (.cells #[.int .i64 (nx : Nat)] 3)) ga #[.int .i64 (nx : Nat)] 3 from hga ▸ At.new _ _ _)
  have HL2 := Lib.hid (show At (W1.alloc (.cells #[.int .i64 (nx : Nat)] 3)) gl #[.slice none 0 0] 80 from hA1.alloc _)
  have HB2 := Lib.hid (hb1.alloc (by rw [hga, hgl]; omega) (.cells #[.int .i64 (nx : Nat)] 3))
  have HSZ := Lib.hid (show (W1.alloc (.cells #[.int .i64 (nx : Nat)] 3)).heap.size = ga + 1 from by rw [World.size_alloc, hga])
  clear hW1
  rw [hgl, hga]
  revert HA2 HL2 HB2 HSZ
  generalize W1.alloc (.cells #[.int .i64 (nx : Nat)] 3) = W2
  intro HA2 HL2 HB2 HSZ
  have HGL := Lib.hid (And.intro hgl hs1)
  clear hb1 hA1 c2b HW1 hga hgl hs1 c2
  clear W1
  have c1 : W2.cell? ⟨b, 1, none⟩ = some (.int .u32 (ep : Nat)) := by rw [← HEP.out]; exact ((HROW.out.below HB2.out hlt).cell 1).trans rfl
  go_wp2_with fail
  refine (HC.out _).mono ?_
  rintro en w3 ⟨pa, pcap, rfl, hE, hb3⟩
  have HB3 := Lib.hid hb3
  have hcp : 0 < cnt := by have := HCNT.out; have := np_pos HR.out.1; omega
  obtain ⟨gp, rfl, hg1, hg2⟩ := hE.addr hcp
  have HE := Lib.hid hE
  have HGP := Lib.hid (show ga < gp ∧ gl < gp ∧ gp < w3.heap.size by have := HSZ.out; have := HGL.out.2; omega)
  have HI := Lib.hid (show PgI w3 ga gl ep nx r 0 w3 from ⟨[], none, 0, ⟨HA2.out.below hb3 HA2.out.lt, HL2.out.below hb3 HL2.out.lt, Els.nil _ _ _ _ _, Fr.refl _ _, by have := HGP.out; omega, by have := HGP.out; omega, by have := HGL.out.2; omega⟩, by
    rw [Nat.sub_zero]; rfl⟩)
  have HROW3 := Lib.hid ((HROW.out.below HB2.out hlt).below hb3 (by have := HB2.out.size; omega))
  clear hE hb3 hg1 hg2 c1 HA2 HL2 hcp
  go_wp2_with fail
  go_loopw [28] (fun i w' => ∃ k : Nat, k ≤ cnt ∧ i = .int .i64 k ∧ Hid (PgI w3 ga gl ep nx r k w')) (fun i _ => 5000 - (intOf i).toNat)
  case atStart => exact ⟨0, Nat.zero_le _, rfl, HI⟩
  case round =>
    obtain ⟨k, hk, rfl, hI⟩ := hrel
    clear HI
    by_cases hlt2 : k < cnt
    · have k1 : decide ((k : Int) < (cnt : Int)) = true := decide_eq_true (by omega)
      obtain ⟨l, a, c, hB, hW⟩ := hI.out
      have hlen := congrArg List.length hW
      rw [List.length_append] at hlen
      have hl9 : l.length ≤ 200 := by have := HW9.out; omega
      rw [HCNT.out, show cnt - k = (cnt - (k + 1)) + 1 by omega] at hW
      have HRG := Lib.hid (show wr.rangeAt gp (k * 6) (pgV (pc ep r k)).toList from (HE.out.keep (w' := wr) fun g hg => by
        obtain rfl : gp = g := by injection hg
        exact hB.fr.block gp HGP.out.2.2 fun h => by have := HGP.out; omega).range hlt2)
      obtain ⟨N, hN⟩ : ∃ N, nx + l.length = N := ⟨_, rfl⟩
      have HNN := Lib.hid hN
      rw [hN] at hB hW
      have hN9 : N ≤ 6000 := by omega
      have rx := run_ex (g := gp) (o := 0) (n := cnt) (c := pcap) elt_p hlt2
      rw [Nat.zero_add] at rx
      obtain ⟨g1, hg1⟩ : ∃ g, wr.heap.size = g := ⟨_, rfl⟩
      have hpc : ∀ W, At W g1 (pgV Pv.zero) 73 → True := fun _ _ => trivial
      have HZ := Lib.hid (show At (wr.alloc (.cells (pgV Pv.zero) 73)) g1 (pgV Pv.zero) 73 from hg1 ▸ At.new _ _ _)
      have HP := Lib.hid (show At ((wr.alloc (.cells (pgV Pv.zero) 73)).setRow g1 (pgV (pc ep r k))) g1 (pgV (pc ep r k)) 73 from HZ.out.setRow)
      have HB := Lib.hid (hB.next (show Below wr.heap.size wr ((wr.alloc (.cells (pgV Pv.zero) 73)).setRow g1 (pgV (pc ep r k))) from below_setRow' ((Below.refl _ _).alloc (Nat.le_refl _) _) (Nat.le_of_eq hg1) _))
      have HOW := Lib.hid (show ∀ q, (Value.slice a l.length c).ownBlock = some q → q ≠ g1 from fun q hq => by have := (hB.els.block q hq).2; omega)
      have HG1 := Lib.hid (show w3.heap.size ≤ g1 by rw [← hg1]; exact hB.fr.size)
      have HW := Lib.hid hW
      have HL := Lib.hid (fun w => leads_as N w (by omega))
      have HLL := Lib.hid hl9
      obtain ⟨PC, hPC⟩ : ∃ PC, pc ep r k = PC := ⟨_, rfl⟩
      rw [hPC] at HRG HP HB
      have HPC := Lib.hid hPC
      clear hB hW hlen hl9 hpc hPC hN hI
      go_upto_region 8 with (first
        | (refine wpList_load_range (by rfl) 73 _ rfl gp (k * 6) rfl HRG.out Try.underlying73 rfl (info_pgv _) ?_)
        | (refine wpList_store_row rfl 73 _ _ rfl g1 (pgV PC) rfl rfl _ _ HZ.out (info_pgv _) rfl (pgv_one _) ?_
           clear HZ
           revert HB HP
           generalize World.setRow _ _ _ = W3
           intro HB HP
           have c0 : W3.cell? ⟨ga, 0, none⟩ = some (.int .i64 N) := (HB.out.at_.cell 0).trans rfl))
      by_cases h16 : N % 16 = 0
      · rw [decide_eq_true h16] at HL
        have HROWW := Lib.hid (HROW3.out.fr HB.out.fr (fun hx => by have := HGL.out; omega))
        go_wp2_with fail
        refine (HL.out _).mono ?_
        rintro e w9 ⟨rfl, rfl⟩
        go_wp2_with fail
        refine mf_start (fun w' => At w' b (lR bd x.ep x.nx x.fz) 60) (fun _ => false) (HROWW.out.drewN 1) fun hS => ?_
        refine mf_yield (i := 0) (d := 34) (.func (.func 46) #[] #[.pointer (some ⟨ga, 0, none⟩), .pointer (some ⟨gl, 0, none⟩)]) rfl rfl (by kernel_rfl) (by kernel_rfl) (by kernel_rfl) (by kernel_rfl) hS (y_run (by rfl) fun _ => by rfl) ?_
        simp only [Act.put, List.setIfInBounds_toArray, List.set_cons_zero, List.set_cons_succ]
        refine mf_yield (i := 1) (d := 35) (.pointer (some ⟨b, 0, none⟩)) rfl rfl (by kernel_rfl) (by kernel_rfl) (by kernel_rfl) (by kernel_rfl) hS (y_run (by rfl) fun _ => by rfl) ?_
        simp only [Act.put, List.setIfInBounds_toArray, List.set_cons_zero, List.set_cons_succ]
        refine mf_yield (i := 2) (d := 36) (.pointer (some ⟨b, 0, none⟩)) rfl rfl (by kernel_rfl) (by kernel_rfl) (by kernel_rfl) (by kernel_rfl) hS (y_run (by rfl) fun _ => by rfl) ?_
        simp only [Act.put, List.setIfInBounds_toArray, List.set_cons_zero, List.set_cons_succ]
        refine mf_yield (i := 3) (d := 37) (.pointer (some ⟨b, 1, none⟩)) rfl rfl (by kernel_rfl) (by kernel_rfl) (by kernel_rfl) (by kernel_rfl) hS (y_fieldO (by rfl) rfl rfl fld_l1 (Nat.zero_add _)) ?_
        simp only [Act.put, List.setIfInBounds_toArray, List.set_cons_zero, List.set_cons_succ]
        refine mf_yield (i := 4) (d := 38) (.int .u32 ep) rfl rfl (by kernel_rfl) (by kernel_rfl) (by kernel_rfl) (by kernel_rfl) hS (y_cell1 (by rfl) rfl rfl Try.underlying40 rfl (fun w h => by rw [← HEP.out]; exact (h.cell 1).trans rfl)) ?_
        simp only [Act.put, List.setIfInBounds_toArray, List.set_cons_zero, List.set_cons_succ]
        have hBd := HB.out.next (Below.refl w9.heap.size w9).drew
        refine mf_of (i := 5) rfl (by kernel_rfl) (by rfl) fun Q' hQ => ?_
        refine wpList_y (v := .int .i64 N) (y_cell1 (by rfl) rfl rfl Try.underlying3 rfl (fun w h => by rw [h]; exact (hBd.at_.cell 0).trans rfl)) ?_
        refine hQ _ _ (fun _ => hS) ?_
        clear hQ
        clear Q'
        show wpAnyF _ _ _ _ _ _ _ _ (Act.put _ (some 39) _) _
        simp only [Act.put, List.setIfInBounds_toArray, List.set_cons_zero, List.set_cons_succ]
        refine mf_ready [6] (by kernel_rfl) (by simp) (af_call (i := 6) (d := 40) (R := fun v w' => v = .string (tx (fourL (N / 16))) ∧ Below w9.heap.size w9 w') #[.int .i64 N] rfl rfl (by rfl) rfl enter_segment (by kernel_rfl) ((segment_as N _ (by omega)).mono fun e w' h => ⟨_, h.1, rfl, below_trans (Below.refl w9.heap.size w9).drew h.2 (Nat.le_refl _)⟩) (fun v w' h => HROWW.out.below h.2 HROWW.out.lt) ?_ AllReadyF.nil)
        rintro v w4 ⟨rfl, h4⟩ hS4
        clear hS hBd
        simp only [Act.put, List.setIfInBounds_toArray, List.set_cons_zero, List.set_cons_succ]
        refine mf_yield (i := 7) (d := 41) (.agg (pgV ⟨ep, 0, 1, false, false, fourL (N / 16)⟩)) rfl rfl (by kernel_rfl) (by kernel_rfl) (by kernel_rfl) (by kernel_rfl) hS4 (y_build (by rfl) rfl (by first | exact built_hd _ _ _ | (simp; exact built_hd _ _ _))) ?_
        simp only [Act.put, List.setIfInBounds_toArray, List.set_cons_zero, List.set_cons_succ]
        have HB4 := Lib.hid (HB.out.next h4)
        have HP4 := Lib.hid (HP.out.below h4 HP.out.lt)
        refine mf_ready [8] (by kernel_rfl) (by simp) (af_callV (i := 8) (d := 42) (R := fun v w' => v = .tuple #[] ∧ (∃ a' c', PgB w3 ga gl (N + 1) (l ++ [Pv.nr ⟨ep, 0, 1, false, false, fourL (N / 16)⟩ N]) a' c' w') ∧ At w' g1 (pgV PC) 73 ∧ At w' b (lR bd x.ep x.nx x.fz) 60) #[.agg (pgV ⟨ep, 0, 1, false, false, fourL (N / 16)⟩), .pointer (some ⟨ga, 0, none⟩), .pointer (some ⟨gl, 0, none⟩)] rfl rfl (by rfl) rfl rfl enter_put (by kernel_rfl) ((put_as HB4.out ⟨ep, 0, 1, false, false, fourL (N / 16)⟩ (by omega) (by have := HLL.out; omega)).mono fun e w' h => ⟨_, h.1, rfl, h.2.1, HP4.out.fr h.2.2 fun hx => by
          have h1 := HG1.out
          have h2 := HGP.out
          rcases hx with hx | hx | hx
          · omega
          · omega
          · exact HOW.out g1 hx rfl, hS4.fr h.2.2 fun hx => by
          have h1 := HGL.out
          rcases hx with hx | hx | hx
          · omega
          · omega
          · have := (HB4.out.els.block b hx).1; have := HB4.out.hl; omega⟩) (fun v w' h => h.2.2.2) ?_ AllReadyF.nil)
        rintro v w5 ⟨rfl, ⟨a5, c5, h5⟩, hp5, _⟩
        clear h4 HB4 HP4 hS4
        simp only [Act.put, List.setIfInBounds_toArray, List.set_cons_zero, List.set_cons_succ]
        refine mf_done (by kernel_rfl) ?_
        have HB5 := Lib.hid h5
        have HP5 := Lib.hid hp5
        clear h5 hp5 HB HP HROWW c0
        go_wp2_with (refine wpList_load_w (by rfl) 73 _ rfl g1 rfl HP5.out Try.underlying73 rfl (info_pgv _) ?_)
        refine (put_as HB5.out PC (by omega) (by have := HLL.out; simp; omega)).mono ?_
        rintro e w6 ⟨rfl, ⟨a6, c6, h6⟩, _⟩
        have HI6 := Lib.hid (show PgI w3 ga gl ep nx r (k + 1) w6 from ⟨_, a6, c6, by
          have e : nx + (l ++ [Pv.nr ⟨ep, 0, 1, false, false, fourL (N / 16)⟩ N] ++ [Pv.nr PC (N + 1)]).length = N + 1 + 1 := by
            rw [← HNN.out]; simp; omega
          rw [e]; exact h6, by
          have e : nx + (l ++ [Pv.nr ⟨ep, 0, 1, false, false, fourL (N / 16)⟩ N] ++ [Pv.nr PC (N + 1)]).length = N + 2 := by
            rw [← HNN.out]; simp; omega
          rw [e, HCNT.out, ← HW.out, wrs_head h16, List.append_assoc, List.append_assoc, ← HPC.out]
          rfl⟩)
        clear h6
        go_wp2_with fail
        go_roundw
        case rel => exact ⟨k + 1, by omega, by go_num, HI6⟩
        case measure => simp [intOf]; omega
      · rw [decide_eq_false h16] at HL
        go_wp2_with fail
        refine (HL.out _).mono ?_
        rintro e w9 ⟨rfl, rfl⟩
        go_wp2_with (refine wpList_load_w (by rfl) 73 _ rfl g1 rfl HP.out Try.underlying73 rfl (info_pgv _) ?_)
        refine (put_as HB.out PC (by omega) (by have := HLL.out; omega)).mono ?_
        rintro e w6 ⟨rfl, ⟨a6, c6, h6⟩, _⟩
        have HI6 := Lib.hid (show PgI w3 ga gl ep nx r (k + 1) w6 from ⟨_, a6, c6, by
          have e : nx + (l ++ [Pv.nr PC N]).length = N + 1 := by
            rw [← HNN.out]; simp; omega
          rw [e]; exact h6, by
          have e : nx + (l ++ [Pv.nr PC N]).length = N + 1 := by
            rw [← HNN.out]; simp; omega
          rw [e, HCNT.out, ← HW.out, wrs_data h16, List.append_assoc, ← HPC.out]
          rfl⟩)
        clear h6
        go_wp2_with fail
        go_roundw
        case rel => exact ⟨k + 1, by omega, by go_num, HI6⟩
        case measure => simp [intOf]; omega
    · obtain rfl : k = cnt := by omega
      have k1 : decide ((k : Int) < (k : Int)) = false := decide_eq_false (by omega)
      obtain ⟨l, a, c, hB, hW⟩ := hI.out
      rw [HCNT.out, Nat.sub_self] at hW
      have hW2 : l = Sg.wr ep r nx := by rw [← hW]; exact (List.append_nil l).symm
      have c0 : wr.cell? ⟨gl, 0, none⟩ = some (.slice a l.length c) := (hB.li.cell 0).trans rfl
      have HB := Lib.hid hB
      have HW2 := Lib.hid hW2
      clear hB hW hW2 hI
      go_wp2_with fail
      go_ret
      have hs3 := HB3.out.size
      have hs2 := HB2.out.size
      refine ⟨a, c, by rw [← HW2.out]; rfl, by rw [← HW2.out]; exact HB.out.els.wide (by omega), ?_⟩
      exact (((Fr.of_below (below_trans HB2.out HB3.out HB2.out.size)).trans HB.out.fr (U := fun k => k = ga ∨ k = gl) (T := fun _ => False) fun q hq hx => by have := HGL.out; omega)).none
end Go.Proofs.Ytbbeekpndhfpjaa.Sg
end

section
/- SgAp: contracts of seg's write and Append; all that is asked of the log. -/
set_option maxRecDepth 100000
set_option linter.unusedVariables false
set_option linter.unusedSimpArgs false
namespace Go.Proofs.Ytbbeekpndhfpjaa.Sg
open Go.RowKit Go.Proofs.Ytbbeekpndhfpjaa.Row Go.Proofs.Ytbbeekpndhfpjaa.Pa Go.Proofs.Ytbbeekpndhfpjaa.Fg Go.Proofs.Ytbbeekpndhfpjaa.Dk Go.Proofs.Ytbbeekpndhfpjaa.Crc

theorem conv_u32_int (x : Nat) (h : x < 4294967296) (w : World) : (convert 40 3 (.int .u32 x)).run Try.prog w = .ok (.int .i64 x) w := by
  have e : IntKind.i64.wrap (x : Int) = x := IntWalk.i64_in _ (by omega)
  simp [convert, run_underlying Try.underlying40, run_underlying Try.underlying3, go_sem, e]
theorem enter_write (args : Array Value) (w : World) : (callFunc 49 args).run Try.prog w = .ok (.enter 49 args) w := run_enter Try.func49 (by kernel_rfl) rfl args w
theorem bl_pagm {l : List UInt8} (h : l.length = 64) : Pag (bl l) := bl_pag h

set_option maxHeartbeats 2000000 in
theorem write_as {w0 w : World} {b bd N : Nat} {T G : Nat → Prop} {x : Lg} {d : Dsk} (h : LM w b T bd x) (hG : ∀ k, T k → ¬ G k) (hd : DkL w0 bd N d (fun k => G k ∨ T k) w) (hN : N < 1000000) (p : Pv) (hr : p.right) (ho : p.Ok) :
    Calls Try.prog 33 #[.pointer (some ⟨b, 0, none⟩), .agg (pgV p)] w fun e w' => ∃ x', e = .returned (.int .i64 (d.writeE p.n)) ∧ LgL LM w0 bd (N + 1) (d.writeD p.n (bl p.lay)) b x' G w' ∧ Kp G w w' ∧
      (d.writeE p.n = 0 ∧ x' = x ∨ d.writeE p.n ≠ 0 ∧ x' = ⟨x.ep, x.nx, true⟩) := by
  have HG := Lib.hid hG
  have HR := Lib.hid (And.intro hr ho)
  have hA := At.new w (pgV p) 73
  have HLY := Lib.hid (fun w => lay_yes p w (by have := hr.2.1; unfold maxLen; omega) ho hr)
  have HH := Lib.hid (And.intro h hd)
  have HA := Lib.hid hA
  have hz3 := zero_page
  have HPG := Lib.hid (bl_pagm (Pv.lay_length hr))
  have HNN := Lib.hid ho.2
  clear hA hr ho h hd hG
  go_enter Try.func33, Try.ntmps33
  go_wp2_with (refine wpList_load_w (by rfl) 73 _ rfl w.heap.size rfl HA.out Try.underlying73 rfl (info_pgv _) ?_)
  refine (HLY.out _).mono ?_
  rintro e w2 ⟨rfl, hb2⟩
  obtain ⟨g2, hg2⟩ : ∃ g, w2.heap.size = g := ⟨_, rfl⟩
  obtain ⟨g, hg⟩ : ∃ g, w.heap.size = g := ⟨_, rfl⟩
  have hb02 : Below w.heap.size w w2 := below_trans ((Below.refl _ _).alloc (Nat.le_refl _) (.cells (pgV p) 73)) hb2 (by rw [World.size_alloc]; omega)
  obtain ⟨L, hL⟩ : ∃ L, p.lay = L := ⟨_, rfl⟩
  rw [hL] at HPG ⊢
  have HLL := Lib.hid hL
  have HZ := Lib.hid (show At (w2.alloc (.cells zP 69)) g2 zP 69 from hg2 ▸ At.new _ _ _)
  have HP2 := Lib.hid (show At ((w2.alloc (.cells zP 69)).setRow g2 (bl L)) g2 (bl L) 69 from HZ.out.setRow)
  have hb3 : Below w.heap.size w ((w2.alloc (.cells zP 69)).setRow g2 (bl L)) := below_setRow' (hb02.alloc (by have := hb02.size; omega) _) (by have := hb02.size; omega) _
  have HB3 := Lib.hid hb3
  have HP3 := Lib.hid (show At ((w2.alloc (.cells zP 69)).setRow g2 (bl L)) g (pgV p) 73 from by
    have h1 := HA.out.below hb2 HA.out.lt
    rw [hg] at h1
    have h2 := h1.lt
    exact (h1.alloc _).setRow_other (by omega))
  have HGG := Lib.hid (show w.heap.size = g ∧ g < g2 from ⟨hg, by
    have := (HA.out.below hb2 HA.out.lt).lt
    omega⟩)
  clear hb2 hb02 hb3 hL HA
  go_wp2_with (
    refine wpList_store_row rfl 69 _ _ rfl g2 (bl L) rfl rfl _ _ HZ.out (info_pag HPG.out) (by rw [HPG.out.size]; exact pag_z.size) HPG.out.one ?_
    clear HZ
    revert HP2 HB3 HP3
    generalize World.setRow _ _ _ = W3
    intro HP2 HB3 HP3)
  have HK := Lib.hid (show LM W3 b T bd x ∧ DkL w0 bd N d (fun k => (G k ∨ T k) ∨ (w.heap.size ≤ k ∧ k < W3.heap.size)) W3 from ⟨HH.out.1.below HB3.out, HH.out.2.own (.of_below HB3.out)⟩)
  have HKG := Lib.hid (show Kp G w W3 from ⟨HB3.out.size, fun k hk => HB3.out.block k (HH.out.2.2.2 k (.inl hk)).2⟩)
  have HSZ := Lib.hid (show g < W3.heap.size ∧ g2 < W3.heap.size from ⟨HP3.out.lt, HP2.out.lt⟩)
  clear HH hg hg2
  refine mf_start (fun w' => At w' b (lR bd x.ep x.nx x.fz) 60 ∧ At w' g (pgV p) 73 ∧ At w' g2 (bl L) 69) (fun _ => false) ⟨HK.out.1.row.drewN 1, HP3.out.drewN 1, HP2.out.drewN 1⟩ fun hS => ?_
  refine mf_yield (i := 0) (d := 14) (.pointer (some ⟨b, 0, none⟩)) rfl rfl (by kernel_rfl) (by kernel_rfl) (by kernel_rfl) (by kernel_rfl) hS (y_run (by rfl) fun _ => by rfl) ?_
  simp only [Act.put, List.setIfInBounds_toArray, List.set_cons_zero, List.set_cons_succ]
  refine mf_yield (i := 1) (d := 15) (.pointer (some ⟨b, 0, none⟩)) rfl rfl (by kernel_rfl) (by kernel_rfl) (by kernel_rfl) (by kernel_rfl) hS (y_run (by rfl) fun _ => by rfl) ?_
  simp only [Act.put, List.setIfInBounds_toArray, List.set_cons_zero, List.set_cons_succ]
  refine mf_yield (i := 2) (d := 16) (.pointer (some ⟨b, 0, none⟩)) rfl rfl (by kernel_rfl) (by kernel_rfl) (by kernel_rfl) (by kernel_rfl) hS (y_fieldO (by rfl) rfl rfl fld_l0 (Nat.zero_add _)) ?_
  simp only [Act.put, List.setIfInBounds_toArray, List.set_cons_zero, List.set_cons_succ]
  refine mf_yield (i := 3) (d := 17) (.pointer (some ⟨bd, 0, none⟩)) rfl rfl (by kernel_rfl) (by kernel_rfl) (by kernel_rfl) (by kernel_rfl) hS (y_cell1 (by rfl) rfl rfl Try.underlying25 rfl (fun w h => (h.1.cell 0).trans rfl)) ?_
  simp only [Act.put, List.setIfInBounds_toArray, List.set_cons_zero, List.set_cons_succ]
  refine mf_yield (i := 4) (d := 18) (.pointer (some ⟨g, 1, none⟩)) rfl rfl (by kernel_rfl) (by kernel_rfl) (by kernel_rfl) (by kernel_rfl) hS (y_fieldO (by rfl) rfl rfl (fldp 1 (by omega)) (Nat.zero_add _)) ?_
  simp only [Act.put, List.setIfInBounds_toArray, List.set_cons_zero, List.set_cons_succ]
  refine mf_yield (i := 5) (d := 19) (.int .u32 p.n) rfl rfl (by kernel_rfl) (by kernel_rfl) (by kernel_rfl) (by kernel_rfl) hS (y_cell1 (by rfl) rfl rfl Try.underlying40 rfl (fun w h => (h.2.1.cell 1).trans rfl)) ?_
  simp only [Act.put, List.setIfInBounds_toArray, List.set_cons_zero, List.set_cons_succ]
  refine mf_yield (i := 6) (d := 20) (.int .i64 p.n) rfl rfl (by kernel_rfl) (by kernel_rfl) (by kernel_rfl) (by kernel_rfl) hS (y_convV (by rfl) rfl rfl fun w _ => conv_u32_int p.n HNN.out w) ?_
  simp only [Act.put, List.setIfInBounds_toArray, List.set_cons_zero, List.set_cons_succ]
  refine mf_yield (i := 7) (d := 21) (.agg (bl L)) rfl rfl (by kernel_rfl) (by kernel_rfl) (by kernel_rfl) (by kernel_rfl) hS (y_load_w (by rfl) rfl rfl (fun w h => h.2.2) Try.underlying69 rfl (info_pag HPG.out)) ?_
  simp only [Act.put, List.setIfInBounds_toArray, List.set_cons_zero, List.set_cons_succ]
  have HDd := Lib.hid (HK.out.2.drew)
  refine mf_ready [8] (by kernel_rfl) (by simp) (af_call (i := 8) (d := 22) (R := fun v w' => v = .int .i64 (d.writeE p.n) ∧ (At w' b (lR bd x.ep x.nx x.fz) 60 ∧ At w' g (pgV p) 73 ∧ At w' g2 (bl L) 69) ∧ DkL w0 bd (N + 1) (d.writeD p.n (bl L)) (fun k => (G k ∨ T k) ∨ (w.heap.size ≤ k ∧ k < W3.heap.size)) w' ∧ Kp (fun k => (G k ∨ T k) ∨ (w.heap.size ≤ k ∧ k < W3.heap.size)) W3.drew w') #[.pointer (some ⟨bd, 0, none⟩), .int .i64 p.n, .agg (bl L)] rfl rfl (by rfl) rfl enter_write (by kernel_rfl) ((write_L HDd.out p.n (bl L) HPG.out (WalkArith.wf_i64 (by have := HNN.out; omega)) hN).mono fun e w' h => ⟨_, h.1, rfl, ⟨h.2.2.at (.inl (.inr HK.out.1.own.1)) hS.1, h.2.2.at (.inr ⟨by have := HGG.out; omega, HSZ.out.1⟩) hS.2.1, h.2.2.at (.inr ⟨by have := HGG.out; omega, HSZ.out.2⟩) hS.2.2⟩, h.2⟩) (fun v w' h => h.2.1) ?_ AllReadyF.nil)
  rintro v w4 ⟨rfl, _, hd4, hk4⟩ hS4
  clear hS
  simp only [Act.put, List.setIfInBounds_toArray, List.set_cons_zero, List.set_cons_succ]
  refine mf_yield (i := 9) (d := 6) (.int .i64 (d.writeE p.n)) rfl rfl (by kernel_rfl) (by kernel_rfl) (by kernel_rfl) (by kernel_rfl) hS4 (y_run (by rfl) fun _ => by rfl) ?_
  simp only [Act.put, List.setIfInBounds_toArray, List.set_cons_zero, List.set_cons_succ]
  refine mf_done (by kernel_rfl) ?_
  have HD4 := Lib.hid (And.intro (HK.out.1.keep (w' := w4) (kp_sub hk4 fun k hk => .inl (.inr hk))) (hd4.sub fun k hk => .inl hk))
  have HK4 := Lib.hid (HKG.out.trans (kp_sub (H := G) hk4 fun k hk => .inl (.inl hk)))
  clear hd4 hk4 hS4
  by_cases he : d.writeE p.n = 0
  · have HL := Lib.hid (show LgL LM w0 bd (N + 1) (d.writeD p.n (bl L)) b x G w4 from ⟨T, HD4.out.1, HG.out, HD4.out.2⟩)
    have HE := Lib.hid he
    rw [he]
    clear he
    go_wp2_with fail
    refine (told_ok b w4).mono ?_
    rintro e w5 ⟨rfl, rfl⟩
    go_wp2_with fail
    go_ret
    rw [HLL.out]
    exact ⟨x, by rw [HE.out]; rfl, HL.out, HK4.out, .inl ⟨HE.out, rfl⟩⟩
  · have HT := Lib.hid (told_err HD4.out.1 he)
    have HL := Lib.hid (lg_frz HD4.out.1 HG.out HD4.out.2)
    have HE := Lib.hid he
    clear he
    go_wp2_with fail
    refine HT.out.mono ?_
    rintro e w5 ⟨rfl, rfl⟩
    go_wp2_with fail
    go_ret
    rw [HLL.out]
    exact ⟨⟨x.ep, x.nx, true⟩, rfl, HL.out.1, HK4.out.trans HL.out.2, .inr ⟨HE.out, rfl⟩⟩

theorem wrs_num {E : Nat} {r : List UInt8} : ∀ {c i N j : Nat} {p : Pv}, (wrs E r c i N)[j]? = some p → p.n = N + j
  | 0, i, N, j, p, h => by simp [wrs] at h
  | c + 1, i, N, j, p, h => by
    by_cases h16 : N % 16 = 0
    · rw [wrs_head h16] at h
      match j, h with
      | 0, h => injection h with h; subst h; rfl
      | 1, h => injection h with h; subst h; rfl
      | j + 2, h =>
        have := wrs_num (show (wrs E r c (i + 1) (N + 2))[j]? = some p from h)
        omega
    · rw [wrs_data h16] at h
      match j, h with
      | 0, h => injection h with h; subst h; rfl
      | j + 1, h =>
        have := wrs_num (show (wrs E r c (i + 1) (N + 1))[j]? = some p from h)
        omega
section
variable {w w' w0 : World} {b bd N : Nat} {G : Nat → Prop} {x : Lg} {d : Dsk}
theorem lm_own (h : LgL LM w0 bd N d b x G w) (hf : Fr G w w') : LgL LM w0 bd N d b x (fun k => G k ∨ (w.heap.size ≤ k ∧ k < w'.heap.size)) w' := by
  obtain ⟨T, h1, h2, h3⟩ := h
  have hT := h1.own.2
  refine ⟨T, h1.keep ⟨hf.size, fun k hk => hf.block k (hT k hk) (h2 k hk)⟩, fun k hk hg => ?_, (h3.own (hf.mono fun i _ hi => .inl hi)).sub fun k hk => ?_⟩
  · rcases hg with hg | hg
    · exact h2 k hk hg
    · have := hT k hk; omega
  · rcases hk with (hk | hk) | hk
    · exact .inl (.inl hk)
    · exact .inr hk
    · exact .inl (.inr hk)
theorem lm_next (h : LgL LM w0 bd N d b x G w) (hb : Below w.heap.size w w') : LgL LM w0 bd N d b x G w' := (lm_own h (.of_below hb)).sub fun k hk => .inl hk
theorem lm_kp (h : LgL LM w0 bd N d b x G w) (hb : Below w.heap.size w w') : Kp G w w' := ⟨hb.size, fun k hk => hb.block k (h.below.2 k hk).2⟩
theorem lm_nx (h : LgL LM w0 bd N d b x G w) : x.nx ≤ 5000 := let ⟨_, h1, _⟩ := h; h1.nx
theorem lm_cells (h : LgL LM w0 bd N d b x G w) : (w.cell? ⟨b, 0, none⟩ = some (.pointer (some ⟨bd, 0, none⟩)) ∧ w.cell? ⟨b, 1, none⟩ = some (.int .u32 (x.ep : Nat)) ∧ w.cell? ⟨b, 2, none⟩ = some (.int .i64 (x.nx : Nat)) ∧ w.cell? ⟨b, 3, none⟩ = some (.bool x.fz)) ∧ ∀ k, w.frozen? ⟨b, k, none⟩ = false := let ⟨_, h1, _⟩ := h; h1.flds
theorem lm_write (h : LgL LM w0 bd N d b x G w) (hN : N < 1000000) (p : Pv) (hr : p.right) (ho : p.Ok) :
    Calls Try.prog 33 #[.pointer (some ⟨b, 0, none⟩), .agg (pgV p)] w fun e w' => ∃ x', e = .returned (.int .i64 (d.writeE p.n)) ∧ LgL LM w0 bd (N + 1) (d.writeD p.n (bl p.lay)) b x' G w' ∧ Kp G w w' ∧
      (d.writeE p.n = 0 ∧ x' = x ∨ d.writeE p.n ≠ 0 ∧ x' = ⟨x.ep, x.nx, true⟩) := let ⟨_, h1, h2, h3⟩ := h; write_as h1 h2 h3 hN p hr ho
theorem lm_nxt (h : LgL LM w0 bd N d b x G w) {m : Nat} (hm : m ≤ 5000) :
    LgL LM w0 bd N d b ⟨x.ep, m, x.fz⟩ G (w.setCell ⟨b, 2, none⟩ (.int .i64 (m : Nat))) ∧ Kp G w (w.setCell ⟨b, 2, none⟩ (.int .i64 (m : Nat))) := let ⟨_, h1, h2, h3⟩ := h; lg_nxt h1 h2 h3 hm
end

/-- While the pages WL are written, from sector nx on: k are. -/
def ApI (w0 : World) (bd N : Nat) (d : Dsk) (b : Nat) (x : Lg) (H : Nat → Prop) (WL : List Pv) (nx : Nat) (w5 : World) (k : Nat) (w : World) : Prop :=
  ∃ d', LgL LM w0 bd (N + k) d' b x H w ∧ (put d nx WL).1 = (put d' (nx + k) (WL.drop k)).1 ∧ (put d nx WL).2.2 = (put d' (nx + k) (WL.drop k)).2.2 ∧ Kp H w5 w
/-- What Append leaves. -/
def ApE (w0 : World) (bd N : Nat) (d : Dsk) (b : Nat) (x : Lg) (G : Nat → Prop) (r : List UInt8) (w : World) (en : Ending) (w' : World) : Prop :=
  ∃ at_ e d' x', en = .returned (.tuple #[.int .i64 at_, .int .i64 e]) ∧ AppR d x r at_ e d' x' ∧ LgL LM w0 bd (N + 200) d' b x' G w' ∧ Kp G w w'
theorem ndN_yes {n m : Nat} (h : 1 ≤ m ∧ m ≤ 4096) : ndN n m = nd (np m) n ∧ 1 ≤ nd (np m) n ∧ nd (np m) n ≤ 168 := by
  have h1 := np_pos h.1
  have h2 := nd_ge (np m) n
  have h3 := nd_le (np m) n
  refine ⟨if_pos h, by omega, ?_⟩
  have : np m ≤ 84 := by unfold np; omega
  omega
theorem tx_len (r : List UInt8) : (tx r).size = r.length := tx_size r
def AP (w0 : World) (bd N : Nat) (d : Dsk) (b : Nat) (x : Lg) (G : Nat → Prop) (r : List UInt8) (w : World) : Prop := LgL LM w0 bd N d b x G w ∧ r.length ≤ maxLen ∧ d.size % 16 = 0 ∧ d.down = false ∧ (x.fz = false → x.nx ≤ d.size) ∧ x.ep < 4294967296 ∧ N + 200 ≤ 1000000

section
variable {w w0 : World} {b bd N : Nat} {G : Nat → Prop} {x : Lg} {d : Dsk} {r : List UInt8}
/-- A record of no size that may be. -/
theorem append_size (h : AP w0 bd N d b x G r w) (hs : r.length < 1 ∨ 4096 < r.length) : Calls Try.prog 18 #[.pointer (some ⟨b, 0, none⟩), .string (tx r)] w (ApE w0 bd N d b x G r w) := by
  have HH := Lib.hid h
  have HNX := Lib.hid (let ⟨_, h1, _⟩ := h.1; next_of h1)
  have hnd := need_any x.nx r.length w (Nat.le_trans (lm_nx h.1) (by omega)) h.2.1
  rw [show ndN x.nx r.length = 0 from if_neg (by omega)] at hnd
  have HND := Lib.hid hnd
  have hl := tx_len r
  have hm := h.2.1
  unfold maxLen at hm
  obtain ⟨R, hR⟩ : ∃ R, tx r = R := ⟨_, rfl⟩
  obtain ⟨m, hmm⟩ : ∃ m, r.length = m := ⟨_, rfl⟩
  rw [hmm] at HND hl hm
  rw [hR] at hl ⊢
  have HS := Lib.hid (And.intro hmm hs)
  clear h hnd hmm hs
  go_enter Try.func18, Try.ntmps18
  go_wp2_with fail
  refine HNX.out.mono ?_
  rintro e w1 ⟨rfl, rfl⟩
  go_wp2_with fail
  refine HND.out.mono ?_
  rintro e w2 ⟨rfl, hb⟩
  have HB := Lib.hid hb
  clear hb
  go_wp2_with fail
  go_ret2
  exact ⟨0, 10, d, x, rfl, .inl ⟨HS.out.2, rfl, rfl, rfl, rfl⟩, (lm_next HH.out.1 HB.out).mono (by omega), lm_kp HH.out.1 HB.out⟩
/-- A log that is frozen. -/
theorem append_frozen (h : AP w0 bd N d b x G r w) (hs : 1 ≤ r.length ∧ r.length ≤ 4096) (hf : x.fz = true) : Calls Try.prog 18 #[.pointer (some ⟨b, 0, none⟩), .string (tx r)] w (ApE w0 bd N d b x G r w) := by
  have HH := Lib.hid h
  have HNX := Lib.hid (let ⟨_, h1, _⟩ := h.1; next_of h1)
  have hnd := need_any x.nx r.length w (Nat.le_trans (lm_nx h.1) (by omega)) h.2.1
  obtain ⟨n1, n2, n3⟩ := ndN_yes (n := x.nx) hs
  rw [n1] at hnd
  obtain ⟨D, hD⟩ : ∃ D, nd (np r.length) x.nx = D := ⟨_, rfl⟩
  rw [hD] at hnd n2 n3
  have HND := Lib.hid hnd
  have hl := tx_len r
  have hm := h.2.1
  unfold maxLen at hm
  obtain ⟨R, hR⟩ : ∃ R, tx r = R := ⟨_, rfl⟩
  obtain ⟨m, hmm⟩ : ∃ m, r.length = m := ⟨_, rfl⟩
  rw [hmm] at HND hl hm
  rw [hR] at hl ⊢
  have HS := Lib.hid (And.intro hmm (And.intro hs hf))
  have hd0 : ((D : Int) == 0) = false := by rw [beq_eq_false_iff_ne]; omega
  clear h hnd hmm hs hf hD n1
  go_enter Try.func18, Try.ntmps18
  go_wp2_with fail
  refine HNX.out.mono ?_
  rintro e w1 ⟨rfl, rfl⟩
  go_wp2_with fail
  refine HND.out.mono ?_
  rintro e w2 ⟨rfl, hb⟩
  have H2 := Lib.hid (lm_next HH.out.1 hb)
  have HK := Lib.hid (lm_kp HH.out.1 hb)
  have hc := (let ⟨_, h1, _⟩ := H2.out; closed_of h1)
  rw [HS.out.2.2] at hc
  have HC := Lib.hid hc
  clear hb hc
  go_wp2_with fail
  refine HC.out.mono ?_
  rintro e w3 ⟨rfl, rfl⟩
  go_wp2_with fail
  go_ret2
  exact ⟨0, 8, d, x, rfl, .inr (.inl ⟨HS.out.2.1.1, HS.out.2.1.2, HS.out.2.2, rfl, rfl, rfl, rfl⟩), H2.out.mono (by omega), HK.out⟩
theorem enter_whole (args : Array Value) (w : World) : (callFunc 29 args).run Try.prog w = .ok (.enter 29 args) w := run_enter Try.func29 (by kernel_rfl) rfl args w

set_option maxHeartbeats 4000000 in
theorem append_full (h : AP w0 bd N d b x G r w) (hs : 1 ≤ r.length ∧ r.length ≤ 4096) (hf : x.fz = false) (hfit : d.size < x.nx + nd (np r.length) x.nx) : Calls Try.prog 18 #[.pointer (some ⟨b, 0, none⟩), .string (tx r)] w (ApE w0 bd N d b x G r w) := by
  have HH := Lib.hid h
  have HNX := Lib.hid (let ⟨_, h1, _⟩ := h.1; next_of h1)
  have hnd := need_any x.nx r.length w (Nat.le_trans (lm_nx h.1) (by omega)) h.2.1
  obtain ⟨n1, n2, n3⟩ := ndN_yes (n := x.nx) hs
  rw [n1] at hnd
  obtain ⟨D, hD⟩ : ∃ D, nd (np r.length) x.nx = D := ⟨_, rfl⟩
  rw [hD] at hnd n2 n3 hfit
  have HD := Lib.hid hD
  have HND := Lib.hid hnd
  have hl := tx_len r
  have hm := h.2.1
  unfold maxLen at hm
  obtain ⟨R, hR⟩ : ∃ R, tx r = R := ⟨_, rfl⟩
  obtain ⟨m, hmm⟩ : ∃ m, r.length = m := ⟨_, rfl⟩
  rw [hmm] at HND hl hm
  have HRR := Lib.hid hR
  rw [hR] at hl ⊢
  have HS := Lib.hid (And.intro hmm (And.intro hs hf))
  have hd0 : ((D : Int) == 0) = false := by rw [beq_eq_false_iff_ne]; omega
  have hsz : d.size ≤ 1024 := let ⟨_, _, _, h3⟩ := h.1; h3.num.2.1
  obtain ⟨z, hz⟩ : ∃ z, d.size = z := ⟨_, rfl⟩
  have h16 := h.2.2.1
  have hxz := h.2.2.2.2.1 hf
  rw [hz] at h16 hsz hfit hxz
  obtain ⟨nx, hnx⟩ : ∃ nx, x.nx = nx := ⟨_, rfl⟩
  rw [hnx] at HNX HND hfit hxz HD
  have HZ := Lib.hid (And.intro hz hnx)
  clear h hnd hmm hs hf hD n1 hR hz hnx
  go_enter Try.func18, Try.ntmps18
  go_wp2_with fail
  refine HNX.out.mono ?_
  rintro e w1 ⟨rfl, rfl⟩
  go_wp2_with fail
  refine HND.out.mono ?_
  rintro e w2 ⟨rfl, hb⟩
  have H2 := Lib.hid (lm_next HH.out.1 hb)
  have HK := Lib.hid (lm_kp HH.out.1 hb)
  have hc := (let ⟨_, h1, _⟩ := H2.out; closed_of h1)
  rw [HS.out.2.2] at hc
  have HC := Lib.hid hc
  clear hb hc
  go_wp2_with fail
  refine HC.out.mono ?_
  rintro e w3 ⟨rfl, rfl⟩
  go_wp2_with fail
  have H3 := Lib.hid (lm_next H2.out (Below.refl _ _).drew)
  have HWH := Lib.hid (let ⟨_, _, _, h3⟩ := H3.out; whole_as h3 HZ.out.1 h16 hsz)
  have HS3 := Lib.hid (let ⟨_, h1, _⟩ := H3.out; show At w3.drew b (lR bd x.ep x.nx x.fz) 60 from h1.row)
  refine mf_start (fun w' => At w' b (lR bd x.ep x.nx x.fz) 60) (fun _ => false) HS3.out fun hS => ?_
  refine mf_yield (i := 0) (d := 23) (.int .i64 D) rfl rfl (by kernel_rfl) (by kernel_rfl) (by kernel_rfl) (by kernel_rfl) hS (y_run (by rfl) fun _ => by rfl) ?_
  simp only [Act.put, List.setIfInBounds_toArray, List.set_cons_zero, List.set_cons_succ]
  refine mf_yield (i := 1) (d := 24) (.pointer (some ⟨b, 0, none⟩)) rfl rfl (by kernel_rfl) (by kernel_rfl) (by kernel_rfl) (by kernel_rfl) hS (y_run (by rfl) fun _ => by rfl) ?_
  simp only [Act.put, List.setIfInBounds_toArray, List.set_cons_zero, List.set_cons_succ]
  refine mf_yield (i := 2) (d := 25) (.pointer (some ⟨b, 0, none⟩)) rfl rfl (by kernel_rfl) (by kernel_rfl) (by kernel_rfl) (by kernel_rfl) hS (y_run (by rfl) fun _ => by rfl) ?_
  simp only [Act.put, List.setIfInBounds_toArray, List.set_cons_zero, List.set_cons_succ]
  refine mf_yield (i := 3) (d := 26) (.pointer (some ⟨b, 0, none⟩)) rfl rfl (by kernel_rfl) (by kernel_rfl) (by kernel_rfl) (by kernel_rfl) hS (y_fieldO (by rfl) rfl rfl fld_l0 (Nat.zero_add _)) ?_
  simp only [Act.put, List.setIfInBounds_toArray, List.set_cons_zero, List.set_cons_succ]
  refine mf_yield (i := 4) (d := 27) (.pointer (some ⟨bd, 0, none⟩)) rfl rfl (by kernel_rfl) (by kernel_rfl) (by kernel_rfl) (by kernel_rfl) hS (y_cell1 (by rfl) rfl rfl Try.underlying25 rfl (fun w h => (h.cell 0).trans rfl)) ?_
  simp only [Act.put, List.setIfInBounds_toArray, List.set_cons_zero, List.set_cons_succ]
  refine mf_yield (i := 6) (d := 29) (.pointer (some ⟨b, 0, none⟩)) rfl rfl (by kernel_rfl) (by kernel_rfl) (by kernel_rfl) (by kernel_rfl) hS (y_run (by rfl) fun _ => by rfl) ?_
  simp only [Act.put, List.setIfInBounds_toArray, List.set_cons_zero, List.set_cons_succ]
  refine mf_yield (i := 7) (d := 30) (.pointer (some ⟨b, 0, none⟩)) rfl rfl (by kernel_rfl) (by kernel_rfl) (by kernel_rfl) (by kernel_rfl) hS (y_run (by rfl) fun _ => by rfl) ?_
  simp only [Act.put, List.setIfInBounds_toArray, List.set_cons_zero, List.set_cons_succ]
  refine mf_yield (i := 8) (d := 31) (.pointer (some ⟨b, 2, none⟩)) rfl rfl (by kernel_rfl) (by kernel_rfl) (by kernel_rfl) (by kernel_rfl) hS (y_fieldO (by rfl) rfl rfl fld_l2 (Nat.zero_add _)) ?_
  simp only [Act.put, List.setIfInBounds_toArray, List.set_cons_zero, List.set_cons_succ]
  refine mf_yield (i := 9) (d := 32) (.int .i64 nx) rfl rfl (by kernel_rfl) (by kernel_rfl) (by kernel_rfl) (by kernel_rfl) hS (y_cell1 (by rfl) rfl rfl Try.underlying3 rfl (fun w h => by rw [← HZ.out.2]; exact (h.cell 2).trans rfl)) ?_
  simp only [Act.put, List.setIfInBounds_toArray, List.set_cons_zero, List.set_cons_succ]
  refine mf_ready [5] (by kernel_rfl) (by simp) (af_call (i := 5) (d := 28) (R := fun v w' => v = .int .i64 z ∧ w' = w3.drew) #[.pointer (some ⟨bd, 0, none⟩)] rfl rfl (by rfl) rfl enter_whole (by kernel_rfl) (HWH.out.mono fun e w' h => ⟨_, h.1, rfl, h.2⟩) (fun v w' h => by rw [h.2]; exact HS3.out) ?_ AllReadyF.nil)
  rintro v w4 ⟨rfl, hw4⟩ _
  subst hw4
  simp only [Act.put, List.setIfInBounds_toArray, List.set_cons_zero, List.set_cons_succ]
  refine mf_yield (i := 10) (d := 33) (.int .i64 ((z : Int) - nx)) rfl rfl (by kernel_rfl) (by kernel_rfl) (by kernel_rfl) (by kernel_rfl) hS (y_sub (by rfl) rfl rfl rfl (IntWalk.i64_in _ (by omega))) ?_
  simp only [Act.put, List.setIfInBounds_toArray, List.set_cons_zero, List.set_cons_succ]
  refine mf_yield (i := 11) (d := 34) (.bool true) rfl rfl (by kernel_rfl) (by kernel_rfl) (by kernel_rfl) (by kernel_rfl) hS (y_gtr (by rfl) rfl rfl rfl (by first | exact decide_eq_true (by omega) | exact decide_eq_false (by omega))) ?_
  simp only [Act.put, List.setIfInBounds_toArray, List.set_cons_zero, List.set_cons_succ]
  refine mf_yield (i := 12) (d := 22) (.bool true) rfl rfl (by kernel_rfl) (by kernel_rfl) (by kernel_rfl) (by kernel_rfl) hS (y_run (by rfl) fun _ => by rfl) ?_
  simp only [Act.put, List.setIfInBounds_toArray, List.set_cons_zero, List.set_cons_succ]
  refine mf_done (by kernel_rfl) ?_
  clear hS HS3 HWH H2
  go_wp2_with fail
  go_ret2
  exact ⟨0, 5, d, x, rfl, .inr (.inr (.inl ⟨HS.out.2.1.1, HS.out.2.1.2, HS.out.2.2, by rw [HZ.out.1, HZ.out.2, HD.out]; exact hfit, rfl, rfl, rfl, rfl⟩)), H3.out.mono (by omega), HK.out⟩

set_option maxHeartbeats 4000000 in
theorem append_go (h : AP w0 bd N d b x G r w) (hs : 1 ≤ r.length ∧ r.length ≤ 4096) (hf : x.fz = false) (hfit : x.nx + nd (np r.length) x.nx ≤ d.size) : Calls Try.prog 18 #[.pointer (some ⟨b, 0, none⟩), .string (tx r)] w (ApE w0 bd N d b x G r w) := by
  have HH := Lib.hid h
  have HNX := Lib.hid (let ⟨_, h1, _⟩ := h.1; next_of h1)
  have hnd := need_any x.nx r.length w (Nat.le_trans (lm_nx h.1) (by omega)) h.2.1
  obtain ⟨n1, n2, n3⟩ := ndN_yes (n := x.nx) hs
  rw [n1] at hnd
  obtain ⟨D, hD⟩ : ∃ D, nd (np r.length) x.nx = D := ⟨_, rfl⟩
  rw [hD] at hnd n2 n3 hfit
  have HD := Lib.hid hD
  have HND := Lib.hid hnd
  have hl := tx_len r
  have hm := h.2.1
  unfold maxLen at hm
  obtain ⟨R, hR⟩ : ∃ R, tx r = R := ⟨_, rfl⟩
  obtain ⟨m, hmm⟩ : ∃ m, r.length = m := ⟨_, rfl⟩
  rw [hmm] at HND hl hm
  have HRR := Lib.hid hR
  rw [hR] at hl ⊢
  have HS := Lib.hid (And.intro hmm (And.intro hs hf))
  have hd0 : ((D : Int) == 0) = false := by rw [beq_eq_false_iff_ne]; omega
  have hsz : d.size ≤ 1024 := let ⟨_, _, _, h3⟩ := h.1; h3.num.2.1
  obtain ⟨z, hz⟩ : ∃ z, d.size = z := ⟨_, rfl⟩
  have h16 := h.2.2.1
  have hxz := h.2.2.2.2.1 hf
  rw [hz] at h16 hsz hfit hxz
  obtain ⟨nx, hnx⟩ : ∃ nx, x.nx = nx := ⟨_, rfl⟩
  rw [hnx] at HNX HND hfit hxz HD
  have HZ := Lib.hid (And.intro hz hnx)
  clear h hnd hmm hs hf hD n1 hR hz hnx
  go_enter Try.func18, Try.ntmps18
  go_wp2_with fail
  refine HNX.out.mono ?_
  rintro e w1 ⟨rfl, rfl⟩
  go_wp2_with fail
  refine HND.out.mono ?_
  rintro e w2 ⟨rfl, hb⟩
  have H2 := Lib.hid (lm_next HH.out.1 hb)
  have HK := Lib.hid (lm_kp HH.out.1 hb)
  have hc := (let ⟨_, h1, _⟩ := H2.out; closed_of h1)
  rw [HS.out.2.2] at hc
  have HC := Lib.hid hc
  clear hb hc
  go_wp2_with fail
  refine HC.out.mono ?_
  rintro e w3 ⟨rfl, rfl⟩
  go_wp2_with fail
  have H3 := Lib.hid (lm_next H2.out (Below.refl _ _).drew)
  have HWH := Lib.hid (let ⟨_, _, _, h3⟩ := H3.out; whole_as h3 HZ.out.1 h16 hsz)
  have HS3 := Lib.hid (let ⟨_, h1, _⟩ := H3.out; show At w3.drew b (lR bd x.ep x.nx x.fz) 60 from h1.row)
  refine mf_start (fun w' => At w' b (lR bd x.ep x.nx x.fz) 60) (fun _ => false) HS3.out fun hS => ?_
  refine mf_yield (i := 0) (d := 23) (.int .i64 D) rfl rfl (by kernel_rfl) (by kernel_rfl) (by kernel_rfl) (by kernel_rfl) hS (y_run (by rfl) fun _ => by rfl) ?_
  simp only [Act.put, List.setIfInBounds_toArray, List.set_cons_zero, List.set_cons_succ]
  refine mf_yield (i := 1) (d := 24) (.pointer (some ⟨b, 0, none⟩)) rfl rfl (by kernel_rfl) (by kernel_rfl) (by kernel_rfl) (by kernel_rfl) hS (y_run (by rfl) fun _ => by rfl) ?_
  simp only [Act.put, List.setIfInBounds_toArray, List.set_cons_zero, List.set_cons_succ]
  refine mf_yield (i := 2) (d := 25) (.pointer (some ⟨b, 0, none⟩)) rfl rfl (by kernel_rfl) (by kernel_rfl) (by kernel_rfl) (by kernel_rfl) hS (y_run (by rfl) fun _ => by rfl) ?_
  simp only [Act.put, List.setIfInBounds_toArray, List.set_cons_zero, List.set_cons_succ]
  refine mf_yield (i := 3) (d := 26) (.pointer (some ⟨b, 0, none⟩)) rfl rfl (by kernel_rfl) (by kernel_rfl) (by kernel_rfl) (by kernel_rfl) hS (y_fieldO (by rfl) rfl rfl fld_l0 (Nat.zero_add _)) ?_
  simp only [Act.put, List.setIfInBounds_toArray, List.set_cons_zero, List.set_cons_succ]
  refine mf_yield (i := 4) (d := 27) (.pointer (some ⟨bd, 0, none⟩)) rfl rfl (by kernel_rfl) (by kernel_rfl) (by kernel_rfl) (by kernel_rfl) hS (y_cell1 (by rfl) rfl rfl Try.underlying25 rfl (fun w h => (h.cell 0).trans rfl)) ?_
  simp only [Act.put, List.setIfInBounds_toArray, List.set_cons_zero, List.set_cons_succ]
  refine mf_yield (i := 6) (d := 29) (.pointer (some ⟨b, 0, none⟩)) rfl rfl (by kernel_rfl) (by kernel_rfl) (by kernel_rfl) (by kernel_rfl) hS (y_run (by rfl) fun _ => by rfl) ?_
  simp only [Act.put, List.setIfInBounds_toArray, List.set_cons_zero, List.set_cons_succ]
  refine mf_yield (i := 7) (d := 30) (.pointer (some ⟨b, 0, none⟩)) rfl rfl (by kernel_rfl) (by kernel_rfl) (by kernel_rfl) (by kernel_rfl) hS (y_run (by rfl) fun _ => by rfl) ?_
  simp only [Act.put, List.setIfInBounds_toArray, List.set_cons_zero, List.set_cons_succ]
  refine mf_yield (i := 8) (d := 31) (.pointer (some ⟨b, 2, none⟩)) rfl rfl (by kernel_rfl) (by kernel_rfl) (by kernel_rfl) (by kernel_rfl) hS (y_fieldO (by rfl) rfl rfl fld_l2 (Nat.zero_add _)) ?_
  simp only [Act.put, List.setIfInBounds_toArray, List.set_cons_zero, List.set_cons_succ]
  refine mf_yield (i := 9) (d := 32) (.int .i64 nx) rfl rfl (by kernel_rfl) (by kernel_rfl) (by kernel_rfl) (by kernel_rfl) hS (y_cell1 (by rfl) rfl rfl Try.underlying3 rfl (fun w h => by rw [← HZ.out.2]; exact (h.cell 2).trans rfl)) ?_
  simp only [Act.put, List.setIfInBounds_toArray, List.set_cons_zero, List.set_cons_succ]
  refine mf_ready [5] (by kernel_rfl) (by simp) (af_call (i := 5) (d := 28) (R := fun v w' => v = .int .i64 z ∧ w' = w3.drew) #[.pointer (some ⟨bd, 0, none⟩)] rfl rfl (by rfl) rfl enter_whole (by kernel_rfl) (HWH.out.mono fun e w' h => ⟨_, h.1, rfl, h.2⟩) (fun v w' h => by rw [h.2]; exact HS3.out) ?_ AllReadyF.nil)
  rintro v w4 ⟨rfl, hw4⟩ _
  subst hw4
  simp only [Act.put, List.setIfInBounds_toArray, List.set_cons_zero, List.set_cons_succ]
  refine mf_yield (i := 10) (d := 33) (.int .i64 ((z : Int) - nx)) rfl rfl (by kernel_rfl) (by kernel_rfl) (by kernel_rfl) (by kernel_rfl) hS (y_sub (by rfl) rfl rfl rfl (IntWalk.i64_in _ (by omega))) ?_
  simp only [Act.put, List.setIfInBounds_toArray, List.set_cons_zero, List.set_cons_succ]
  refine mf_yield (i := 11) (d := 34) (.bool false) rfl rfl (by kernel_rfl) (by kernel_rfl) (by kernel_rfl) (by kernel_rfl) hS (y_gtr (by rfl) rfl rfl rfl (by first | exact decide_eq_true (by omega) | exact decide_eq_false (by omega))) ?_
  simp only [Act.put, List.setIfInBounds_toArray, List.set_cons_zero, List.set_cons_succ]
  refine mf_yield (i := 12) (d := 22) (.bool false) rfl rfl (by kernel_rfl) (by kernel_rfl) (by kernel_rfl) (by kernel_rfl) hS (y_run (by rfl) fun _ => by rfl) ?_
  simp only [Act.put, List.setIfInBounds_toArray, List.set_cons_zero, List.set_cons_succ]
  refine mf_done (by kernel_rfl) ?_
  clear hS HS3 HWH H2
  obtain ⟨⟨_, _, c2, _⟩, hfr⟩ := lm_cells H3.out
  rw [HZ.out.2] at c2
  have HLD := Lib.hid (fun w => leads_as nx w (by omega))
  have hpg := (let ⟨_, h1, _⟩ := H3.out; pages_as h1 r HS.out.2.1.1 HS.out.2.1.2)
  obtain ⟨WL, hWL⟩ : ∃ WL, wr x.ep r x.nx = WL := ⟨_, rfl⟩
  have hlen : WL.length = D := by rw [← hWL, wr_len, HZ.out.2]; exact HD.out
  have HIN := Lib.hid (show ∀ k p, WL[k]? = some p → p.right ∧ p.Ok ∧ p.n = nx + k from fun k p hp => by
    have h1 := wrs_num (c := np r.length) (i := 0) (N := x.nx) (E := x.ep) (r := r) (show (wr x.ep r x.nx)[k]? = some p by rw [hWL]; exact hp)
    have h2 := wrs_in (c := np r.length) (i := 0) (N := x.nx) (E := x.ep) (r := r) (by omega) (show p ∈ wr x.ep r x.nx by rw [hWL]; exact List.mem_of_getElem? hp)
    rw [HZ.out.2] at h1
    have hk := (List.getElem?_eq_some_iff.1 hp).1
    exact ⟨h2.1, ⟨by rw [h2.2.1]; exact HH.out.2.2.2.2.2.1, by omega⟩, h1⟩)
  rw [hWL, hlen, HRR.out] at hpg
  have HPG := Lib.hid hpg
  have HWL := Lib.hid (And.intro hWL hlen)
  clear hfr hpg hWL hlen
  have hxd := HS.out.2.2
  revert H3 HPG c2
  have hkd : Kp G w3 w3.drew := ⟨Nat.le_refl _, fun k hk => rfl⟩
  have HKD := Lib.hid hkd
  clear hkd
  revert HKD
  generalize w3.drew = W4
  intro HKD H3 c2 HPG
  by_cases hb16 : nx % 16 = 0
  · rw [decide_eq_true hb16] at HLD
    go_wp2_with fail
    refine (HLD.out _).mono ?_
    rintro e w9 ⟨rfl, rfl⟩
    go_wp2_with fail
    refine HPG.out.mono ?_
    rintro e w5 ⟨pa, pcap, rfl, hE, hb5⟩
    have hD1 : 0 < D := by omega
    obtain ⟨gp, rfl, hgp1, hgp2⟩ := hE.addr hD1
    have H5 := Lib.hid (show LgL LM w0 bd N d b x (fun k => G k ∨ k = gp) w5 from (lm_own H3.out (.of_below hb5)).sub fun k hk => hk.imp id fun e => by
      subst e
      exact ⟨hgp1, hgp2⟩)
    have HE := Lib.hid hE
    have HK5 := Lib.hid (HK.out.trans (show Kp G w3 w5 from HKD.out.trans (lm_kp H3.out hb5)))
    have HI := Lib.hid (show ApI w0 bd N d b x (fun k => G k ∨ k = gp) WL nx w5 0 w5 from ⟨d, H5.out, rfl, rfl, Kp.refl _ _⟩)
    clear hE hb5 hgp1 hgp2 H3 HPG c2 H5 hD1
    go_wp2_with fail
    go_loopw [47] (fun i w' => ∃ k : Nat, k ≤ D ∧ i = .int .i64 k ∧ Hid (ApI w0 bd N d b x (fun k => G k ∨ k = gp) WL nx w5 k w')) (fun i _ => 5000 - (intOf i).toNat)
    case atStart => exact ⟨0, Nat.zero_le _, rfl, HI⟩
    case round =>
      obtain ⟨k, hk, rfl, hI⟩ := hrel
      clear HI
      by_cases hlt2 : k < D
      · have k1 : decide ((k : Int) < (D : Int)) = true := decide_eq_true (by omega)
        obtain ⟨d', q1, q2, q3, q4⟩ := hI.out
        have hkl : k < WL.length := by rw [HWL.out.2]; exact hlt2
        obtain ⟨p, hp⟩ : ∃ p, WL[k]? = some p := ⟨_, List.getElem?_eq_getElem hkl⟩
        obtain ⟨hpr, hpo, hpn⟩ := HIN.out k p hp
        have hdrop : WL.drop k = p :: WL.drop (k + 1) := by
          rw [List.drop_eq_getElem_cons hkl]
          rw [List.getElem?_eq_getElem hkl] at hp
          injection hp with hp
          rw [hp]
        rw [hdrop] at q2 q3
        have hpF : pgF WL k = pgV p := by unfold pgF; rw [List.getD_eq_getElem?_getD, hp]; rfl
        have HRG := Lib.hid (show wr.rangeAt gp (k * 6) (pgV p).toList from by
          have := (Kp.els q4 (fun g hg => by
            obtain rfl : gp = g := by injection hg
            exact .inr rfl) HE.out).range hlt2
          rw [hpF] at this
          exact this)
        have rx := run_ex (g := gp) (o := 0) (n := D) (c := pcap) elt_p hlt2
        rw [Nat.zero_add] at rx
        obtain ⟨g1, hg1⟩ : ∃ g, wr.heap.size = g := ⟨_, rfl⟩
        have HZ1 := Lib.hid (show At (wr.alloc (.cells (pgV Pv.zero) 73)) g1 (pgV Pv.zero) 73 from hg1 ▸ At.new _ _ _)
        have HP := Lib.hid (show At ((wr.alloc (.cells (pgV Pv.zero) 73)).setRow g1 (pgV p)) g1 (pgV p) 73 from HZ1.out.setRow)
        have hbb : Below wr.heap.size wr ((wr.alloc (.cells (pgV Pv.zero) 73)).setRow g1 (pgV p)) := below_setRow' ((Below.refl _ _).alloc (Nat.le_refl _) _) (Nat.le_of_eq hg1) _
        have HB := Lib.hid (And.intro (lm_next q1 hbb) (q4.trans (lm_kp q1 hbb)))
        have HQ := Lib.hid (And.intro q2 q3)
        have HPP := Lib.hid (And.intro hpr (And.intro hpo hpn))
        have hz3 := zero_pgv
        clear q1 q2 q3 q4 hpr hpo hpn hp hkl hdrop hpF hbb hI
        go_wp2_with (first
          | (refine wpList_load_range (by rfl) 73 _ rfl gp (k * 6) rfl HRG.out Try.underlying73 rfl (info_pgv _) ?_)
          | (refine wpList_load_w (by rfl) 73 _ rfl g1 rfl HP.out Try.underlying73 rfl (info_pgv _) ?_)
          | (refine wpList_store_row rfl 73 _ _ rfl g1 (pgV p) rfl rfl _ _ HZ1.out (info_pgv _) rfl (pgv_one _) ?_
             clear HZ1
             revert HB HP
             generalize World.setRow _ _ _ = W6
             intro HP HB))
        refine (lm_write HB.out.1 (by have := HH.out.2.2.2.2.2.2; omega) p HPP.out.1 HPP.out.2.1).mono ?_
        rw [HPP.out.2.2]
        rintro e w7 ⟨x', rfl, h7, hk7, hx⟩
        obtain ⟨we, hwe⟩ : ∃ we, d'.writeE ((nx + k : Nat) : Int) = we := ⟨_, rfl⟩
        rw [hwe] at hx ⊢
        by_cases he : we = 0
        · have hx2 : x' = x := by
            rcases hx with hx | hx
            · exact hx.2
            · exact absurd he hx.1
          subst hx2
          subst he
          have HF := Lib.hid (show ApI w0 bd N d b x' (fun k => G k ∨ k = gp) WL nx w5 (k + 1) w7 from ⟨_, h7, HQ.out.1.trans (put_yes hwe).1, HQ.out.2.trans (put_yes hwe).2, HB.out.2.trans hk7⟩)
          clear h7 hk7 hx HQ hwe
          go_wp2_with fail
          go_roundw
          case rel => exact ⟨k + 1, by omega, by go_num, HF⟩
          case measure => simp [intOf]; omega
        · have hx2 : x' = ⟨x.ep, x.nx, true⟩ := by
            rcases hx with hx | hx
            · exact absurd hx.1 he
            · exact hx.2
          subst hx2
          have hwd : d'.writeD ((nx + k : Nat) : Int) (bl p.lay) = d' := writeD_no (by rw [hwe]; exact he)
          rw [hwd] at h7
          have HQ2 := Lib.hid (And.intro (HQ.out.1.trans (put_no (by rw [hwe]; exact he)).1) ((HQ.out.2.trans (put_no (by rw [hwe]; exact he)).2).trans hwe))
          have H7 := Lib.hid (And.intro h7 (HB.out.2.trans hk7))
          have j1 : (we != 0) = true := by rw [bne_iff_ne]; exact he
          have HWE := Lib.hid he
          clear h7 hk7 hx HQ hwe hwd he
          go_wp2_with fail
          go_ret2
          exact ⟨0, we, d', ⟨x.ep, x.nx, true⟩, rfl, .inr (.inr (.inr ⟨HS.out.2.1.1, HS.out.2.1.2, HS.out.2.2, by rw [HZ.out.1, HZ.out.2, HD.out]; exact hfit, by rw [HZ.out.2] at HWL; rw [HZ.out.2, HWL.out.1]; exact HQ2.out.1.symm, by rw [HZ.out.2] at HWL; rw [HZ.out.2, HWL.out.1]; exact HQ2.out.2.symm, .inr ⟨HWE.out, rfl, rfl, rfl⟩⟩)), (H7.out.1.mono (by omega)).sub fun k hk => .inl hk, HK5.out.trans (kp_sub H7.out.2 fun k hk => .inl hk)⟩
      · obtain rfl : k = D := by omega
        have k1 : decide ((k : Int) < (k : Int)) = false := decide_eq_false (by omega)
        obtain ⟨d', q1, q2, q3, q4⟩ := hI.out
        rw [List.drop_eq_nil_of_le (by rw [HWL.out.2]; exact Nat.le_refl _)] at q2 q3
        have e2 : (put d nx WL).1 = d' := q2
        have e3 : (put d nx WL).2.2 = 0 := q3
        obtain ⟨⟨_, _, c2, _⟩, hfr⟩ := lm_cells q1
        have f2 := hfr 2
        rw [HZ.out.2] at c2
        have HQ := Lib.hid (And.intro e2 e3)
        have HN := Lib.hid (lm_nxt q1 (m := nx + k) (by omega))
        have HQ4 := Lib.hid q4
        clear hI q1 q2 q3 q4 e2 e3 hfr
        go_wp2_with fail
        go_ret2
        exact ⟨(nx + 1 : Nat), 0, d', ⟨x.ep, nx + k, x.fz⟩, rfl, .inr (.inr (.inr ⟨HS.out.2.1.1, HS.out.2.1.2, HS.out.2.2, by rw [HZ.out.1, HZ.out.2, HD.out]; exact hfit, by rw [HZ.out.2] at HWL; rw [HZ.out.2, HWL.out.1]; exact HQ.out.1.symm, by rw [HZ.out.2] at HWL; rw [HZ.out.2, HWL.out.1]; exact HQ.out.2.symm, .inl ⟨rfl, by rw [HZ.out.2, first, if_pos hb16], by rw [HZ.out.2, HD.out, HS.out.2.2]⟩⟩)), (HN.out.1.mono (by omega)).sub fun k hk => .inl hk, HK5.out.trans (kp_sub (HQ4.out.trans HN.out.2) fun k hk => .inl hk)⟩
  · rw [decide_eq_false hb16] at HLD
    go_wp2_with fail
    refine (HLD.out _).mono ?_
    rintro e w9 ⟨rfl, rfl⟩
    go_wp2_with fail
    refine HPG.out.mono ?_
    rintro e w5 ⟨pa, pcap, rfl, hE, hb5⟩
    have hD1 : 0 < D := by omega
    obtain ⟨gp, rfl, hgp1, hgp2⟩ := hE.addr hD1
    have H5 := Lib.hid (show LgL LM w0 bd N d b x (fun k => G k ∨ k = gp) w5 from (lm_own H3.out (.of_below hb5)).sub fun k hk => hk.imp id fun e => by
      subst e
      exact ⟨hgp1, hgp2⟩)
    have HE := Lib.hid hE
    have HK5 := Lib.hid (HK.out.trans (show Kp G w3 w5 from HKD.out.trans (lm_kp H3.out hb5)))
    have HI := Lib.hid (show ApI w0 bd N d b x (fun k => G k ∨ k = gp) WL nx w5 0 w5 from ⟨d, H5.out, rfl, rfl, Kp.refl _ _⟩)
    clear hE hb5 hgp1 hgp2 H3 HPG c2 H5 hD1
    go_wp2_with fail
    go_loopw [47] (fun i w' => ∃ k : Nat, k ≤ D ∧ i = .int .i64 k ∧ Hid (ApI w0 bd N d b x (fun k => G k ∨ k = gp) WL nx w5 k w')) (fun i _ => 5000 - (intOf i).toNat)
    case atStart => exact ⟨0, Nat.zero_le _, rfl, HI⟩
    case round =>
      obtain ⟨k, hk, rfl, hI⟩ := hrel
      clear HI
      by_cases hlt2 : k < D
      · have k1 : decide ((k : Int) < (D : Int)) = true := decide_eq_true (by omega)
        obtain ⟨d', q1, q2, q3, q4⟩ := hI.out
        have hkl : k < WL.length := by rw [HWL.out.2]; exact hlt2
        obtain ⟨p, hp⟩ : ∃ p, WL[k]? = some p := ⟨_, List.getElem?_eq_getElem hkl⟩
        obtain ⟨hpr, hpo, hpn⟩ := HIN.out k p hp
        have hdrop : WL.drop k = p :: WL.drop (k + 1) := by
          rw [List.drop_eq_getElem_cons hkl]
          rw [List.getElem?_eq_getElem hkl] at hp
          injection hp with hp
          rw [hp]
        rw [hdrop] at q2 q3
        have hpF : pgF WL k = pgV p := by unfold pgF; rw [List.getD_eq_getElem?_getD, hp]; rfl
        have HRG := Lib.hid (show wr.rangeAt gp (k * 6) (pgV p).toList from by
          have := (Kp.els q4 (fun g hg => by
            obtain rfl : gp = g := by injection hg
            exact .inr rfl) HE.out).range hlt2
          rw [hpF] at this
          exact this)
        have rx := run_ex (g := gp) (o := 0) (n := D) (c := pcap) elt_p hlt2
        rw [Nat.zero_add] at rx
        obtain ⟨g1, hg1⟩ : ∃ g, wr.heap.size = g := ⟨_, rfl⟩
        have HZ1 := Lib.hid (show At (wr.alloc (.cells (pgV Pv.zero) 73)) g1 (pgV Pv.zero) 73 from hg1 ▸ At.new _ _ _)
        have HP := Lib.hid (show At ((wr.alloc (.cells (pgV Pv.zero) 73)).setRow g1 (pgV p)) g1 (pgV p) 73 from HZ1.out.setRow)
        have hbb : Below wr.heap.size wr ((wr.alloc (.cells (pgV Pv.zero) 73)).setRow g1 (pgV p)) := below_setRow' ((Below.refl _ _).alloc (Nat.le_refl _) _) (Nat.le_of_eq hg1) _
        have HB := Lib.hid (And.intro (lm_next q1 hbb) (q4.trans (lm_kp q1 hbb)))
        have HQ := Lib.hid (And.intro q2 q3)
        have HPP := Lib.hid (And.intro hpr (And.intro hpo hpn))
        have hz3 := zero_pgv
        clear q1 q2 q3 q4 hpr hpo hpn hp hkl hdrop hpF hbb hI
        go_wp2_with (first
          | (refine wpList_load_range (by rfl) 73 _ rfl gp (k * 6) rfl HRG.out Try.underlying73 rfl (info_pgv _) ?_)
          | (refine wpList_load_w (by rfl) 73 _ rfl g1 rfl HP.out Try.underlying73 rfl (info_pgv _) ?_)
          | (refine wpList_store_row rfl 73 _ _ rfl g1 (pgV p) rfl rfl _ _ HZ1.out (info_pgv _) rfl (pgv_one _) ?_
             clear HZ1
             revert HB HP
             generalize World.setRow _ _ _ = W6
             intro HP HB))
        refine (lm_write HB.out.1 (by have := HH.out.2.2.2.2.2.2; omega) p HPP.out.1 HPP.out.2.1).mono ?_
        rw [HPP.out.2.2]
        rintro e w7 ⟨x', rfl, h7, hk7, hx⟩
        obtain ⟨we, hwe⟩ : ∃ we, d'.writeE ((nx + k : Nat) : Int) = we := ⟨_, rfl⟩
        rw [hwe] at hx ⊢
        by_cases he : we = 0
        · have hx2 : x' = x := by
            rcases hx with hx | hx
            · exact hx.2
            · exact absurd he hx.1
          subst hx2
          subst he
          have HF := Lib.hid (show ApI w0 bd N d b x' (fun k => G k ∨ k = gp) WL nx w5 (k + 1) w7 from ⟨_, h7, HQ.out.1.trans (put_yes hwe).1, HQ.out.2.trans (put_yes hwe).2, HB.out.2.trans hk7⟩)
          clear h7 hk7 hx HQ hwe
          go_wp2_with fail
          go_roundw
          case rel => exact ⟨k + 1, by omega, by go_num, HF⟩
          case measure => simp [intOf]; omega
        · have hx2 : x' = ⟨x.ep, x.nx, true⟩ := by
            rcases hx with hx | hx
            · exact absurd hx.1 he
            · exact hx.2
          subst hx2
          have hwd : d'.writeD ((nx + k : Nat) : Int) (bl p.lay) = d' := writeD_no (by rw [hwe]; exact he)
          rw [hwd] at h7
          have HQ2 := Lib.hid (And.intro (HQ.out.1.trans (put_no (by rw [hwe]; exact he)).1) ((HQ.out.2.trans (put_no (by rw [hwe]; exact he)).2).trans hwe))
          have H7 := Lib.hid (And.intro h7 (HB.out.2.trans hk7))
          have j1 : (we != 0) = true := by rw [bne_iff_ne]; exact he
          have HWE := Lib.hid he
          clear h7 hk7 hx HQ hwe hwd he
          go_wp2_with fail
          go_ret2
          exact ⟨0, we, d', ⟨x.ep, x.nx, true⟩, rfl, .inr (.inr (.inr ⟨HS.out.2.1.1, HS.out.2.1.2, HS.out.2.2, by rw [HZ.out.1, HZ.out.2, HD.out]; exact hfit, by rw [HZ.out.2] at HWL; rw [HZ.out.2, HWL.out.1]; exact HQ2.out.1.symm, by rw [HZ.out.2] at HWL; rw [HZ.out.2, HWL.out.1]; exact HQ2.out.2.symm, .inr ⟨HWE.out, rfl, rfl, rfl⟩⟩)), (H7.out.1.mono (by omega)).sub fun k hk => .inl hk, HK5.out.trans (kp_sub H7.out.2 fun k hk => .inl hk)⟩
      · obtain rfl : k = D := by omega
        have k1 : decide ((k : Int) < (k : Int)) = false := decide_eq_false (by omega)
        obtain ⟨d', q1, q2, q3, q4⟩ := hI.out
        rw [List.drop_eq_nil_of_le (by rw [HWL.out.2]; exact Nat.le_refl _)] at q2 q3
        have e2 : (put d nx WL).1 = d' := q2
        have e3 : (put d nx WL).2.2 = 0 := q3
        obtain ⟨⟨_, _, c2, _⟩, hfr⟩ := lm_cells q1
        have f2 := hfr 2
        rw [HZ.out.2] at c2
        have HQ := Lib.hid (And.intro e2 e3)
        have HN := Lib.hid (lm_nxt q1 (m := nx + k) (by omega))
        have HQ4 := Lib.hid q4
        clear hI q1 q2 q3 q4 e2 e3 hfr
        go_wp2_with fail
        go_ret2
        exact ⟨(nx : Nat), 0, d', ⟨x.ep, nx + k, x.fz⟩, rfl, .inr (.inr (.inr ⟨HS.out.2.1.1, HS.out.2.1.2, HS.out.2.2, by rw [HZ.out.1, HZ.out.2, HD.out]; exact hfit, by rw [HZ.out.2] at HWL; rw [HZ.out.2, HWL.out.1]; exact HQ.out.1.symm, by rw [HZ.out.2] at HWL; rw [HZ.out.2, HWL.out.1]; exact HQ.out.2.symm, .inl ⟨rfl, by rw [HZ.out.2, first, if_neg hb16], by rw [HZ.out.2, HD.out, HS.out.2.2]⟩⟩)), (HN.out.1.mono (by omega)).sub fun k hk => .inl hk, HK5.out.trans (kp_sub (HQ4.out.trans HN.out.2) fun k hk => .inl hk)⟩
end
theorem append_any {w w0 : World} {b bd N : Nat} {G : Nat → Prop} {x : Lg} {d : Dsk} {r : List UInt8} (h : AP w0 bd N d b x G r w) : Calls Try.prog 18 #[.pointer (some ⟨b, 0, none⟩), .string (tx r)] w (ApE w0 bd N d b x G r w) := by
  by_cases hs : 1 ≤ r.length ∧ r.length ≤ 4096
  · cases hf : x.fz with
    | true => exact append_frozen h hs hf
    | false =>
      by_cases hfit : x.nx + nd (np r.length) x.nx ≤ d.size
      · exact append_go h hs hf hfit
      · exact append_full h hs hf (by omega)
  · exact append_size h (by omega)
/-- All that is asked of the log. -/
theorem segs : Segs LM where
  own := fun w b T bd x h => h.own
  keep := fun w w' b T bd x h hk => h.keep hk
  opened := fun w0 w bd N d G hD h1 h2 h3 h4 h5 => open_yes hD h1 h2 h3 h4 h5
  down := fun w0 w bd N d G hD h1 h2 h3 => open_down hD h1 h2 h3
  append := fun w0 w bd N d b x G r h h1 h2 h3 h4 h5 h6 => append_any ⟨h, h1, h2, h3, h4, h5, h6⟩
  sync := fun w0 w bd N d b x G h h1 h2 => sync_of h h1 h2
  next := fun w0 w bd N d b x G ⟨_, h, _⟩ => next_of h
  frozen := fun w0 w bd N d b x G ⟨_, h, _⟩ => frozen_of h
end Go.Proofs.Ytbbeekpndhfpjaa.Sg
end
