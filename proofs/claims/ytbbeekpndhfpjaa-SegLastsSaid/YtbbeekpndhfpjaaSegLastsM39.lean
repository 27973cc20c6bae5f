/- Texts of the walk, one behind the other. -/
import Derived.Test.YtbbeekpndhfpjaaSegLastsM37
import Derived.Test.YtbbeekpndhfpjaaSegLastsM38
import Derived.Test.YtbbeekpndhfpjaaSegLastsM6

section
/- Contract of frag's Cut. -/
set_option maxRecDepth 100000
set_option linter.unusedVariables false
set_option linter.unusedSimpArgs false
namespace Go.Proofs.Ytbbeekpndhfpjaa.Row
open Go.RowKit
section
variable {ts te : TypeId} {m by_ : Nat} {Z : Array Value}
/-- 'make([]T, 0, c)'. -/
theorem run_make_cap (T : ElT ts te m by_ Z) (c : Nat) (hc : c ≤ 1000000) (w : World) :
    (Instr.makeSlice ts (.int .i64 0) (.int .i64 (c : Int))).run Try.prog w = .ok (.slice (some ⟨w.heap.size, 0, none⟩) 0 c) (w.alloc (.cells (madeCells Z (c * m)) te)) := by
  obtain ⟨i, z, hi, hz, hzc, hsz, hby⟩ := T.info
  have hb : i.bytes * c ≤ 100000 * 1000000 := Nat.mul_le_mul (by rw [hby]; exact T.hb) hc
  have hbi : (i.bytes : Int) * (c : Int) ≤ 281474976710656 := by rw [← Int.natCast_mul]; omega
  have h := run_make (P := Try.prog) w ts te i z T.hu hi hz .i64 .i64 0 (c : Int) (by omega) (by omega) hbi (by omega)
  rw [hzc, hsz] at h
  exact h
theorem Els.room {w : World} {B g c : Nat} (F : Nat → Array Value) (hB : B ≤ g) (hc : c ≤ maxLen) (h : At w g (madeCells Z (c * m)) te) : Els w B te m (some ⟨g, 0, none⟩) 0 c F :=
  ⟨fun i hi => absurd hi (Nat.not_lt_zero i), by simp [elL], .inr ⟨g, c, _, rfl, hB, h, Nat.zero_le _, hc, size_madeCells _ _, by simp [elL]⟩⟩
/-- 'p = append(p, q...)' within the capacity: the slice stays in its block. -/
theorem wpList_append_fit {F G : Nat → Array Value} {w : World} {B g n c : Nat} {ops : Array Oper} {rest : List Oper} {o : Oper} {ac : Act} {Q : Exit → Act → World → Prop} (T : ElT ts te m by_ Z) (hgd : o.guard = none) (s x : Operand)
    (ho : o.op = .call { callee := .builtin .append, args := #[s, x], argTypes := #[ts, ts] })
    (hs : ac.eval s = .slice (some ⟨g, 0, none⟩) n c) (hown : Els w B te m (some ⟨g, 0, none⟩) n c F) (b p k d : Nat) (hx : ac.eval x = .slice (some ⟨b, p, none⟩) k d) (hW : Wid m G k) (hr : ∀ i, i < k → w.rangeAt b (p + i * m) (G i).toList)
    (hn : n + k ≤ c)
    (hK : ∀ w', Els w' B te m (some ⟨g, 0, none⟩) (n + k) c (catE F n G) → w.grownBy w' (some g) → wpList Try.prog ops Q rest (ac.put o.dst (.slice (some ⟨g, 0, none⟩) (n + k) c)) w') : wpList Try.prog ops Q (o :: rest) ac w := by
  obtain ⟨i, z, hi, hz, hzc, hsz, hby⟩ := T.info
  refine wpList_append_fits w hgd s x ts ho B te i m T.hu hi hsz g n c (elL F n) hs hown.2 ⟨b, p, none⟩ k d (elL G k) hx (elL_length hW) ?_ ?_ hn ?_
  · intro q u hq
    obtain ⟨i, j, hi, hj, rfl, hv⟩ := elL_at T.hm hW hq
    rw [Go.WideShapes.add_plain, ← Nat.add_assoc]
    exact hr i hi j u (by rw [Array.getElem?_toList]; exact hv)
  · intro u hu
    obtain ⟨q, hq⟩ := List.getElem?_of_mem hu
    obtain ⟨i, j, hi, hj, rfl, hv⟩ := elL_at T.hm hW hq
    exact Array.all_eq_true_iff_forall_mem.1 (hW i hi).2 u (Array.mem_of_getElem? hv)
  · intro w' hown' hg
    rw [elL_cat] at hown'
    exact hK w' ⟨hown.1.cat hW, hown'⟩ hg
end
section
variable {ops : Array Oper} {S : World → Prop} {a : Act} {oi : Oper} {y : Operand}
/-- A text's length. -/
theorem y_lens {s : ByteArray} {n : Nat} (hw : Region.wanted oi (yielded ops a.tmps) = true) (ho : oi.op = .call { callee := .builtin .len, args := #[y], argTypes := #[9] }) (hy : a.eval y = .string s) (hn : s.size = n) : YieldsIf Try.prog ops S oi (.int .i64 n) a :=
  y_run hw fun w => by
    unfold execOp
    simp only [ho, resolve, invoke, builtin, Sem.run_bind, Sem.run_pure, Result.andThen_ok, List.map_toArray, List.map_cons, List.map_nil, hy]
    simp [Builtin.len_, run_underlying Try.underlying9, hn]
    rfl
end
end Go.Proofs.Ytbbeekpndhfpjaa.Row
namespace Go.Proofs.Ytbbeekpndhfpjaa.Fg
open Go.RowKit Go.Proofs.Ytbbeekpndhfpjaa.Row Go.Proofs.Ytbbeekpndhfpjaa.Pa Go.Proofs.Ytbbeekpndhfpjaa.Rf Go.Shelf
attribute [local go_sem] Oper.semAt_some

theorem built_pp (a k : Int) (x y : Bool) (s : ByteArray) : Try.prog.built 73 [(0, .int .u32 a), (2, .int .i64 k), (3, .bool x), (4, .bool y), (5, .string s)] = some #[.int .u32 a, .int .u32 0, .int .i64 k, .bool x, .bool y, .string s] := by kernel_rfl
theorem enter_clone : ∀ args w, (callFunc 58 args).run Try.prog w = .ok (.enter 58 args) w := fun args w => run_enter Try.func58 (by kernel_rfl) rfl args w
theorem info_sl : (Try.prog.info? 80).map (·.size) = some 1 := by kernel_rfl

/-- The boxes of Cut, and its list, in a world that goes on from w: i pieces are there. -/
def CB (w : World) (e : Nat) (r : List UInt8) (R : ByteArray) (g N i : Nat) (W : World) : Prop :=
  At W w.heap.size #[.int .u32 e] 40 ∧ At W (w.heap.size + 1) #[.string R] 9 ∧ At W (g + 1) #[.slice (some ⟨g, 0, none⟩) i N] 80 ∧ At W (g + 2) #[.string R] 9 ∧
  Els W w.heap.size 73 6 (some ⟨g, 0, none⟩) i N (pcs e r) ∧ Below w.heap.size w W
theorem CB.deaf {w : World} {e : Nat} {r : List UInt8} {R : ByteArray} {g N i B : Nat} (hg : w.heap.size + 2 ≤ g) (hB : g + 3 ≤ B) : Deaf B (CB w e r R g N i) := by
  refine (Deaf.at (by omega)).and ((Deaf.at (by omega)).and ((Deaf.at (by omega)).and ((Deaf.at (by omega)).and (Deaf.and (fun W W' row hj hgr hr => ?_) (Deaf.below (Nat.le_refl _) (by omega))))))
  refine hj.keep fun q hq => ?_
  obtain rfl : g = q := by injection hq
  exact hgr.block g (hj.block g rfl).2 fun h => by have := hr g h.symm; omega
theorem CB.next {w W W' : World} {e : Nat} {r : List UInt8} {R : ByteArray} {g N i : Nat} (h : CB w e r R g N i W) (hb : Below W.heap.size W W') : CB w e r R g N i W' := by
  obtain ⟨e0, e1, e2, e3, e4, e5⟩ := h
  exact ⟨e0.below hb e0.lt, e1.below hb e1.lt, e2.below hb e2.lt, e3.below hb e3.lt, e4.below hb, below_trans e5 hb e5.size⟩
/-- One piece more. -/
theorem CB.more {w W W' : World} {e : Nat} {r : List UInt8} {R : ByteArray} {g N i : Nat} (h : CB w e r R g N i W) (hwg : w.heap.size + 2 ≤ g) (hg : W.grownBy W' (some g)) (hE : Els W' w.heap.size 73 6 (some ⟨g, 0, none⟩) (i + 1) N (pcs e r)) :
    CB w e r R g N (i + 1) (W'.setCell ⟨g + 1, 0, none⟩ (.slice (some ⟨g, 0, none⟩) (i + 1) N)) := by
  obtain ⟨e0, e1, e2, e3, e4, e5⟩ := h
  have k : ∀ {b A t}, At W b A t → b ≠ g → At W' b A t := fun h hb => (hg.block _ h.lt fun e => hb (Option.some.inj e)).trans h
  have n0 : w.heap.size ≠ g := by omega
  have n1 : w.heap.size + 1 ≠ g := by omega
  have n2 : g + 1 ≠ g := by omega
  have n3 : g + 2 ≠ g := by omega
  have m0 : w.heap.size ≠ g + 1 := by omega
  have m1 : w.heap.size + 1 ≠ g + 1 := by omega
  have m3 : g + 2 ≠ g + 1 := by omega
  refine ⟨(k e0 n0).setCell_other m0, (k e1 n1).setCell_other m1, (k e2 n2).setCell, (k e3 n3).setCell_other m3, hE.setCell _ fun q hq => ?_, ?_⟩
  · obtain rfl : g = q := by injection hq
    exact n2.symm
  · refine (e5.grown hg e5.size fun k e => ?_).setCell (p := ⟨g + 1, 0, none⟩) (by dsimp only; omega) _
    injection e with e; subst e; omega

set_option maxHeartbeats 2000000 in
theorem cutYes : CutYes := fun e r w he h1 hr => by
  refine (callsIn_wide (n := 9)).1 (callsIn_of_wp_marks Try.func47 rfl trivial ?_ rfl)
  simp only [Try.ntmps47, List.size_toArray, List.length_cons, List.length_nil, Nat.reduceAdd, Nat.reduceSub, Array.replicate_succ, Array.replicate_zero, List.push_toArray, List.append_toArray, List.nil_append, List.cons_append]
  obtain ⟨R, hR⟩ : ∃ R, tx r = R := ⟨_, rfl⟩
  obtain ⟨m, hm⟩ : ∃ m, r.length = m := ⟨_, rfl⟩
  have hs : R.size = m := by rw [← hR, tx_size, hm]
  have HS : ∀ w, Calls Try.prog 50 #[.int .i64 m] w fun en w' => en = .returned (.bool true) ∧ w' = w := fun w => by
    have := sized_any m w (by unfold maxLen; omega)
    rwa [decide_eq_true (by omega)] at this
  have HS := Lib.hid HS
  obtain ⟨N, hN⟩ : ∃ N, np m = N := ⟨_, rfl⟩
  have HN := Lib.hid hN
  have hN8 : N ≤ 84 := by rw [← hN]; unfold np; omega
  have HG : ∀ w, Calls Try.prog 34 #[.int .i64 m] w fun en w' => en = .returned (.int .i64 (N : Int)) ∧ Below w.heap.size w w' := fun w => by
    have := pagesAs m w (by unfold maxLen; omega)
    unfold pgN at this
    rwa [if_pos (by omega), hN] at this
  have HG := Lib.hid HG
  have HR := Lib.hid hR
  have HM := Lib.hid hm
  rw [hR]
  rw [hm] at h1 hr ⊢
  rw [hN]
  have HP := Lib.hid (fun w => pieces_as R w)
  clear hR hN
  gi_wp2_with fail
  refine ⟨trivial, (callsIn_wide.2 (HS.out _)).mono ?_⟩
  rintro en w1 ⟨rfl, rfl⟩
  gi_wp2_with fail
  refine ⟨trivial, (callsIn_wide.2 (HG.out _)).mono ?_⟩
  rintro en w1 ⟨rfl, hb1⟩
  have HB1 := Lib.hid ((below_second w (.cells #[.int .u32 e] 40) (.cells #[.string R] 9)).trans (hb1.mono (by simp; omega)))
  have A0 : At ((w.alloc (.cells #[.int .u32 e] 40)).alloc (.cells #[.string R] 9)) w.heap.size #[.int .u32 e] 40 := (At.new w _ _).alloc _
  have A1 : At ((w.alloc (.cells #[.int .u32 e] 40)).alloc (.cells #[.string R] 9)) (w.heap.size + 1) #[.string R] 9 := at_second _ _ _ _
  have HA0 := Lib.hid (A0.below hb1 A0.lt)
  have HA1 := Lib.hid (A1.below hb1 A1.lt)
  have hsz : w.heap.size + 2 ≤ w1.heap.size := by have := hb1.size; simpa using this
  have hmk := run_make_cap elt_p N (by omega)
  have c1 : w1.cell? ⟨w.heap.size + 1, 0, none⟩ = some (.string R) := by rw [HA1.out.cell]; rfl
  obtain ⟨g, hg⟩ : ∃ g, w1.heap.size = g := ⟨_, rfl⟩
  have HC0 : CB w e r R g N 0 (((w1.alloc (.cells (madeCells (pgV Pv.zero) (N * 6)) 73)).alloc (.cells #[.slice (some ⟨g, 0, none⟩) 0 N] 80)).alloc (.cells #[.string R] 9)) := by
    have a2 := At.new (w1.alloc (.cells (madeCells (pgV Pv.zero) (N * 6)) 73)) #[.slice (some ⟨g, 0, none⟩) 0 N] 80
    have a3 := At.new ((w1.alloc (.cells (madeCells (pgV Pv.zero) (N * 6)) 73)).alloc (.cells #[.slice (some ⟨g, 0, none⟩) 0 N] 80)) #[.string R] 9
    simp only [World.size_alloc, hg] at a2 a3
    have a4 := At.new w1 (madeCells (pgV Pv.zero) (N * 6)) 73
    rw [hg] at a4
    refine ⟨((HA0.out.alloc _).alloc _).alloc _, ((HA1.out.alloc _).alloc _).alloc _, a2.alloc _, a3, Els.room _ (by omega) (by unfold maxLen; omega) ((a4.alloc _).alloc _), ?_⟩
    exact ((HB1.out.alloc HB1.out.size _).alloc (by simp; omega) _).alloc (by simp; omega) _
  have HC0 := Lib.hid HC0
  have c2 : ((w1.alloc (.cells (madeCells (pgV Pv.zero) (N * 6)) 73)).alloc (.cells #[.slice (some ⟨g, 0, none⟩) 0 N] 80)).cell? ⟨w.heap.size + 1, 0, none⟩ = some (.string R) := by
    have := (HA1.out.alloc (.cells (madeCells (pgV Pv.zero) (N * 6)) 73)).alloc (.cells #[.slice (some ⟨g, 0, none⟩) 0 N] 80)
    rw [this.cell]; rfl
  have HGS := Lib.hid hg
  clear hb1 A0 A1 HA0 HA1
  gi_wp2_with fail
  refine ⟨trivial, (callsIn_wide.2 (HP.out _)).mono ?_⟩
  rintro en w2 ⟨rfl, rfl⟩
  have hgs := HGS.out
  simp only [World.size_alloc, hgs]
  obtain ⟨W0, hW0⟩ : ∃ W0, (((w1.alloc (.cells (madeCells (pgV Pv.zero) (N * 6)) 73)).alloc (.cells #[.slice (some ⟨g, 0, none⟩) 0 N] 80)).alloc (.cells #[.string R] 9)) = W0 := ⟨_, rfl⟩
  have hz0 : W0.heap.size = g + 3 := by rw [← hW0]; simp [hgs]
  have HC1 := HC0.out
  rw [hW0] at HC1 ⊢
  clear HC0 hW0 hmk c1 c2 hg
  have hwg : w.heap.size + 2 ≤ g := by omega
  clear hgs hsz
  gi_wp2_with fail
  have hmN : np r.length = N := by rw [HM.out]; exact HN.out
  refine range_over_c (gf := 60) (N := N) (E := pE r) (xs := #[.pointer (some ⟨g + 2, 0, none⟩)]) (Pre := fun W => W.cell? ⟨g + 2, 0, none⟩ = some (.string (tx r))) rfl (enters_of Try.func60 (by kernel_rfl) rfl) (by rw [← hmN]; exact pieces_yields _ r (g + 2) (by rw [HM.out]; exact hr)) (fun _ => rfl)
    (fun i W => CB w e r R g N i W) (fun _ => False) (fun i W h => by rw [h.2.2.2.1.cell, HR.out]; rfl)
    (fun i => CB.deaf hwg (by omega)) (Deaf.const _ _) HC1
    (fun i a' W => a' = { tmps := #[.int .u32 e, .string R, .pointer (some ⟨w.heap.size, 0, none⟩), .pointer (some ⟨w.heap.size + 1, 0, none⟩), .slice none 0 0, .int .i64 0, .pointer (some ⟨g + 1, 0, none⟩), .int .i64 ((49 * i : Nat) : Int), .string (tx ((r.drop (49 * i)).take 49)),
      .string R, .int .i64 m, .bool true, .bool false, .string R, .int .i64 m, .int .i64 N, .slice (some ⟨g, 0, none⟩) 0 N, .string R, .func (.func 60) #[] #[.pointer (some ⟨g + 2, 0, none⟩)], .int .i64 ((49 * i : Nat) : Int), .string (tx ((r.drop (49 * i)).take 49)), undef, undef, undef, undef, undef, undef, undef, undef, undef, undef, undef, undef, undef, undef, undef, undef, undef], defers := [] })
    (fun i a' W W' h _ => h) ?assign ?body ?done ?stop
  case assign =>
    rintro l i W K hi hb hW hK
    unfold pE
    gi_wp2
    exact hK _ _ (Kept.refl _ _) hb rfl
  case body =>
    rintro l i a' W hi hb rfl
    have hiR : i < np r.length := by rw [hmN]; exact hi
    have h49 := np_lt hiR
    obtain ⟨X, hX⟩ : ∃ X, tx ((r.drop (49 * i)).take 49) = X := ⟨_, rfl⟩
    obtain ⟨M, hM⟩ : ∃ M, 49 * i = M := ⟨_, rfl⟩
    obtain ⟨x, hx⟩ : ∃ x, X.size = x := ⟨_, rfl⟩
    have hxs : x = min 49 (m - M) := by rw [← hx, ← hX, tx_size, List.length_take, List.length_drop, HM.out, hM]
    have HX := Lib.hid hx
    obtain ⟨b0, hb0⟩ : ∃ b0, decide (i = 0) = b0 := ⟨_, rfl⟩
    obtain ⟨b1, hb1⟩ : ∃ b1, decide (r.length ≤ 49 * (i + 1)) = b1 := ⟨_, rfl⟩
    have HPC := Lib.hid (show pcs e r i = #[.int .u32 e, .int .u32 0, .int .i64 2, .bool b0, .bool b1, .string X] by unfold pcs; rw [pgV_pc, hX, hb0, hb1])
    have HB0 := Lib.hid (show ((M : Int) == 0) = b0 by
      rw [← hb0]
      by_cases c : i = 0
      · rw [decide_eq_true c, beq_iff_eq]; omega
      · rw [decide_eq_false c, beq_eq_false_iff_ne]; omega)
    have HB1' := Lib.hid (show (((M : Int) + x) == (m : Int)) = b1 by
      have hm2 := HM.out
      rw [← hb1]
      by_cases c : r.length ≤ 49 * (i + 1)
      · rw [decide_eq_true c, beq_iff_eq]; omega
      · rw [decide_eq_false c, beq_eq_false_iff_ne]; omega)
    have HSZ := Lib.hid hs
    have hM5 : M ≤ 4096 := by have := HM.out; omega
    have hx5 : x ≤ 49 := by omega
    have HB := Lib.hid hb
    rw [hX, hM]
    have cL : W.cell? ⟨g + 1, 0, none⟩ = some (.slice (some ⟨g, 0, none⟩) i N) := by rw [hb.2.2.1.cell]; rfl
    have cE : W.cell? ⟨w.heap.size, 0, none⟩ = some (.int .u32 e) := by rw [hb.1.cell]; rfl
    have cR : W.cell? ⟨w.heap.size + 1, 0, none⟩ = some (.string R) := by rw [hb.2.1.cell]; rfl
    have HCS := Lib.hid (And.intro cL (And.intro cE cR))
    clear hb hX hM hx hxs hb0 hb1 h49 cL cE cR hiR hs
    gi_wp2_with fail
    refine mf_startIn (fun w' => w'.cell? ⟨g + 1, 0, none⟩ = some (.slice (some ⟨g, 0, none⟩) i N) ∧ w'.cell? ⟨w.heap.size, 0, none⟩ = some (.int .u32 e) ∧ w'.cell? ⟨w.heap.size + 1, 0, none⟩ = some (.string R)) (fun j => j == 16) (by kernel_rfl) HCS.out fun hS => ?_
    refine mf_yield (i := 0) (d := 21) (.slice (some ⟨g, 0, none⟩) i N) rfl rfl (by kernel_rfl) (by kernel_rfl) (by kernel_rfl) (by kernel_rfl) hS (y_cell1 (by rfl) rfl rfl Try.underlying80 rfl fun w h => h.1) ?_
    simp only [Act.put, List.setIfInBounds_toArray, List.set_cons_zero, List.set_cons_succ]
    refine mf_yield (i := 1) (d := 22) (.int .u32 e) rfl rfl (by kernel_rfl) (by kernel_rfl) (by kernel_rfl) (by kernel_rfl) hS (y_cell1 (by rfl) rfl rfl Try.underlying40 rfl fun w h => h.2.1) ?_
    simp only [Act.put, List.setIfInBounds_toArray, List.set_cons_zero, List.set_cons_succ]
    refine mf_yield (i := 2) (d := 23) (.int .i64 (M : Int)) rfl rfl (by kernel_rfl) (by kernel_rfl) (by kernel_rfl) (by kernel_rfl) hS (y_run (by rfl) fun _ => by rfl) ?_
    simp only [Act.put, List.setIfInBounds_toArray, List.set_cons_zero, List.set_cons_succ]
    refine mf_yield (i := 3) (d := 24) (.bool b0) rfl rfl (by kernel_rfl) (by kernel_rfl) (by kernel_rfl) (by kernel_rfl) hS (y_eqi2 (by rfl) rfl rfl rfl HB0.out) ?_
    simp only [Act.put, List.setIfInBounds_toArray, List.set_cons_zero, List.set_cons_succ]
    refine mf_yield (i := 4) (d := 25) (.int .i64 (M : Int)) rfl rfl (by kernel_rfl) (by kernel_rfl) (by kernel_rfl) (by kernel_rfl) hS (y_run (by rfl) fun _ => by rfl) ?_
    simp only [Act.put, List.setIfInBounds_toArray, List.set_cons_zero, List.set_cons_succ]
    refine mf_yield (i := 5) (d := 26) (.string X) rfl rfl (by kernel_rfl) (by kernel_rfl) (by kernel_rfl) (by kernel_rfl) hS (y_run (by rfl) fun _ => by rfl) ?_
    simp only [Act.put, List.setIfInBounds_toArray, List.set_cons_zero, List.set_cons_succ]
    refine mf_yield (i := 6) (d := 27) (.int .i64 (x : Int)) rfl rfl (by kernel_rfl) (by kernel_rfl) (by kernel_rfl) (by kernel_rfl) hS (y_lens (by rfl) rfl rfl HX.out) ?_
    simp only [Act.put, List.setIfInBounds_toArray, List.set_cons_zero, List.set_cons_succ]
    refine mf_yield (i := 7) (d := 28) (.int .i64 ((M : Int) + x)) rfl rfl (by kernel_rfl) (by kernel_rfl) (by kernel_rfl) (by kernel_rfl) hS (y_add (by rfl) rfl rfl rfl (IntWalk.i64_in _ (by omega))) ?_
    simp only [Act.put, List.setIfInBounds_toArray, List.set_cons_zero, List.set_cons_succ]
    refine mf_yield (i := 8) (d := 29) (.string R) rfl rfl (by kernel_rfl) (by kernel_rfl) (by kernel_rfl) (by kernel_rfl) hS (y_cell1 (by rfl) rfl rfl Try.underlying9 rfl fun w h => h.2.2) ?_
    simp only [Act.put, List.setIfInBounds_toArray, List.set_cons_zero, List.set_cons_succ]
    refine mf_yield (i := 9) (d := 30) (.int .i64 (m : Int)) rfl rfl (by kernel_rfl) (by kernel_rfl) (by kernel_rfl) (by kernel_rfl) hS (y_lens (by rfl) rfl rfl HSZ.out) ?_
    simp only [Act.put, List.setIfInBounds_toArray, List.set_cons_zero, List.set_cons_succ]
    refine mf_yield (i := 10) (d := 31) (.bool b1) rfl rfl (by kernel_rfl) (by kernel_rfl) (by kernel_rfl) (by kernel_rfl) hS (y_eqi2 (by rfl) rfl rfl rfl HB1'.out) ?_
    simp only [Act.put, List.setIfInBounds_toArray, List.set_cons_zero, List.set_cons_succ]
    refine mf_yield (i := 11) (d := 32) (.string X) rfl rfl (by kernel_rfl) (by kernel_rfl) (by kernel_rfl) (by kernel_rfl) hS (y_run (by rfl) fun _ => by rfl) ?_
    simp only [Act.put, List.setIfInBounds_toArray, List.set_cons_zero, List.set_cons_succ]
    refine mf_ready [12] (by kernel_rfl) (by simp) (af_call (i := 12) (d := 33) (R := fun v w' => v = .string X ∧ Below W.drew.heap.size W.drew w') #[.string X] rfl rfl (by rfl) rfl enter_clone (by kernel_rfl) ((clone_any X _ (by rw [HX.out]; omega)).mono fun e w' h => ⟨_, h.1, rfl, h.2⟩) (fun v w' h => ⟨Below.cell h.2 (block_lt_of_cell hS.1) |>.trans hS.1, Below.cell h.2 (block_lt_of_cell hS.2.1) |>.trans hS.2.1, Below.cell h.2 (block_lt_of_cell hS.2.2) |>.trans hS.2.2⟩) ?_ AllReadyF.nil)
    rintro v W2 ⟨rfl, hb2⟩ hS2
    simp only [Act.put, List.setIfInBounds_toArray, List.set_cons_zero, List.set_cons_succ]
    refine mf_yield (i := 13) (d := 34) (.agg #[.int .u32 e, .int .u32 0, .int .i64 2, .bool b0, .bool b1, .string X]) rfl rfl (by kernel_rfl) (by kernel_rfl) (by kernel_rfl) (by kernel_rfl) hS2 (y_build_parts (L := [(0, .tmp 22), (2, .const (.int .i64 2)), (3, .tmp 24), (4, .tmp 31), (5, .tmp 33)]) (by rfl) rfl _ rfl (built_pp _ _ _ _ _)) ?_
    simp only [Act.put, List.setIfInBounds_toArray, List.set_cons_zero, List.set_cons_succ]
    have hbW : Below W.heap.size W W2 := ⟨hb2.os, hb2.tape, hb2.output, hb2.size, hb2.block⟩
    have hCB := HB.out.next hbW
    obtain ⟨P, hP⟩ : ∃ P, (#[.int .u32 e, .int .u32 0, .int .i64 2, .bool b0, .bool b1, .string X] : Array Value) = P := ⟨_, rfl⟩
    have HPP := Lib.hid (show P.size = 6 ∧ P.all (·.oneCell') = true ∧ P = pcs e r i by
      refine ⟨by rw [← hP]; rfl, ?_, by rw [HPC.out, hP]⟩
      rw [← hP, ← HPC.out]; exact pgV_one _)
    rw [hP]
    clear hP
    refine mf_of (i := 14) rfl (by kernel_rfl) (by rfl) fun Q' hQ => ?_
    refine wpList_slice_el elt_p HPP.out.1 (by omega) rfl _ rfl rfl rfl ?_
    have hb3 : Below W2.heap.size W2 (W2.alloc (.cells P 73)) := (Below.refl W2.heap.size W2).alloc (Nat.le_refl _) _
    have hC3 := hCB.next hb3
    have hA3 := At.new W2 P 73
    have hS3 : (W2.alloc (.cells P 73)).cell? ⟨g + 1, 0, none⟩ = some (.slice (some ⟨g, 0, none⟩) i N) ∧ (W2.alloc (.cells P 73)).cell? ⟨w.heap.size, 0, none⟩ = some (.int .u32 e) ∧ (W2.alloc (.cells P 73)).cell? ⟨w.heap.size + 1, 0, none⟩ = some (.string R) :=
      ⟨by rw [hC3.2.2.1.cell]; rfl, by rw [hC3.1.cell]; rfl, by rw [hC3.2.1.cell]; rfl⟩
    refine hQ _ _ (fun _ => hS3) ?_
    clear hQ hS3
    clear Q'
    simp only [Act.put, List.setIfInBounds_toArray, List.set_cons_zero, List.set_cons_succ]
    have hk3 : Kept W0.heap.size W (W2.alloc (.cells P 73)) := (Kept.of_below hbW).trans (Kept.alloc _ _ _)
    revert hC3 hA3 hk3
    generalize World.alloc _ _ = W3
    intro hC3 hA3 hk3
    refine mf_of (i := 15) rfl (by kernel_rfl) (by rfl) fun Q' hQ => ?_
    refine wpList_append_fit elt_p rfl _ _ rfl rfl hC3.2.2.2.2.1 W2.heap.size 0 1 1 rfl (wid_one HPP.out.1 HPP.out.2.1) (At.one hA3) (by omega) ?_
    intro W4 h4 g4
    have hC4 := hC3.more hwg g4 (h4.ext fun k hk => by
      unfold catE
      split
      · rfl
      · obtain rfl : k = i := by omega
        exact HPP.out.2.2)
    have n1 : g + 1 ≠ g := by omega
    have n2 : w.heap.size ≠ g := by omega
    have n3 : w.heap.size + 1 ≠ g := by omega
    have k4 : ∀ {b A t}, At W3 b A t → b ≠ g → At W4 b A t := fun h hb => (g4.block _ h.lt fun e => hb (Option.some.inj e)).trans h
    have hL4 := k4 hC3.2.2.1 n1
    have hS4 : W4.cell? ⟨g + 1, 0, none⟩ = some (.slice (some ⟨g, 0, none⟩) i N) ∧ W4.cell? ⟨w.heap.size, 0, none⟩ = some (.int .u32 e) ∧ W4.cell? ⟨w.heap.size + 1, 0, none⟩ = some (.string R) :=
      ⟨by rw [hL4.cell]; rfl, by rw [(k4 hC3.1 n2).cell]; rfl, by rw [(k4 hC3.2.1 n3).cell]; rfl⟩
    have hk4 : Kept W0.heap.size W (W4.setCell ⟨g + 1, 0, none⟩ (.slice (some ⟨g, 0, none⟩) (i + 1) N)) :=
      (hk3.trans ⟨g4.size, fun k hk hl => g4.block k hl fun e => by have := Option.some.inj e; omega⟩).trans (Kept.setCell _ (by dsimp only; omega) _)
    have hf4 := hL4.frozen 0
    refine hQ _ _ (fun _ => hS4) ?_
    clear hQ
    clear Q'
    simp only [Act.put, List.setIfInBounds_toArray, List.set_cons_zero, List.set_cons_succ]
    refine mf_of (i := 16) rfl (by kernel_rfl) (by rfl) fun Q' hQ => ?_
    refine wpList_store1 rfl 80 _ _ rfl rfl rfl info_sl rfl hS4.1 hf4 ?_
    refine hQ _ _ (fun h => by cases h) ?_
    clear hQ
    clear Q'
    simp only [Act.put]
    refine mf_done (by kernel_rfl) (in_done ?_)
    exact ⟨hk4, hC4⟩
  case done =>
    rintro D W hD hb hK
    have cL : W.cell? ⟨g + 1, 0, none⟩ = some (.slice (some ⟨g, 0, none⟩) N N) := by rw [hb.2.2.1.cell]; rfl
    have HF := Lib.hid (And.intro hK ((CB.deaf (B := W0.heap.size) hwg (by omega)).put hD (.deferred none) hb))
    clear hb hK
    gi_wp2
    obtain ⟨hK, hF⟩ := HF.out
    refine ⟨by simp, .inl ⟨_, _, rfl, run_takeDeferred hK, ?_⟩⟩
    refine ⟨.tuple #[.slice (some ⟨g, 0, none⟩) N N, .int .i64 0], ?_, some ⟨g, 0, none⟩, N, rfl, ?_, ?_⟩
    · simp [results, Try.f47, go_sem]
    · exact hF.2.2.2.2.1
    · exact hF.2.2.2.2.2
  case stop => exact fun D W hD h => h.elim
end Go.Proofs.Ytbbeekpndhfpjaa.Fg
end
