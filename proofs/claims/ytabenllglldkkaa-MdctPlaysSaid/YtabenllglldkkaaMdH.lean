/- Contracts: mdct.Back. -/
import Derived.Test.YtabenllglldkkaaMdG
import Derived.Deep.MidRow
namespace Go.Proofs.Ytabenllglldkkaa.Md
open Go.RowKit Go.Proofs.Ytabenllglldkkaa.Ang

/-- What holds of the memory all along: the waves, the results' rows, both halves. -/
def Bk (w w' : World) (T Y Z F L : Array Value) : Prop :=
  Below w.heap.size w w' ∧ w.heap.size + 1 + 1 + 1 + 1 + 1 ≤ w'.heap.size ∧ At w' w.heap.size T 24 ∧ At w' (w.heap.size + 1) Y 24 ∧ At w' (w.heap.size + 1 + 1) Z 24 ∧ At w' (w.heap.size + 1 + 1 + 1) F 24 ∧ At w' (w.heap.size + 1 + 1 + 1 + 1) L 24

theorem Bk.start (w : World) (T Z : Array Value) : Bk w (((((w.alloc (.cells T 24)).alloc (.cells Z 24)).alloc (.cells Z 24)).alloc (.cells Z 24)).alloc (.cells Z 24)) T Z Z Z Z := by
  refine ⟨(((((Below.refl _ _).alloc (Nat.le_refl _) _).alloc (by simp) _).alloc (by simp; omega) _).alloc (by simp; omega) _).alloc (by simp; omega) _, by simp, ((((At.new _ _ _).alloc _).alloc _).alloc _).alloc _, ?_, ?_, ?_, ?_⟩
  · have := (((At.new (w.alloc (.cells T 24)) Z 24).alloc (.cells Z 24)).alloc (.cells Z 24)).alloc (.cells Z 24)
    simpa using this
  · have := ((At.new ((w.alloc (.cells T 24)).alloc (.cells Z 24)) Z 24).alloc (.cells Z 24)).alloc (.cells Z 24)
    simpa using this
  · have := (At.new (((w.alloc (.cells T 24)).alloc (.cells Z 24)).alloc (.cells Z 24)) Z 24).alloc (.cells Z 24)
    simpa using this
  · have := At.new ((((w.alloc (.cells T 24)).alloc (.cells Z 24)).alloc (.cells Z 24)).alloc (.cells Z 24)) Z 24
    simpa using this
theorem Bk.below {w w1 w2 : World} {T Y Z F L : Array Value} (h : Bk w w1 T Y Z F L) (hb : Below w1.heap.size w1 w2) : Bk w w2 T Y Z F L := by
  obtain ⟨h0, h1, h2, h3, h4, h5, h6⟩ := h
  have := hb.size
  exact ⟨below_trans h0 hb (by omega), by omega, h2.below hb (by omega), h3.below hb (by omega), h4.below hb (by omega), h5.below hb (by omega), h6.below hb (by omega)⟩
theorem Bk.alloc {w w1 : World} {T Y Z F L : Array Value} (h : Bk w w1 T Y Z F L) (o : Obj) : Bk w (w1.alloc o) T Y Z F L := by
  obtain ⟨h0, h1, h2, h3, h4, h5, h6⟩ := h
  exact ⟨h0.alloc (by omega) _, by simp; omega, h2.alloc _, h3.alloc _, h4.alloc _, h5.alloc _, h6.alloc _⟩

/-- What holds while two rows are handed back. -/
def Ret2 (w : World) (F L : Array Value) (w' : World) : Prop :=
  Below w.heap.size w w' ∧ (∃ A : Array Value, A.size = 16 ∧ At w' (w.heap.size + 1) A 24) ∧ (∃ A : Array Value, A.size = 16 ∧ At w' (w.heap.size + 1 + 1) A 24) ∧ At w' (w.heap.size + 1 + 1 + 1) F 24 ∧ At w' (w.heap.size + 1 + 1 + 1 + 1) L 24

/-- A whole row loaded in a region that draws its order. -/
theorem yields_load {ops : Array Oper} {S : World → Prop} {op : Oper} {a : Act} (hw : Region.wanted op (yielded ops a.tmps) = true) (ty : TypeId) (x : Operand) (ho : op.op = .load ty x)
    (b : Nat) (hx : a.eval x = .pointer (some ⟨b, 0, none⟩)) (A : Array Value) (m : Nat) (e : TypeId) (hS : ∀ w, S w → At w b A ty)
    (hu : Try.prog.underlying ty = some (.array m e)) (hi : (Try.prog.info? ty).map (·.size) = some A.size) : YieldsIf Try.prog ops S op (.agg A) a :=
  .inl ⟨hw, fun w hw' => by
    unfold execOp
    simp only [ho, hx, run_load hu (hS w hw') hi, Sem.run_bind, Sem.run_pure, Result.andThen_ok]⟩

/-- Two results that are rows. -/
theorem results_rows {fn : Func} {p q : Tmp} {t : TypeId} (h : fn.results = #[.cell p t, .cell q t]) (tmps : Array Value) (w : World) (g k : Nat) (A B : Array Value) (m : Nat) (e : TypeId)
    (hp : tmps.getD p undef = .pointer (some ⟨g, 0, none⟩)) (hq : tmps.getD q undef = .pointer (some ⟨k, 0, none⟩)) (hg : At w g A t) (hk : At w k B t)
    (hu : Try.prog.underlying t = some (.array m e)) (hA : (Try.prog.info? t).map (·.size) = some A.size) (hB : (Try.prog.info? t).map (·.size) = some B.size) :
    (results fn tmps).run Try.prog w = .ok (.tuple #[.agg A, .agg B]) w := by
  have hp' : tmps[p]?.getD undef = .pointer (some ⟨g, 0, none⟩) := by simpa using hp
  have hq' : tmps[q]?.getD undef = .pointer (some ⟨k, 0, none⟩) := by simpa using hq
  have h1 := run_loadVar_row w g t t A (0, 0) _ hg hu rfl hA
  have h2 := run_loadVar_row w k t t B (0, 0) _ hk hu rfl hB
  simp [results, h, hp', hq', asAddr, h1, h2]

set_option maxRecDepth 100000 in
set_option maxHeartbeats 1000000 in
theorem back_no (T : Array Value) (f : Nat → Int) (hT : IsRow 16 f T) (hf : ¬ Le 1048576 f) (w : World) :
    Calls Try.prog 10 #[.agg T] w fun e w' => e = .returned (.tuple #[.agg (rowL 16 (fun _ => 0) 16), .agg (rowL 16 (fun _ => 0) 16)]) ∧ Below w.heap.size w w' := by
  obtain ⟨Z, hZ, hZ0, hz, hi⟩ := zero_block
  have HT := Lib.hid hT
  have HF := Lib.hid hf
  have HZ := Lib.hid hZ
  have HI := Lib.hid hi
  have HS := Lib.hid (Bk.start w T Z)
  rw [← hZ.at]
  clear hT hZ0 hi hZ hf
  go_enter Try.func10, Try.ntmps10
  go_wp2_with (refine wpList_load_row rfl 24 _ rfl w.heap.size rfl _ _ (0, 0) _ HS.out.2.2.1 Try.underlying24 rfl (HI.out _ HT.out.1) ?_)
  refine (held_no T f HT.out HF.out _).mono ?_
  rintro e w1 ⟨rfl, hw1⟩
  have H1 := Lib.hid (HS.out.below hw1)
  clear HS hw1
  obtain ⟨hb, _, _, h1, h2, h3, h4⟩ := H1.out
  have B1 := Lib.hid hb
  have G1 := Lib.hid h1
  have G2 := Lib.hid h2
  have G3 := Lib.hid h3
  have G4 := Lib.hid h4
  clear hb h1 h2 h3 h4 H1
  go_wp2_with fail
  refine wp_region_noPanic ?_
  refine wp_region_held_drew (S := Ret2 w Z Z) (by kernel_rfl) ?_ (fun hHeld => ?_)
  · exact ⟨B1.out.drew, ⟨_, HZ.out.1, G1.out⟩, ⟨_, HZ.out.1, G2.out⟩, G3.out, G4.out⟩
  refine wpAnyH_take (i := 0) (oi := _) (v := .agg Z) rfl (by kernel_rfl) (by kernel_rfl) (by kernel_rfl) (fun _ _ _ h => h) (yields_load (by rfl) 24 _ rfl (w.heap.size + 1 + 1 + 1) rfl Z _ _ (fun _ h => h.2.2.2.1) Try.underlying24 (HI.out _ HZ.out.1)) hHeld ?_
  show wpAnyH _ _ _ _ _ _ _ (Act.put _ (some 14) _) _
  simp only [Act.put, List.setIfInBounds_toArray, List.set_cons_zero, List.set_cons_succ]
  refine wpAnyH_take (i := 1) (oi := _) (v := .agg Z) rfl (by kernel_rfl) (by kernel_rfl) (by kernel_rfl) (fun _ _ _ h => h) (yields_load (by rfl) 24 _ rfl (w.heap.size + 1 + 1 + 1 + 1) rfl Z _ _ (fun _ h => h.2.2.2.2) Try.underlying24 (HI.out _ HZ.out.1)) hHeld ?_
  show wpAnyH _ _ _ _ _ _ _ (Act.put _ (some 15) _) _
  simp only [Act.put, List.setIfInBounds_toArray, List.set_cons_zero, List.set_cons_succ]
  refine wpAnyH_ready (rs := [2]) (by kernel_rfl) (by simp) ?_
  refine AllReadyH.cons rfl (fun K hK => ?_) AllReadyH.nil
  rw [if_pos (by rfl)]
  obtain ⟨b1, ⟨A1, hA1, a1⟩, ⟨A2, hA2, a2⟩, a3, a4⟩ := hHeld
  refine wp_store_row 24 _ _ rfl (w.heap.size + 1) Z rfl rfl 24 A1 a1 (HI.out _ HZ.out.1) (by rw [hA1, HZ.out.1]) HZ.out.2.1 ?_
  refine hK.out _ _ ⟨below_setRow' b1 (by omega) _, ⟨_, HZ.out.1, a1.setRow⟩, ⟨_, hA2, a2.setRow_other (by omega)⟩, a3.setRow_other (by omega), a4.setRow_other (by omega)⟩ (fun _ => ?_)
  clear hK K
  show wpAnyH _ _ _ _ _ _ _ (Act.put _ none _) _
  simp only [Act.put]
  refine wpAnyH_ready (rs := [3]) (by kernel_rfl) (by simp) ?_
  refine AllReadyH.cons rfl (fun K hK => ?_) AllReadyH.nil
  rw [if_pos (by rfl)]
  refine wp_store_row 24 _ _ rfl (w.heap.size + 1 + 1) Z rfl rfl 24 A2 (a2.setRow_other (by omega)) (HI.out _ HZ.out.1) (by rw [hA2, HZ.out.1]) HZ.out.2.1 ?_
  refine hK.out _ _ ⟨below_setRow' (below_setRow' b1 (by omega) _) (by omega) _, ⟨_, HZ.out.1, a1.setRow.setRow_other (by omega)⟩, ⟨_, HZ.out.1, (a2.setRow_other (by omega)).setRow⟩, (a3.setRow_other (by omega)).setRow_other (by omega), (a4.setRow_other (by omega)).setRow_other (by omega)⟩ (fun _ => ?_)
  clear hK K
  show wpAnyH _ _ _ _ _ _ _ (Act.put _ none _) _
  simp only [Act.put]
  refine wpAnyH_done (by kernel_rfl) ?_ _
  refine NoPanic.normal ?_
  have F1 := Lib.hid (a1.setRow (C := Z) |>.setRow_other (g := w.heap.size + 1 + 1) (C := Z) (by omega))
  have F2 := Lib.hid ((a2.setRow_other (g := w.heap.size + 1) (C := Z) (by omega)).setRow (C := Z))
  have FB := Lib.hid (below_setRow' (below_setRow' b1 (Nat.le_succ _) Z) (show w.heap.size ≤ w.heap.size + 1 + 1 by omega) Z)
  clear a1 a2 a3 a4 b1 hA1 hA2
  go_wp2
  exact bodyPost_ret (v := .tuple #[.agg Z, .agg Z]) (results_rows rfl _ _ (w.heap.size + 1) (w.heap.size + 1 + 1) Z Z _ _ rfl rfl F1.out F2.out Try.underlying24 (HI.out _ HZ.out.1) (HI.out _ HZ.out.1)) rfl ⟨rfl, FB.out⟩
end Go.Proofs.Ytabenllglldkkaa.Md
