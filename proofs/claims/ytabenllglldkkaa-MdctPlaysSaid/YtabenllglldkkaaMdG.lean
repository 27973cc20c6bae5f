/- Contracts: mdct.Waves. -/
import Derived.Test.YtabenllglldkkaaMdF
namespace Go.Proofs.Ytabenllglldkkaa.Md
open Go.RowKit Go.Proofs.Ytabenllglldkkaa.Ang

/-- A whole row out of its block. -/
theorem run_load {t : TypeId} {w : World} {g m : Nat} {e t' : TypeId} {A : Array Value} (hu : Try.prog.underlying t = some (.array m e)) (hA : At w g A t') (hi : (Try.prog.info? t).map (·.size) = some A.size) :
    (Instr.loadAt t (.pointer (some ⟨g, 0, none⟩))).run Try.prog w = .ok (.agg A) w := by
  simp only [Instr.loadAt, Instr.sureAddr, Sem.run_bind, Sem.run_pure, Result.andThen]
  exact run_loadVar_row w g t' t A (0, 0) _ hA hu rfl hi

/-- The same in a region, whether guarded or not. -/
theorem wpList_load_wanted {ops : Array Oper} {rest : List Oper} {o : Oper} {a : Act} {w : World} {Q : Exit → Act → World → Prop} (hw : Region.wanted o (yielded ops a.tmps) = true) (ty : TypeId) (x : Operand) (ho : o.op = .load ty x)
    (g : Nat) (hx : a.eval x = .pointer (some ⟨g, 0, none⟩)) (t : TypeId) (cs : Array Value) (m : Nat) (e : TypeId) (hg : At w g cs t)
    (hu : Try.prog.underlying ty = some (.array m e)) (hi : (Try.prog.info? ty).map (·.size) = some cs.size)
    (h : wpList Try.prog ops Q rest (a.put o.dst (.agg cs)) w) : wpList Try.prog ops Q (o :: rest) a w := by
  rw [wpList, if_pos hw]
  exact .inl (wp_load_row ty x ho g hx t cs (0, 0) _ hg hu rfl hi h)

/-- What holds of the memory all along: both frames, the result's row, the waves' row. -/
def Wv (w w' : World) (T U Z X : Array Value) : Prop :=
  Below w.heap.size w w' ∧ w.heap.size + 1 + 1 + 1 + 1 ≤ w'.heap.size ∧ At w' w.heap.size T 24 ∧ At w' (w.heap.size + 1) U 24 ∧ At w' (w.heap.size + 1 + 1) Z 24 ∧ At w' (w.heap.size + 1 + 1 + 1) X 24

theorem Wv.start (w : World) (T U Z : Array Value) : Wv w ((((w.alloc (.cells T 24)).alloc (.cells U 24)).alloc (.cells Z 24)).alloc (.cells Z 24)) T U Z Z := by
  refine ⟨((((Below.refl _ _).alloc (Nat.le_refl _) _).alloc (by simp) _).alloc (by simp; omega) _).alloc (by simp; omega) _, by simp, (((At.new _ _ _).alloc _).alloc _).alloc _, ?_, ?_, ?_⟩
  · have := ((At.new (w.alloc (.cells T 24)) U 24).alloc (.cells Z 24)).alloc (.cells Z 24)
    simpa using this
  · have := (At.new ((w.alloc (.cells T 24)).alloc (.cells U 24)) Z 24).alloc (.cells Z 24)
    simpa using this
  · have := At.new (((w.alloc (.cells T 24)).alloc (.cells U 24)).alloc (.cells Z 24)) Z 24
    simpa using this
theorem Wv.below {w w1 w2 : World} {T U Z X : Array Value} (h : Wv w w1 T U Z X) (hb : Below w1.heap.size w1 w2) : Wv w w2 T U Z X := by
  obtain ⟨h0, h1, h2, h3, h4, h5⟩ := h
  have := hb.size
  exact ⟨below_trans h0 hb (by omega), by omega, h2.below hb (by omega), h3.below hb (by omega), h4.below hb (by omega), h5.below hb (by omega)⟩
theorem Wv.alloc {w w1 : World} {T U Z X : Array Value} (h : Wv w w1 T U Z X) (o : Obj) : Wv w (w1.alloc o) T U Z X := by
  obtain ⟨h0, h1, h2, h3, h4, h5⟩ := h
  exact ⟨h0.alloc (by omega) _, by simp; omega, h2.alloc _, h3.alloc _, h4.alloc _, h5.alloc _⟩

theorem gather_as (T V : Array Value) (p : Nat → Int) (k bx bc : Nat) (s : Int) (w : World) (hk : k < 16) (hT : IsRow 32 p T) (hV : IsRow 128 tabS V) (hp : ∀ n, n < 32 → ab (p n) ≤ 1048576)
    (h1 : At w bx T 35) (h2 : At w bc V 40) (h : (sum 32 fun n => p n * cS n k) = s) :
    Calls Try.prog 26 #[.int .i64 k, .pointer (some ⟨bx, 0, none⟩), .pointer (some ⟨bc, 0, none⟩)] w fun e w' => e = .returned (.int .i64 s) ∧ w = w' := by
  subst h; exact gather_any T V p k bx bc w hk hT hV hp h1 h2

/-- While the waves' row is filled: the windowed numbers and the cosines stand too. -/
def WvInv (w w' : World) (T U Z : Array Value) (p q : Nat → Int) (bx bc k : Nat) : Prop :=
  Wv w w' T U Z (rowL 16 q k) ∧ At w' bx (rowL 32 p 32) 35 ∧ At w' bc (rowL 128 tabS 128) 40

set_option maxRecDepth 100000 in
set_option maxHeartbeats 1000000 in
theorem waves_yes (T U : Array Value) (f g : Nat → Int) (hT : IsRow 16 f T) (hU : IsRow 16 g U) (hf : Le 1048576 f) (hg : Le 1048576 g) (w : World) :
    Calls Try.prog 11 #[.agg T, .agg U] w fun e w' => e = .returned (.agg (rowL 16 (wS f g) 16)) ∧ Below w.heap.size w w' := by
  obtain ⟨Z, hZ, hZ0, hz, hi⟩ := zero_block
  obtain ⟨Y, hY, hY0, hy, hj⟩ := zero_32
  obtain ⟨C, hC, hC0, hc, hl⟩ := zero_128
  have HT := Lib.hid hT
  have HU := Lib.hid hU
  have HF := Lib.hid hf
  have HG := Lib.hid hg
  have HZ := Lib.hid hZ
  have HY := Lib.hid hY
  have HC := Lib.hid hC
  have ZE := Lib.hid hZ0
  have HI := Lib.hid hi
  have HJ := Lib.hid hj
  have HL := Lib.hid hl
  have HP := Lib.hid fun n hn => p_bd hf hg n hn
  have hs := Wv.start w T U Z
  have HS := Lib.hid hs
  clear hT hU hZ0 hi hf hg hZ hY hC hY0 hC0 hj hl hs
  go_enter Try.func11, Try.ntmps11
  go_wp2_with (refine wpList_load_row rfl 24 _ rfl w.heap.size rfl _ _ (0, 0) _ HS.out.2.2.1 Try.underlying24 rfl (HI.out _ HT.out.1) ?_)
  refine (held_yes T f HT.out HF.out _).mono ?_
  rintro e w1 ⟨rfl, hw1⟩
  have H1 := Lib.hid (HS.out.below hw1)
  clear HS hw1
  go_wp2_with (refine wpList_load_wanted (by rfl) 24 _ rfl (w.heap.size + 1) rfl _ _ _ _ H1.out.2.2.2.1 Try.underlying24 (HI.out _ HU.out.1) ?_)
  refine (held_yes U g HU.out HG.out _).mono ?_
  rintro e w2 ⟨rfl, hw2⟩
  have H2 := Lib.hid (H1.out.below hw2)
  clear H1 hw2
  go_wp2_with (first
    | refine wpList_load_row rfl 24 _ rfl w.heap.size rfl _ _ (0, 0) _ H2.out.2.2.1 Try.underlying24 rfl (HI.out _ HT.out.1) ?_
    | refine wpList_load_row rfl 24 _ rfl (w.heap.size + 1) rfl _ _ (0, 0) _ H2.out.2.2.2.1 Try.underlying24 rfl (HI.out _ HU.out.1) ?_)
  refine (windowed_any T U f g HT.out HU.out HF.out HG.out _).mono ?_
  rintro e w3 ⟨rfl, hw3⟩
  have H3 := Lib.hid (H2.out.below hw3)
  clear H2 hw3
  go_wp2_with (refine wpList_store_row rfl 35 _ _ rfl w3.heap.size (rowL 32 (pS f g) 32) rfl rfl _ _ (heap_alloc_new _ _) (HJ.out _ (rowL_size _ _ _)) (by rw [rowL_size, HY.out.1]) (rowL_one _ _ _) ?_)
  rw [World.setRow_alloc_new]
  refine (tab_any _).mono ?_
  rintro e w4 ⟨rfl, hw4⟩
  have hbx := H3.out.2.1
  have X3 := At.new w3 (rowL 32 (pS f g) 32) 35
  have HX := Lib.hid (X3.below hw4 X3.lt)
  have H4 := Lib.hid ((H3.out.alloc (.cells (rowL 32 (pS f g) 32) 35)).below hw4)
  clear H3 hw4 X3
  have hmf : ∀ (fn : Fn) (first cap : Array Value) (w : World), (Instr.makeFunc fn first cap).run Try.prog w = .ok (.func fn first cap) w := fun _ _ _ _ => rfl
  go_wp2_with (refine wpList_store_row rfl 40 _ _ rfl w4.heap.size (rowL 128 tabS 128) rfl rfl _ _ (heap_alloc_new _ _) (HL.out _ (rowL_size _ _ _)) (by rw [rowL_size, HC.out.1]) (rowL_one _ _ _) ?_)
  rw [World.setRow_alloc_new]
  have hbc := H4.out.2.1
  have hstart : WvInv w (w4.alloc (.cells (rowL 128 tabS 128) 40)) T U Z (pS f g) (wS f g) w3.heap.size w4.heap.size 0 :=
    ⟨by rw [ZE.out]; exact H4.out.alloc _, HX.out.alloc _, At.new _ _ _⟩
  revert hbx hbc hstart
  generalize w4.alloc (.cells (rowL 128 tabS 128) 40) = W
  generalize w3.heap.size = bx
  generalize w4.heap.size = bc
  intro hbx hbc hstart
  clear HX H4
  go_loopw [24] (fun i w' => ∃ k : Nat, k ≤ 16 ∧ i = .int .i64 k ∧ WvInv w w' T U Z (pS f g) (wS f g) bx bc k) (fun i _ => 16 - (intOf i).toNat)
  case atStart => exact ⟨0, Nat.zero_le _, rfl, hstart⟩
  case round =>
    obtain ⟨k, hk, rfl, hinv⟩ := hrel
    clear hstart
    obtain ⟨hwv, hx, hc⟩ := hinv
    obtain ⟨hb, hn4, h0, h1, h2, h3⟩ := hwv
    have H0 := Lib.hid h0
    have H1 := Lib.hid h1
    have H2 := Lib.hid h2
    have H3 := Lib.hid h3
    have HX := Lib.hid hx
    have HD := Lib.hid hc
    by_cases hk16 : k < 16
    · have c3 := rowL_cell h3 k hk16
      have f3 := h3.frozen k
      obtain ⟨s, hs⟩ : ∃ s, (sum 32 fun n => pS f g n * cS n k) = s := ⟨_, rfl⟩
      obtain ⟨r, hr⟩ : ∃ r, nr17 s = r := ⟨_, rfl⟩
      obtain ⟨s1, s2⟩ := le_ab (v_bd HF.out HG.out k 32 (by omega))
      unfold vS at s1 s2
      rw [hs] at s1 s2
      have HS := Lib.hid hs
      have HR := Lib.hid hr
      have HW := Lib.hid (show wS f g k = r by unfold wS vS; rw [hs, hr])
      have s3 : -1099511627776 ≤ s := by omega
      have s4 : s ≤ 1099511627776 := by omega
      have k1 : (k : Int) < 16 := by omega
      clear h0 h1 h2 h3 hx hc hs hr s1 s2
      go_wp2_with (first
        | (go_at_call 26; (with_reducible refine (gather_as _ _ (pS f g) k bx bc s _ hk16 (isRow 32 (pS f g)) (isRow 128 tabS) HP.out HX.out HD.out HS.out).mono ?_); rintro e w' ⟨rfl, rfl⟩)
        | (go_at_call 24; (with_reducible refine (shift17_as s r _ s3 s4 HR.out).mono ?_); rintro e w' ⟨rfl, rfl⟩))
      go_roundw
      case rel => exact ⟨k + 1, by omega, by go_num, ⟨hb.setCell (by dsimp only; omega) _, by simpa using hn4, H0.out.setCell_other (by dsimp only; omega), H1.out.setCell_other (by dsimp only; omega), H2.out.setCell_other (by dsimp only; omega), by rw [← HW.out]; exact H3.out.put hk16⟩, HX.out.setCell_other (by dsimp only; omega), HD.out.setCell_other (by dsimp only; omega)⟩
      case measure => simp [intOf]; omega
    · clear h0 h1 h2 h3 hx hc
      obtain rfl : k = 16 := by omega
      go_wp2_with (first
        | refine wpList_load_row rfl 24 _ rfl (w.heap.size + 1 + 1 + 1) rfl _ _ (0, 0) _ H3.out Try.underlying24 rfl (HI.out _ (rowL_size _ _ _)) ?_
        | refine wpList_store_row rfl 24 _ _ rfl (w.heap.size + 1 + 1) (rowL 16 (wS f g) 16) rfl rfl _ _ H2.out (HI.out _ (rowL_size _ _ _)) (by rw [HZ.out.1, rowL_size]) (rowL_one _ _ _) ?_)
      exact bodyPost_ret (v := .agg (rowL 16 (wS f g) 16)) (results_cell_row rfl _ _ (w.heap.size + 1 + 1) 24 (rowL 16 (wS f g) 16) (0, 0) _ rfl H2.out.setRow Try.underlying24 rfl (HI.out _ (rowL_size _ _ _))) rfl ⟨rfl, below_setRow' hb (by omega) _⟩

set_option maxRecDepth 100000 in
set_option maxHeartbeats 1000000 in
theorem waves_no (T U : Array Value) (f g : Nat → Int) (hT : IsRow 16 f T) (hU : IsRow 16 g U) (h : ¬ (Le 1048576 f ∧ Le 1048576 g)) (w : World) :
    Calls Try.prog 11 #[.agg T, .agg U] w fun e w' => e = .returned (.agg (rowL 16 (fun _ => 0) 16)) ∧ Below w.heap.size w w' := by
  obtain ⟨Z, hZ, hZ0, hz, hi⟩ := zero_block
  have HT := Lib.hid hT
  have HU := Lib.hid hU
  have HZ := Lib.hid hZ
  have HI := Lib.hid hi
  have hs := Wv.start w T U Z
  have HS := Lib.hid hs
  clear hT hU hZ0 hi hZ hs
  rw [← HZ.out.at]
  by_cases hf : Le 1048576 f
  · have hg : ¬ Le 1048576 g := fun hg => h ⟨hf, hg⟩
    have HF := Lib.hid hf
    have HG := Lib.hid hg
    clear h hf hg
    go_enter Try.func11, Try.ntmps11
    go_wp2_with (refine wpList_load_row rfl 24 _ rfl w.heap.size rfl _ _ (0, 0) _ HS.out.2.2.1 Try.underlying24 rfl (HI.out _ HT.out.1) ?_)
    refine (held_yes T f HT.out HF.out _).mono ?_
    rintro e w1 ⟨rfl, hw1⟩
    have H1 := Lib.hid (HS.out.below hw1)
    clear HS hw1
    go_wp2_with (refine wpList_load_wanted (by rfl) 24 _ rfl (w.heap.size + 1) rfl _ _ _ _ H1.out.2.2.2.1 Try.underlying24 (HI.out _ HU.out.1) ?_)
    refine (held_no U g HU.out HG.out _).mono ?_
    rintro e w2 ⟨rfl, hw2⟩
    have H2 := Lib.hid (H1.out.below hw2)
    clear H1 hw2
    go_wp2_with (first
      | refine wpList_load_row rfl 24 _ rfl (w.heap.size + 1 + 1 + 1) rfl _ _ (0, 0) _ H2.out.2.2.2.2.2 Try.underlying24 rfl (HI.out _ HZ.out.1) ?_
      | refine wpList_store_row rfl 24 _ _ rfl (w.heap.size + 1 + 1) Z rfl rfl _ _ H2.out.2.2.2.2.1 (HI.out _ HZ.out.1) rfl HZ.out.2.1 ?_)
    exact bodyPost_ret (v := .agg Z) (results_cell_row rfl _ _ (w.heap.size + 1 + 1) 24 Z (0, 0) _ rfl H2.out.2.2.2.2.1.setRow Try.underlying24 rfl (HI.out _ HZ.out.1)) rfl ⟨rfl, below_setRow' H2.out.1 (by omega) _⟩
  · have HF := Lib.hid hf
    clear h hf
    go_enter Try.func11, Try.ntmps11
    go_wp2_with (refine wpList_load_row rfl 24 _ rfl w.heap.size rfl _ _ (0, 0) _ HS.out.2.2.1 Try.underlying24 rfl (HI.out _ HT.out.1) ?_)
    refine (held_no T f HT.out HF.out _).mono ?_
    rintro e w2 ⟨rfl, hw2⟩
    have H2 := Lib.hid (HS.out.below hw2)
    clear HS hw2
    go_wp2_with (first
      | refine wpList_load_row rfl 24 _ rfl (w.heap.size + 1 + 1 + 1) rfl _ _ (0, 0) _ H2.out.2.2.2.2.2 Try.underlying24 rfl (HI.out _ HZ.out.1) ?_
      | refine wpList_store_row rfl 24 _ _ rfl (w.heap.size + 1 + 1) Z rfl rfl _ _ H2.out.2.2.2.2.1 (HI.out _ HZ.out.1) rfl HZ.out.2.1 ?_)
    exact bodyPost_ret (v := .agg Z) (results_cell_row rfl _ _ (w.heap.size + 1 + 1) 24 Z (0, 0) _ rfl H2.out.2.2.2.2.1.setRow Try.underlying24 rfl (HI.out _ HZ.out.1)) rfl ⟨rfl, below_setRow' H2.out.1 (by omega) _⟩
end Go.Proofs.Ytabenllglldkkaa.Md
