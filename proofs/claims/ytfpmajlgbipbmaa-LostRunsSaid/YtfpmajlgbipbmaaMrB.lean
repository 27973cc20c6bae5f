/- MdE, MdF, MdH, MdI beside Row: mdct.Back. -/
import Derived.Test.YtfpmajlgbipbmaaMrA
import Derived.Laws.EntriesVeiled
namespace Go.Proofs.Ytfpmajlgbipbmaa.Md
open Go.RowKit Go.Proofs.Ytfpmajlgbipbmaa.Row Go.Proofs.Ytfpmajlgbipbmaa.Ang
set_option linter.unusedVariables false

theorem turn_as (n k i : Nat) (w : World) (hn : n < 32) (hk : k < 16) (h : (2 * n + 17) * (2 * k + 1) % 128 = i) :
    Calls Try.prog 35 #[.int .i64 n, .int .i64 k] w fun e w' => e = .returned (.int .i64 (i : Int)) ∧ w = w' := by
  subst h; exact turn_any n k w hn hk

set_option maxRecDepth 100000 in
set_option maxHeartbeats 1000000 in
theorem gatherB_any (T V : Array Value) (f : Nat → Int) (n bx bc : Nat) (w : World) (hn : n < 32) (hT : IsRow 16 f T) (hV : IsRow 128 tabS V) (hf : Le 1048576 f)
    (h1 : At w bx T 29) (h2 : At w bc V 64) :
    Calls Try.prog 34 #[.int .i64 n, .pointer (some ⟨bx, 0, none⟩), .pointer (some ⟨bc, 0, none⟩)] w fun e w' => e = .returned (.int .i64 (uS f n 16)) ∧ w = w' := by
  obtain ⟨Z, hZ, hZ0, hz, hi⟩ := zero_block
  have HT := Lib.hid hT
  have HV := Lib.hid hV
  have HP := Lib.hid hf
  have H1 := Lib.hid h1
  have H2 := Lib.hid h2
  have HI := Lib.hid hi
  clear hT hV hf h1 h2 hi hZ hZ0 hz
  unfold uS
  go_enter Try.func34, Try.ntmps34
  go_wp2_with (refine wpList_load_row rfl 29 _ rfl bx rfl _ _ (0, 0) _ H1.out Try.underlying29 rfl (HI.out _ HT.out.1) ?_)
  go_loop [5, 9] (fun s i => ∃ k : Nat, k ≤ 16 ∧ i = .int .i64 k ∧ s = .int .i64 (sum k fun k => f k * cS n k)) (fun _ i => 16 - (intOf i).toNat)
  case atStart => exact ⟨0, Nat.zero_le _, rfl, rfl⟩
  case round =>
    obtain ⟨k, hk, rfl, rfl⟩ := hrel
    obtain ⟨s1, s2⟩ := le_ab (sum_ab k (fun k => f k * cS n k) (1048576 * 32768) fun i hi => ab_prod (HP.out i (by omega)) (c_bd n i))
    by_cases hk16 : k < 16
    · have hc := HT.out.2.2 k hk16
      obtain ⟨i, hi⟩ : ∃ i, (2 * n + 17) * (2 * k + 1) % 128 = i := ⟨_, rfl⟩
      have hi1 : i < 128 := by omega
      have cV := HV.out.cell H2.out i hi1
      obtain ⟨x, hx⟩ : ∃ x, f k = x := ⟨_, rfl⟩
      obtain ⟨c, hcc⟩ : ∃ c, tabS i = c := ⟨_, rfl⟩
      obtain ⟨q1, q2⟩ := le_ab (ab_prod (HP.out k hk16) (c_bd n k))
      have hcs : cS n k = c := by unfold cS; rw [hi]; exact hcc
      rw [hx] at hc
      rw [hcc] at cV
      rw [hx, hcs] at q1 q2
      have hr := run_index Try.underlying29 hk16 hc
      have HS := Lib.hid (show sum (k + 1) (fun k => f k * cS n k) = sum k (fun k => f k * cS n k) + x * c by rw [sum, hx, hcs])
      have HK := Lib.hid hi
      generalize sum k (fun k => f k * cS n k) = s at *
      simp only [Int.reduceMul] at q1 q2 s1 s2
      have i1 : (i : Int) < 128 := by omega
      clear hc hx hcc hcs hi
      go_wp2_with (go_at_call 35; (with_reducible refine (turn_as n k i _ hn hk16 HK.out).mono ?_); rintro e w' ⟨rfl, rfl⟩)
      go_round
      case rel => exact ⟨k + 1, by omega, by go_num, by rw [HS.out]⟩
      case measure => simp [intOf]; omega
    · obtain rfl : k = 16 := by omega
      go_wp2
      go_ret
      exact ⟨rfl, rfl⟩

theorem shift16_as (x r : Int) (w : World) (h1 : -1099511627776 ≤ x) (h2 : x ≤ 1099511627776) (h : nr16 x = r) :
    Calls Try.prog 37 #[.int .i64 x, .int .i64 16] w fun e w' => e = .returned (.int .i64 r) ∧ w = w' := by
  subst h; exact shift_16 x w h1 h2

theorem gatherB_as (T V : Array Value) (f : Nat → Int) (n bx bc : Nat) (u : Int) (w : World) (hn : n < 32) (hT : IsRow 16 f T) (hV : IsRow 128 tabS V) (hf : Le 1048576 f)
    (h1 : At w bx T 29) (h2 : At w bc V 64) (hu : uS f n 16 = u) :
    Calls Try.prog 34 #[.int .i64 n, .pointer (some ⟨bx, 0, none⟩), .pointer (some ⟨bc, 0, none⟩)] w fun e w' => e = .returned (.int .i64 u) ∧ w = w' := by
  subst hu; exact gatherB_any T V f n bx bc w hn hT hV hf h1 h2

set_option maxRecDepth 100000 in
set_option maxHeartbeats 1000000 in
theorem at_any (T V W : Array Value) (f : Nat → Int) (n bx bc bg bw : Nat) (w : World) (hn : n < 32) (hT : IsRow 16 f T) (hV : IsRow 128 tabS V) (hW : IsRow 32 winS W) (hf : Le 1048576 f)
    (h1 : At w bx T 29) (h2 : At w bc V 64) (h3 : At w bw W 56) (h4 : w.cell? ⟨bg, 0, none⟩ = some (.func (.func 34) #[] #[.pointer (some ⟨bx, 0, none⟩), .pointer (some ⟨bc, 0, none⟩)])) :
    Calls Try.prog 36 #[.int .i64 n, .pointer (some ⟨bg, 0, none⟩), .pointer (some ⟨bw, 0, none⟩)] w fun e w' => e = .returned (.int .i64 (bS f n)) ∧ ∃ m, w' = w.drewN m := by
  have cw := hW.cell h3 n hn
  obtain ⟨u, hu⟩ : ∃ u, uS f n 16 = u := ⟨_, rfl⟩
  obtain ⟨g, hg⟩ : ∃ g, near u = g := ⟨_, rfl⟩
  obtain ⟨v, hv⟩ : ∃ v, winS n = v := ⟨_, rfl⟩
  obtain ⟨r, hr⟩ : ∃ r, nr16 (g * v) = r := ⟨_, rfl⟩
  obtain ⟨u1, u2⟩ := le_ab (u_bd hf n 16 (by omega))
  obtain ⟨p1, p2⟩ := le_ab (ab_prod (g_bd hf n) (win_bd n))
  have e : bS f n = r := by unfold bS gS; rw [hu, hg, hv, hr]
  rw [show gS f n = g by unfold gS; rw [hu, hg], hv] at p1 p2
  rw [hu] at u1 u2
  rw [hv] at cw
  rw [e]
  have HU := Lib.hid hu
  have HG := Lib.hid hg
  have HR := Lib.hid hr
  have HT := Lib.hid hT
  have HV := Lib.hid hV
  have HF := Lib.hid hf
  have H1 := Lib.hid h1
  have H2 := Lib.hid h2
  have k1 : (n : Int) < 32 := by omega
  simp only [Int.reduceMul] at p1 p2
  have hm : IntKind.i64.wrap (g * v) = g * v := IntWalk.i64_in _ (by omega)
  have w1 : -1099511627776 ≤ u := by omega
  have w2 : u ≤ 1099511627776 := by omega
  have w3 : -1099511627776 ≤ g * v := by omega
  have w4 : g * v ≤ 1099511627776 := by omega
  clear hu hg hv hr hT hV hW hf h1 h2 h3 e u1 u2 p1 p2
  go_enter Try.func36, Try.ntmps36
  go_wp2_with fail
  go_quiet (first
    | (go_at_call 34; with_reducible exact quiet_int (gatherB_as T V f n bx bc u _ hn HT.out HV.out HF.out (H1.out.drewN _) (H2.out.drewN _) HU.out))
    | (go_at_call 37; with_reducible exact quiet_int (shift15_as u g _ w1 w2 HG.out))
    | (go_at_call 37; with_reducible exact quiet_int (shift16_as (g * v) r _ w3 w4 HR.out)))
  go_wp2
  go_ret
  exact ⟨rfl, _, rfl⟩

/-- What holds of the memory all along: the waves, the results' rows, both halves. -/
def Bk (w w' : World) (T Y Z F L : Array Value) : Prop :=
  Below w.heap.size w w' ∧ w.heap.size + 1 + 1 + 1 + 1 + 1 ≤ w'.heap.size ∧ At w' w.heap.size T 29 ∧ At w' (w.heap.size + 1) Y 29 ∧ At w' (w.heap.size + 1 + 1) Z 29 ∧ At w' (w.heap.size + 1 + 1 + 1) F 29 ∧ At w' (w.heap.size + 1 + 1 + 1 + 1) L 29

theorem Bk.start (w : World) (T Z : Array Value) : Bk w (((((w.alloc (.cells T 29)).alloc (.cells Z 29)).alloc (.cells Z 29)).alloc (.cells Z 29)).alloc (.cells Z 29)) T Z Z Z Z := by
  refine ⟨(((((Below.refl _ _).alloc (Nat.le_refl _) _).alloc (by simp) _).alloc (by simp; omega) _).alloc (by simp; omega) _).alloc (by simp; omega) _, by simp, ((((At.new _ _ _).alloc _).alloc _).alloc _).alloc _, ?_, ?_, ?_, ?_⟩
  · have := (((At.new (w.alloc (.cells T 29)) Z 29).alloc (.cells Z 29)).alloc (.cells Z 29)).alloc (.cells Z 29)
    simpa using this
  · have := ((At.new ((w.alloc (.cells T 29)).alloc (.cells Z 29)) Z 29).alloc (.cells Z 29)).alloc (.cells Z 29)
    simpa using this
  · have := (At.new (((w.alloc (.cells T 29)).alloc (.cells Z 29)).alloc (.cells Z 29)) Z 29).alloc (.cells Z 29)
    simpa using this
  · have := At.new ((((w.alloc (.cells T 29)).alloc (.cells Z 29)).alloc (.cells Z 29)).alloc (.cells Z 29)) Z 29
    simpa using this

theorem Bk.below {w w1 w2 : World} {T Y Z F L : Array Value} (h : Bk w w1 T Y Z F L) (hb : Below w1.heap.size w1 w2) : Bk w w2 T Y Z F L := by
  obtain ⟨h0, h1, h2, h3, h4, h5, h6⟩ := h
  have := hb.size
  exact ⟨below_trans h0 hb (by omega), by omega, h2.below hb (by omega), h3.below hb (by omega), h4.below hb (by omega), h5.below hb (by omega), h6.below hb (by omega)⟩

theorem Bk.alloc {w w1 : World} {T Y Z F L : Array Value} (h : Bk w w1 T Y Z F L) (o : Obj) : Bk w (w1.alloc o) T Y Z F L := by
  obtain ⟨h0, h1, h2, h3, h4, h5, h6⟩ := h
  exact ⟨h0.alloc (by omega) _, by simp; omega, h2.alloc _, h3.alloc _, h4.alloc _, h5.alloc _, h6.alloc _⟩

/-- What holds while two rows are handed back. -/
def Ret2 (w : World) (F L : Array Value) (w' : World) : Prop :=
  Below w.heap.size w w' ∧ (∃ A : Array Value, A.size = 16 ∧ At w' (w.heap.size + 1) A 29) ∧ (∃ A : Array Value, A.size = 16 ∧ At w' (w.heap.size + 1 + 1) A 29) ∧ At w' (w.heap.size + 1 + 1 + 1) F 29 ∧ At w' (w.heap.size + 1 + 1 + 1 + 1) L 29

set_option maxRecDepth 100000 in
set_option maxHeartbeats 1000000 in
theorem back_no (T : Array Value) (f : Nat → Int) (hT : IsRow 16 f T) (hf : ¬ Le 1048576 f) (w : World) :
    Calls Try.prog 22 #[.agg T] w fun e w' => e = .returned (.tuple #[.agg (rowL 16 (fun _ => 0) 16), .agg (rowL 16 (fun _ => 0) 16)]) ∧ Below w.heap.size w w' := by
  obtain ⟨Z, hZ, hZ0, hz, hi⟩ := zero_block
  have HT := Lib.hid hT
  have HF := Lib.hid hf
  have HZ := Lib.hid hZ
  have HI := Lib.hid hi
  have HS := Lib.hid (Bk.start w T Z)
  rw [← hZ.at]
  clear hT hZ0 hi hZ hf
  go_enter Try.func22, Try.ntmps22
  go_wp2_with (refine wpList_load_row rfl 29 _ rfl w.heap.size rfl _ _ (0, 0) _ HS.out.2.2.1 Try.underlying29 rfl (HI.out _ HT.out.1) ?_)
  refine (held_no T f HT.out HF.out _).mono ?_
  rintro e w1 ⟨rfl, hw1⟩
  have H1 := Lib.hid (HS.out.below hw1)
  clear HS hw1
  obtain ⟨hb, _, _, h1, h2, h3, h4⟩ := H1.out
  have B1 := Lib.hid hb
  have G1 := Lib.hid h1
  have G2 := Lib.hid h2
  have G3 := Lib.hid h3
  have G4 := Lib.hid h4
  clear hb h1 h2 h3 h4 H1
  go_wp2_with fail
  refine wp_region_noPanic ?_
  refine wp_region_held_drew (S := Ret2 w Z Z) (by kernel_rfl) ?_ (fun hHeld => ?_)
  · exact ⟨B1.out.drew, ⟨_, HZ.out.1, G1.out⟩, ⟨_, HZ.out.1, G2.out⟩, G3.out, G4.out⟩
  refine wpAnyH_take (i := 0) (oi := _) (v := .agg Z) rfl (by kernel_rfl) (by kernel_rfl) (by kernel_rfl) (fun _ _ _ h => h) (yields_load (by rfl) 29 _ rfl (w.heap.size + 1 + 1 + 1) rfl Z _ _ (fun _ h => h.2.2.2.1) Try.underlying29 (HI.out _ HZ.out.1)) hHeld ?_
  show wpAnyH _ _ _ _ _ _ _ (Act.put _ (some 14) _) _
  simp only [Act.put, List.setIfInBounds_toArray, List.set_cons_zero, List.set_cons_succ]
  refine wpAnyH_take (i := 1) (oi := _) (v := .agg Z) rfl (by kernel_rfl) (by kernel_rfl) (by kernel_rfl) (fun _ _ _ h => h) (yields_load (by rfl) 29 _ rfl (w.heap.size + 1 + 1 + 1 + 1) rfl Z _ _ (fun _ h => h.2.2.2.2) Try.underlying29 (HI.out _ HZ.out.1)) hHeld ?_
  show wpAnyH _ _ _ _ _ _ _ (Act.put _ (some 15) _) _
  simp only [Act.put, List.setIfInBounds_toArray, List.set_cons_zero, List.set_cons_succ]
  refine wpAnyH_ready (rs := [2]) (by kernel_rfl) (by simp) ?_
  refine AllReadyH.cons rfl (fun K hK => ?_) AllReadyH.nil
  rw [if_pos (by rfl)]
  obtain ⟨b1, ⟨A1, hA1, a1⟩, ⟨A2, hA2, a2⟩, a3, a4⟩ := hHeld
  refine wp_store_row 29 _ _ rfl (w.heap.size + 1) Z rfl rfl 29 A1 a1 (HI.out _ HZ.out.1) (by rw [hA1, HZ.out.1]) HZ.out.2.1 ?_
  refine hK.out _ _ ⟨below_setRow' b1 (by omega) _, ⟨_, HZ.out.1, a1.setRow⟩, ⟨_, hA2, a2.setRow_other (by omega)⟩, a3.setRow_other (by omega), a4.setRow_other (by omega)⟩ (fun _ => ?_)
  clear hK K
  show wpAnyH _ _ _ _ _ _ _ (Act.put _ none _) _
  simp only [Act.put]
  refine wpAnyH_ready (rs := [3]) (by kernel_rfl) (by simp) ?_
  refine AllReadyH.cons rfl (fun K hK => ?_) AllReadyH.nil
  rw [if_pos (by rfl)]
  refine wp_store_row 29 _ _ rfl (w.heap.size + 1 + 1) Z rfl rfl 29 A2 (a2.setRow_other (by omega)) (HI.out _ HZ.out.1) (by rw [hA2, HZ.out.1]) HZ.out.2.1 ?_
  refine hK.out _ _ ⟨below_setRow' (below_setRow' b1 (by omega) _) (by omega) _, ⟨_, HZ.out.1, a1.setRow.setRow_other (by omega)⟩, ⟨_, HZ.out.1, (a2.setRow_other (by omega)).setRow⟩, (a3.setRow_other (by omega)).setRow_other (by omega), (a4.setRow_other (by omega)).setRow_other (by omega)⟩ (fun _ => ?_)
  clear hK K
  show wpAnyH _ _ _ _ _ _ _ (Act.put _ none _) _
  simp only [Act.put]
  refine wpAnyH_done (by kernel_rfl) ?_ _
  refine NoPanic.normal ?_
  have F1 := Lib.hid (a1.setRow (C := Z) |>.setRow_other (g := w.heap.size + 1 + 1) (C := Z) (by omega))
  have F2 := Lib.hid ((a2.setRow_other (g := w.heap.size + 1) (C := Z) (by omega)).setRow (C := Z))
  have FB := Lib.hid (below_setRow' (below_setRow' b1 (Nat.le_succ _) Z) (show w.heap.size ≤ w.heap.size + 1 + 1 by omega) Z)
  clear a1 a2 a3 a4 b1 hA1 hA2
  go_wp2
  exact bodyPost_ret (v := .tuple #[.agg Z, .agg Z]) (results_rows rfl _ _ (w.heap.size + 1) (w.heap.size + 1 + 1) Z Z _ _ rfl rfl F1.out F2.out Try.underlying29 (HI.out _ HZ.out.1) (HI.out _ HZ.out.1)) rfl ⟨rfl, FB.out⟩

theorem at_as (T V W : Array Value) (f : Nat → Int) (n bx bc bg bw : Nat) (x r : Int) (w : World) (hx : x = n) (hn : n < 32) (hT : IsRow 16 f T) (hV : IsRow 128 tabS V) (hW : IsRow 32 winS W) (hf : Le 1048576 f)
    (h1 : At w bx T 29) (h2 : At w bc V 64) (h3 : At w bw W 56) (h4 : w.cell? ⟨bg, 0, none⟩ = some (.func (.func 34) #[] #[.pointer (some ⟨bx, 0, none⟩), .pointer (some ⟨bc, 0, none⟩)])) (hr : bS f n = r) :
    Calls Try.prog 36 #[.int .i64 x, .pointer (some ⟨bg, 0, none⟩), .pointer (some ⟨bw, 0, none⟩)] w fun e w' => e = .returned (.int .i64 r) ∧ ∃ m, w' = w.drewN m := by
  subst hx hr; exact at_any T V W f n bx bc bg bw w hn hT hV hW hf h1 h2 h3 h4

/-- What stands all along while both halves are filled. -/
def BkS (w : World) (T Z : Array Value) (bc bg bw : Nat) (w' : World) : Prop :=
  Below w.heap.size w w' ∧ At w' w.heap.size T 29 ∧ At w' (w.heap.size + 1) Z 29 ∧ At w' (w.heap.size + 1 + 1) Z 29 ∧ At w' bw (rowL 32 winS 32) 56 ∧ At w' bc (rowL 128 tabS 128) 64 ∧
  w'.cell? ⟨bg, 0, none⟩ = some (.func (.func 34) #[] #[.pointer (some ⟨w.heap.size, 0, none⟩), .pointer (some ⟨bc, 0, none⟩)])

theorem BkS.drew {w w' : World} {T Z : Array Value} {bc bg bw : Nat} (h : BkS w T Z bc bg bw w') : BkS w T Z bc bg bw w'.drew := ⟨h.1.drew, h.2⟩

theorem BkS.drewN {w w' : World} {T Z : Array Value} {bc bg bw : Nat} (h : BkS w T Z bc bg bw w') (n : Nat) : BkS w T Z bc bg bw (w'.drewN n) := ⟨below_drewN h.1 n, h.2⟩

theorem BkS.set {w w' : World} {T Z : Array Value} {bc bg bw b i : Nat} {v : Value} (h : BkS w T Z bc bg bw w') (h1 : b = w.heap.size + 1 + 1 + 1 ∨ b = w.heap.size + 1 + 1 + 1 + 1) (h2 : w.heap.size + 1 + 1 + 1 + 1 + 1 ≤ bc) (h3 : w.heap.size + 1 + 1 + 1 + 1 + 1 ≤ bg) (h4 : w.heap.size + 1 + 1 + 1 + 1 + 1 ≤ bw) :
    BkS w T Z bc bg bw (w'.setCell ⟨b, i, none⟩ v) :=
  ⟨h.1.setCell (by dsimp only; omega) _, h.2.1.setCell_other (by dsimp only; omega), h.2.2.1.setCell_other (by dsimp only; omega), h.2.2.2.1.setCell_other (by dsimp only; omega), h.2.2.2.2.1.setCell_other (by dsimp only; omega), h.2.2.2.2.2.1.setCell_other (by dsimp only; omega),
    (cell_set_other _ _ _ _ (by dsimp only; omega)).trans h.2.2.2.2.2.2⟩

theorem at_S {T Z : Array Value} {f : Nat → Int} {n bc bg bw : Nat} {x r : Int} {w w' : World} (hS : BkS w T Z bc bg bw w') (hx : x = n) (hn : n < 32) (hT : IsRow 16 f T) (hf : Le 1048576 f) (hr : bS f n = r) :
    Calls Try.prog 36 #[.int .i64 x, .pointer (some ⟨bg, 0, none⟩), .pointer (some ⟨bw, 0, none⟩)] w' fun e w2 => e = .returned (.int .i64 r) ∧ ∃ m, w2 = w'.drewN m :=
  at_as T _ _ f n w.heap.size bc bg bw x r w' hx hn hT (isRow 128 tabS) (isRow 32 winS) hf hS.2.1 hS.2.2.2.2.2.1 hS.2.2.2.2.1 hS.2.2.2.2.2.2 hr

def BkInv (w : World) (T Z : Array Value) (bc bg bw : Nat) (p q : Nat → Int) (k : Nat) (w' : World) : Prop :=
  BkS w T Z bc bg bw w' ∧ At w' (w.heap.size + 1 + 1 + 1) (rowL 16 p k) 29 ∧ At w' (w.heap.size + 1 + 1 + 1 + 1) (rowL 16 q k) 29

theorem bk_start (w w3 : World) (T Z Y C : Array Value) (p q : Nat → Int) (h : Bk w w3 T Z Z Z Z) (hp : rowL 16 p 0 = Z) (hq : rowL 16 q 0 = Z) :
    BkInv w T Z (w3.heap.size + 1) (w3.heap.size + 1 + 1) w3.heap.size p q 0
      (((((w3.alloc (.cells Y 56)).alloc (.cells C 64)).setRow w3.heap.size (rowL 32 winS 32)).setRow (w3.heap.size + 1) (rowL 128 tabS 128)).alloc
        (.cells #[.func (.func 34) #[] #[.pointer (some ⟨w.heap.size, 0, none⟩), .pointer (some ⟨w3.heap.size + 1, 0, none⟩)]] 66)) := by
  obtain ⟨h0, h1, h2, h3, h4, h5, h6⟩ := h
  have a1 : At ((w3.alloc (.cells Y 56)).alloc (.cells C 64)) w3.heap.size Y 56 := heap_alloc2_old _ _ _
  have a2 : At ((w3.alloc (.cells Y 56)).alloc (.cells C 64)) (w3.heap.size + 1) C 64 := heap_alloc2_new _ _ _
  have hk : ∀ {b : Nat} {A : Array Value} {t : TypeId}, At w3 b A t → At (((((w3.alloc (.cells Y 56)).alloc (.cells C 64)).setRow w3.heap.size (rowL 32 winS 32)).setRow (w3.heap.size + 1) (rowL 128 tabS 128)).alloc
        (.cells #[.func (.func 34) #[] #[.pointer (some ⟨w.heap.size, 0, none⟩), .pointer (some ⟨w3.heap.size + 1, 0, none⟩)]] 66)) b A t := fun hA => by
    have := hA.lt
    exact ((((hA.alloc _).alloc _).setRow_other (by omega)).setRow_other (by omega)).alloc _
  refine ⟨⟨?_, hk h2, hk h3, hk h4, ?_, ?_, ?_⟩, by rw [hp]; exact hk h5, by rw [hq]; exact hk h6⟩
  · exact (below_setRow' (below_setRow' ((h0.alloc (by omega) _).alloc (by simp; omega) _) (by omega) _) (by omega) _).alloc (by rw [size_setRow, size_setRow]; simp; omega) _
  · exact (a1.setRow.setRow_other (by omega)).alloc _
  · exact ((a2.setRow_other (by omega)).setRow).alloc _
  · have := At.new ((((w3.alloc (.cells Y 56)).alloc (.cells C 64)).setRow w3.heap.size (rowL 32 winS 32)).setRow (w3.heap.size + 1) (rowL 128 tabS 128))
      #[.func (.func 34) #[] #[.pointer (some ⟨w.heap.size, 0, none⟩), .pointer (some ⟨w3.heap.size + 1, 0, none⟩)]] 66
    rw [size_setRow, size_setRow, World.size_alloc, World.size_alloc] at this
    exact cell_of_row _ _ 0 _ _ _ this

set_option maxRecDepth 100000 in
set_option maxHeartbeats 1000000 in
theorem back_yes (T : Array Value) (f : Nat → Int) (hT : IsRow 16 f T) (hf : Le 1048576 f) (w : World) :
    Calls Try.prog 22 #[.agg T] w fun e w' => e = .returned (.tuple #[.agg (rowL 16 (bS f) 16), .agg (rowL 16 (fun i => bS f (16 + i)) 16)]) ∧ Below w.heap.size w w' := by
  obtain ⟨Z, hZ, hZ0, hz, hi⟩ := zero_block
  obtain ⟨Y, hY, hY0, hy, hj⟩ := zero_32
  obtain ⟨C, hC, hC0, hc, hl⟩ := zero_128
  have HT := Lib.hid hT
  have HF := Lib.hid hf
  have HZ := Lib.hid hZ
  have HY := Lib.hid hY
  have HC := Lib.hid hC
  have ZE := Lib.hid hZ0
  have HI := Lib.hid hi
  have HJ := Lib.hid hj
  have HL := Lib.hid hl
  have HS := Lib.hid (Bk.start w T Z)
  clear hT hZ0 hi hf hZ hY hC hY0 hC0 hj hl
  go_enter Try.func22, Try.ntmps22
  go_wp2_with (refine wpList_load_row rfl 29 _ rfl w.heap.size rfl _ _ (0, 0) _ HS.out.2.2.1 Try.underlying29 rfl (HI.out _ HT.out.1) ?_)
  refine (held_yes T f HT.out HF.out _).mono ?_
  rintro e w1 ⟨rfl, hw1⟩
  have H1 := Lib.hid (HS.out.below hw1)
  clear HS hw1
  go_wp2_with fail
  refine (win_any _).mono ?_
  rintro e w2 ⟨rfl, hw2⟩
  have H2 := Lib.hid (H1.out.below hw2)
  clear H1 hw2
  go_wp2_with fail
  refine (tab_any _).mono ?_
  rintro e w3 ⟨rfl, hw3⟩
  have H3 := Lib.hid (H2.out.below hw3)
  clear H2 hw3
  have hmf : ∀ (fn : Fn) (first cap : Array Value) (w : World), (Instr.makeFunc fn first cap).run Try.prog w = .ok (.func fn first cap) w := fun _ _ _ _ => rfl
  go_wp2_with (first
    | refine wpList_store_row rfl 56 _ _ rfl w3.heap.size (rowL 32 winS 32) rfl rfl 56 Y (heap_alloc2_old w3 (.cells Y 56) (.cells C 64)) (HJ.out _ (rowL_size _ _ _)) (by rw [rowL_size, HY.out.1]) (rowL_one _ _ _) ?_
    | (refine wpList_store_row rfl 64 _ _ rfl (w3.heap.size + 1) (rowL 128 tabS 128) rfl rfl 64 C ((Go.setRow_other _ _ _ _ (by omega)).trans (heap_alloc2_new w3 (.cells Y 56) (.cells C 64))) (HL.out _ (rowL_size _ _ _)) (by rw [rowL_size, HC.out.1]) (rowL_one _ _ _) ?_
       obtain ⟨w4, hw4⟩ : ∃ w4, (((w3.alloc (.cells Y 56)).alloc (.cells C 64)).setRow w3.heap.size (rowL 32 winS 32)).setRow (w3.heap.size + 1) (rowL 128 tabS 128) = w4 := ⟨_, rfl⟩
       rw [hw4]
       have HW := Lib.hid hw4
       clear hw4))
  have hstart := bk_start w w3 T Z Y C (bS f) (fun i => bS f (16 + i)) H3.out (ZE.out _) (ZE.out _)
  have hsz : w4.heap.size = w3.heap.size + 1 + 1 := by rw [← HW.out, size_setRow, size_setRow]; simp
  have hge := H3.out.2.1
  rw [HW.out] at hstart
  rw [hsz]
  clear H3 HW hsz
  revert hstart hge
  generalize w4.alloc _ = W
  have gbg : w3.heap.size + 1 ≤ w3.heap.size + 1 + 1 := Nat.le_succ _
  have gbc : w3.heap.size ≤ w3.heap.size + 1 := Nat.le_succ _
  revert gbg gbc
  generalize w3.heap.size + 1 + 1 = bg
  generalize w3.heap.size + 1 = bc
  generalize w3.heap.size = bw
  intro gbg gbc hstart hge
  go_loopw [20] (fun i w' => ∃ k : Nat, k ≤ 16 ∧ i = .int .i64 k ∧ BkInv w T Z bc bg bw (bS f) (fun i => bS f (16 + i)) k w') (fun i _ => 16 - (intOf i).toNat)
  case atStart => exact ⟨0, Nat.zero_le _, rfl, hstart⟩
  case round =>
    obtain ⟨k, hk, rfl, hinv⟩ := hrel
    clear hstart
    obtain ⟨hs, h3, h4⟩ := hinv
    have HS := Lib.hid hs
    have H3 := Lib.hid h3
    have H4 := Lib.hid h4
    by_cases hk16 : k < 16
    · have c3 := rowL_cell h3 k hk16
      have f3 := h3.frozen k
      have c4 := rowL_cell h4 k hk16
      have f4 := h4.frozen k
      obtain ⟨r, hr⟩ : ∃ r, bS f k = r := ⟨_, rfl⟩
      obtain ⟨s, hs'⟩ : ∃ s, bS f (16 + k) = s := ⟨_, rfl⟩
      have HR := Lib.hid hr
      have HQ := Lib.hid hs'
      have k1 : (k : Int) < 16 := by omega
      have k0 : (0 : Int) ≤ (k : Int) := by omega
      have hn : IntKind.i64.wrap ((k : Int) + 16) = (k : Int) + 16 := IntWalk.i64_in _ (by omega)
      have hkk : (k : Int) + 16 = ((16 + k : Nat) : Int) := by omega
      have HK := Lib.hid hkk
      clear h3 h4 hs hr hs' hkk
      go_wp2_with fail
      go_region_held3 (BkS w T Z bc bg bw) (first | assumption | exact HS.out | exact HS.out.drew | (exact BkS.drewN (by assumption) _) | (exact BkS.drew (by assumption)) | (exact BkS.set (by assumption) (by omega) (by omega) (by omega) (by omega)))
        (first
          | (go_at_call 36; (with_reducible refine (at_S (w := w) (Z := Z) (bc := bc) (x := (k : Int)) (n := k) (r := r) (by assumption) rfl (by omega) HT.out HF.out HR.out).mono ?_); rintro e w' ⟨rfl, m, rfl⟩)
          | (go_at_call 36; (with_reducible refine (at_S (w := w) (Z := Z) (bc := bc) (x := (k : Int) + 16) (n := 16 + k) (r := s) (by assumption) HK.out (by omega) HT.out HF.out HQ.out).mono ?_); rintro e w' ⟨rfl, m', rfl⟩))
      clear hn
      go_wp2
      go_roundw
      case rel =>
        refine ⟨k + 1, by omega, by go_num, by first | assumption | exact (((HS.out.drew.drewN m).drewN m').set (.inl rfl) (by omega) (by omega) (by omega)).set (.inr rfl) (by omega) (by omega) (by omega), ?_, ?_⟩
        · rw [← HR.out]
          exact At.setCell_other (At.put H3.out hk16) (by dsimp only; omega)
        · rw [← HQ.out]
          exact At.put (f := fun i => bS f (16 + i)) (At.setCell_other H4.out (by dsimp only; omega)) hk16
      case measure => simp [intOf]; omega
    · clear h3 h4 hs
      obtain rfl : k = 16 := by omega
      have B1 := Lib.hid HS.out.1
      have G1 := Lib.hid HS.out.2.2.1
      have G2 := Lib.hid HS.out.2.2.2.1
      obtain ⟨F, hF⟩ : ∃ F, rowL 16 (bS f) 16 = F := ⟨_, rfl⟩
      obtain ⟨L, hL⟩ : ∃ L, rowL 16 (fun i => bS f (16 + i)) 16 = L := ⟨_, rfl⟩
      have SF := Lib.hid (show F.size = 16 by rw [← hF, rowL_size])
      have SL := Lib.hid (show L.size = 16 by rw [← hL, rowL_size])
      have OF := Lib.hid (show F.all (·.oneCell') = true by rw [← hF]; exact rowL_one _ _ _)
      have OL := Lib.hid (show L.all (·.oneCell') = true by rw [← hL]; exact rowL_one _ _ _)
      have G3 := Lib.hid (show At _ _ F _ by rw [← hF]; exact H3.out)
      have G4 := Lib.hid (show At _ _ L _ by rw [← hL]; exact H4.out)
      have EF := Lib.hid hF
      have EL := Lib.hid hL
      clear HS H3 H4 hF hL
      go_wp2_with fail
      refine wp_region_noPanic ?_
      refine wp_region_held_drew (S := Ret2 w F L) (by kernel_rfl) ?_ (fun hHeld => ?_)
      · exact ⟨B1.out.drew, ⟨_, HZ.out.1, G1.out⟩, ⟨_, HZ.out.1, G2.out⟩, G3.out, G4.out⟩
      refine wpAnyH_take (i := 0) (oi := _) (v := .agg F) rfl (by kernel_rfl) (by kernel_rfl) (by kernel_rfl) (fun _ _ _ h => h) (yields_load (by rfl) 29 _ rfl (w.heap.size + 1 + 1 + 1) rfl F _ _ (fun _ h => h.2.2.2.1) Try.underlying29 (HI.out _ SF.out)) hHeld ?_
      show wpAnyH _ _ _ _ _ _ _ (Act.put _ (some 35) _) _
      simp only [Act.put, List.setIfInBounds_toArray, List.set_cons_zero, List.set_cons_succ]
      refine wpAnyH_take (i := 1) (oi := _) (v := .agg L) rfl (by kernel_rfl) (by kernel_rfl) (by kernel_rfl) (fun _ _ _ h => h) (yields_load (by rfl) 29 _ rfl (w.heap.size + 1 + 1 + 1 + 1) rfl L _ _ (fun _ h => h.2.2.2.2) Try.underlying29 (HI.out _ SL.out)) hHeld ?_
      show wpAnyH _ _ _ _ _ _ _ (Act.put _ (some 36) _) _
      simp only [Act.put, List.setIfInBounds_toArray, List.set_cons_zero, List.set_cons_succ]
      refine wpAnyH_ready (rs := [2]) (by kernel_rfl) (by simp) ?_
      refine AllReadyH.cons rfl (fun K hK => ?_) AllReadyH.nil
      rw [if_pos (by rfl)]
      obtain ⟨b1, ⟨A1, hA1, a1⟩, ⟨A2, hA2, a2⟩, a3, a4⟩ := hHeld
      refine wp_store_row 29 _ _ rfl (w.heap.size + 1) F rfl rfl 29 A1 a1 (HI.out _ SF.out) (by rw [hA1, SF.out]) OF.out ?_
      refine hK.out _ _ ⟨below_setRow' b1 (by omega) _, ⟨_, SF.out, a1.setRow⟩, ⟨_, hA2, a2.setRow_other (by omega)⟩, a3.setRow_other (by omega), a4.setRow_other (by omega)⟩ (fun _ => ?_)
      clear hK K
      show wpAnyH _ _ _ _ _ _ _ (Act.put _ none _) _
      simp only [Act.put]
      refine wpAnyH_ready (rs := [3]) (by kernel_rfl) (by simp) ?_
      refine AllReadyH.cons rfl (fun K hK => ?_) AllReadyH.nil
      rw [if_pos (by rfl)]
      refine wp_store_row 29 _ _ rfl (w.heap.size + 1 + 1) L rfl rfl 29 A2 (a2.setRow_other (by omega)) (HI.out _ SL.out) (by rw [hA2, SL.out]) OL.out ?_
      refine hK.out _ _ ⟨below_setRow' (below_setRow' b1 (by omega) _) (by omega) _, ⟨_, SF.out, a1.setRow.setRow_other (by omega)⟩, ⟨_, SL.out, (a2.setRow_other (by omega)).setRow⟩, (a3.setRow_other (by omega)).setRow_other (by omega), (a4.setRow_other (by omega)).setRow_other (by omega)⟩ (fun _ => ?_)
      clear hK K
      show wpAnyH _ _ _ _ _ _ _ (Act.put _ none _) _
      simp only [Act.put]
      refine wpAnyH_done (by kernel_rfl) ?_ _
      refine NoPanic.normal ?_
      have F1 := Lib.hid (a1.setRow (C := F) |>.setRow_other (g := w.heap.size + 1 + 1) (C := L) (by omega))
      have F2 := Lib.hid ((a2.setRow_other (g := w.heap.size + 1) (C := F) (by omega)).setRow (C := L))
      have FB := Lib.hid (below_setRow' (below_setRow' b1 (Nat.le_succ _) F) (show w.heap.size ≤ w.heap.size + 1 + 1 by omega) L)
      clear a1 a2 a3 a4 b1 hA1 hA2
      go_wp2
      exact bodyPost_ret (v := .tuple #[.agg F, .agg L]) (results_rows rfl _ _ (w.heap.size + 1) (w.heap.size + 1 + 1) F L _ _ rfl rfl F1.out F2.out Try.underlying29 (HI.out _ SF.out) (HI.out _ SL.out)) rfl ⟨by rw [EF.out, EL.out], FB.out⟩
end Go.Proofs.Ytfpmajlgbipbmaa.Md
