/- Contracts: the document's Next. -/
import Derived.Test.YtfpmajlgbipbmaaStS
import Derived.Test.YtfpmajlgbipbmaaMrRef4
import Derived.Test.YtfpmajlgbipbmaaTsE
set_option maxRecDepth 100000
set_option linter.unusedVariables false
namespace Go.Proofs.Ytfpmajlgbipbmaa.Sta
open Go.RowKit Go.Proofs.Ytfpmajlgbipbmaa.Row Go.Proofs.Ytfpmajlgbipbmaa.Md Go.Proofs.Ytfpmajlgbipbmaa.Tl

/-- What stands while the document's Next works: what came in, and the results. -/
def Rn (w : World) (T V U A B : Array Value) (w' : World) : Prop :=
  Below w.heap.size w w' ∧ w.heap.size + 1 + 1 + 1 + 1 + 1 ≤ w'.heap.size ∧ At w' w.heap.size T 25 ∧ At w' (w.heap.size + 1) V 23 ∧ At w' (w.heap.size + 1 + 1) U 22 ∧
    At w' (w.heap.size + 1 + 1 + 1) A 22 ∧ At w' (w.heap.size + 1 + 1 + 1 + 1) B 25
theorem Rn.start (w : World) (T V U A B : Array Value) : Rn w T V U A B (((((w.alloc (.cells T 25)).alloc (.cells V 23)).alloc (.cells U 22)).alloc (.cells A 22)).alloc (.cells B 25)) := by
  have a1 := At.new (w.alloc (.cells T 25)) V 23
  have a2 := At.new ((w.alloc (.cells T 25)).alloc (.cells V 23)) U 22
  have a3 := At.new (((w.alloc (.cells T 25)).alloc (.cells V 23)).alloc (.cells U 22)) A 22
  have a4 := At.new ((((w.alloc (.cells T 25)).alloc (.cells V 23)).alloc (.cells U 22)).alloc (.cells A 22)) B 25
  simp only [World.size_alloc] at a1 a2 a3 a4
  exact ⟨((((((Below.refl _ _).alloc (Nat.le_refl _) _).alloc (by simp) _).alloc (by simp; omega) _).alloc (by simp; omega) _).alloc (by simp; omega) _), by simp, ((((At.new _ _ _).alloc _).alloc _).alloc _).alloc _, ((a1.alloc _).alloc _).alloc _, (a2.alloc _).alloc _, a3.alloc _, a4⟩
section
variable {w w1 w2 : World} {T V U A B : Array Value}
theorem Rn.next (h : Rn w T V U A B w1) (hb : Below w1.heap.size w1 w2) : Rn w T V U A B w2 := by
  obtain ⟨h0, hs, h1, h2, h3, h4, h5⟩ := h
  exact ⟨below_trans h0 hb h0.size, Nat.le_trans hs hb.size, h1.below hb h1.lt, h2.below hb h2.lt, h3.below hb h3.lt, h4.below hb h4.lt, h5.below hb h5.lt⟩
theorem Rn.alloc (h : Rn w T V U A B w1) (o : Obj) : Rn w T V U A B (w1.alloc o) := h.next ((Below.refl _ _).alloc (Nat.le_refl _) o)
theorem Rn.drew (h : Rn w T V U A B w1) : Rn w T V U A B w1.drew := ⟨h.1.drew, h.2⟩
theorem Rn.setCell (h : Rn w T V U A B w1) {b : Nat} (hb : w.heap.size + 1 + 1 + 1 + 1 < b) (i : Nat) (v : Value) : Rn w T V U A B (w1.setCell ⟨b, i, none⟩ v) := by
  obtain ⟨h0, hs, h1, h2, h3, h4, h5⟩ := h
  exact ⟨h0.setCell (by dsimp only; omega) _, by simpa using hs, h1.setCell_other (by dsimp only; omega), h2.setCell_other (by dsimp only; omega), h3.setCell_other (by dsimp only; omega), h4.setCell_other (by dsimp only; omega), h5.setCell_other (by dsimp only; omega)⟩
theorem Rn.setRow (h : Rn w T V U A B w1) {b : Nat} (hb : w.heap.size + 1 + 1 + 1 + 1 < b) (C : Array Value) : Rn w T V U A B (w1.setRow b C) := by
  obtain ⟨h0, hs, h1, h2, h3, h4, h5⟩ := h
  exact ⟨below_setRow' h0 (by omega) _, by simpa using hs, h1.setRow_other (by omega), h2.setRow_other (by omega), h3.setRow_other (by omega), h4.setRow_other (by omega), h5.setRow_other (by omega)⟩
theorem Rn.setA (h : Rn w T V U A B w1) (C : Array Value) : Rn w T V U C B (w1.setRow (w.heap.size + 1 + 1 + 1) C) := by
  obtain ⟨h0, hs, h1, h2, h3, h4, h5⟩ := h
  exact ⟨below_setRow' h0 (by omega) _, by simpa using hs, h1.setRow_other (by omega), h2.setRow_other (by omega), h3.setRow_other (by omega), h4.setRow, h5.setRow_other (by omega)⟩
theorem Rn.setB (h : Rn w T V U A B w1) (C : Array Value) : Rn w T V U A C (w1.setRow (w.heap.size + 1 + 1 + 1 + 1) C) := by
  obtain ⟨h0, hs, h1, h2, h3, h4, h5⟩ := h
  exact ⟨below_setRow' h0 (by omega) _, by simpa using hs, h1.setRow_other (by omega), h2.setRow_other (by omega), h3.setRow_other (by omega), h4.setRow_other (by omega), h5.setRow⟩
end

/-- What stands while the results are laid. -/
def Rz (w : World) (T V U D E : Array Value) (d : Nat) (w' : World) : Prop := ∃ A B : Array Value, A.size = 16 ∧ B.size = 38 ∧ Rn w T V U A B w' ∧ At w' d D 22 ∧ At w' (d + 1) E 25 ∧ w.heap.size + 1 + 1 + 1 + 1 < d
theorem Rz.atD {w w' : World} {T V U D E : Array Value} {d : Nat} (h : Rz w T V U D E d w') : At w' d D 22 := by
  obtain ⟨_, _, _, _, _, h, _⟩ := h; exact h
theorem Rz.atE {w w' : World} {T V U D E : Array Value} {d : Nat} (h : Rz w T V U D E d w') : At w' (d + 1) E 25 := by
  obtain ⟨_, _, _, _, _, _, h, _⟩ := h; exact h

/-- What is cut so far. -/
def cuF (g : Nat → Int) (k j : Nat) : Int := if j < k then ct16 (g j) else g j
theorem cu_set {g : Nat → Int} {k : Nat} {p : Int} {P : Array Value} (hP : IsRow 16 (cuF g k) P) (hk : k < 16) (hp : ct16 (g k) = p) : IsRow 16 (cuF g (k + 1)) (P.setIfInBounds k (.int .i64 p)) :=
  (hP.set p hk).ext fun j _ => by
    unfold cuF
    by_cases c : j = k
    · rw [if_pos c, if_pos (by omega), c, hp]
    · rw [if_neg c]
      by_cases c2 : j < k
      · rw [if_pos c2, if_pos (by omega)]
      · rw [if_neg c2, if_neg (by omega)]
theorem zero_32 : ∃ Z, IsRow 32 (fun _ => 0) Z ∧ (∀ f, rowL 32 f 0 = Z) ∧ (∀ w, (zeroValue 56).run Try.prog w = .ok (.agg Z) w) ∧ ∀ A : Array Value, A.size = 32 → (Try.prog.info? 56).map (·.size) = some A.size := zero_row (by kernel_rfl)

set_option maxHeartbeats 2000000 in
theorem refNext_as (T V U : Array Value) (f v u : Nat → Int) (z : Int) (hT : IsRow 38 f T) (hV : IsRow 4 v V) (hU : IsRow 16 u U) (hr : Rt f) (hu : Le 1048576 u) (w : World) :
    Calls Try.prog 20 #[.agg T, .agg V, .agg U, .int .i64 z] w (RetNx w (soF f u) (nxF f v u z)) := by
  obtain ⟨Zr, hZr, _, hzr, hir⟩ := zero_r
  obtain ⟨Za, hZa, hZa0, hza, hia⟩ := zero_a
  obtain ⟨_, _, _, _, hi4⟩ := zero_4
  obtain ⟨Zl, hZl, _, hzl, hil⟩ := zero_32
  obtain ⟨L, hL⟩ : ∃ F, rowL 32 (bS u) 32 = F := ⟨_, rfl⟩
  have hL' : IsRow 32 (bS u) L := by rw [← hL]; exact isRow _ _
  have hCB := fun w => refBack_any U u hU hu w
  rw [hL] at hCB
  obtain ⟨O, hO⟩ : ∃ O, rowL 16 (ovS f (bS u)) 16 = O := ⟨_, rfl⟩
  have hO' : IsRow 16 (ovS f (bS u)) O := by rw [← hO]; exact isRow _ _
  obtain ⟨R, hR⟩ : ∃ O, rowL 16 (lyF f u) 16 = O := ⟨_, rfl⟩
  have hR' : IsRow 16 (lyF f u) R := by rw [← hR]; exact isRow _ _
  have hCL := fun w => refLay_any (f 16) O (ovS f (bS u)) w hO'
  change ∀ w, Calls _ _ _ w fun e w' => e = .returned (.tuple #[.agg (rowL 16 (lyF f u) 16), .int .i64 (lyF f u 15)]) ∧ _ at hCL
  obtain ⟨q, hq⟩ : ∃ q, lyF f u 15 = q := ⟨_, rfl⟩
  rw [hR, hq] at hCL
  obtain ⟨x16, hx16⟩ : ∃ q, f 16 = q := ⟨_, rfl⟩
  rw [hx16] at hCL
  obtain ⟨P, hP, bP⟩ := built_4 isSt_r q hV hU z
  have HCB := Lib.hid hCB
  have HCL := Lib.hid hCL
  have HL := Lib.hid hL'
  have HR := Lib.hid hR'
  have HOe := Lib.hid hO
  have HO := Lib.hid hO'
  have Hq := Lib.hid hq
  have H16 := Lib.hid hx16
  have HIR := Lib.hid hir
  have HIA := Lib.hid hia
  have HI4 := Lib.hid hi4
  have HIL := Lib.hid hil
  have HT := Lib.hid hT
  have HV := Lib.hid hV
  have HU := Lib.hid hU
  have HP := Lib.hid hP
  have HBP := Lib.hid bP
  have HZR := Lib.hid hZr.1
  have HZA := Lib.hid hZa.1
  have HZL := Lib.hid hZl.1
  have HZ0 := Lib.hid hZa0
  have HN := Lib.hid (Rn.start w T V U Za Zr)
  have HR1 := Lib.hid hr
  clear hT hV hU hir hia hi4 hil hP bP hZr hZa hZa0 hZl hr hu hL hL' hCB hO hO' hR hR' hCL hq hx16
  go_enter Try.func20, Try.ntmps20
  go_wp2_with (first
    | refine wpList_load_all (by rfl) 22 _ rfl (w.heap.size + 1 + 1) rfl HU.out HN.out.2.2.2.2.1 Try.underlying22 rfl HIA.out ?_)
  revert HN
  generalize World.alloc _ _ = W
  intro HN
  refine (HCB.out W).mono ?_
  rintro e W1 ⟨rfl, hb⟩
  have HW := Lib.hid (HN.out.next hb)
  clear hb HCB HN W
  go_wp2_with (first
    | (refine wpList_store_row rfl 56 _ _ rfl W1.heap.size L rfl rfl _ _ (heap_alloc_new _ _) (HIL.out _ HL.out.1) (by rw [HZL.out, HL.out.1]) HL.out.2.1 ?_
       rw [World.setRow_alloc_new]))
  have hc := HW.out.2.1
  have HLA := Lib.hid ((At.new W1 L 56).alloc (.cells Za 22))
  have hOA := At.new (W1.alloc (.cells L 56)) Za 22
  simp only [World.size_alloc] at hOA
  rw [← HZ0.out (ovS f (bS u))] at hOA
  have HOA := Lib.hid hOA
  have HW2 := Lib.hid ((HW.out.alloc (.cells L 56)).alloc (.cells Za 22))
  clear hOA HW
  rw [← HZ0.out (ovS f (bS u))]
  rw [← HZ0.out (ovS f (bS u))] at HLA HW2
  revert HLA HOA HW2
  generalize World.alloc _ _ = W
  intro HLA HOA HW2
  obtain ⟨c, hcc⟩ : ∃ c, W1.heap.size = c := ⟨_, rfl⟩
  rw [hcc] at HLA HOA hc ⊢
  clear hcc W1
  rw [HZ0.out (ovS f (bS u))] at HW2
  go_loopw [12] (fun i wx => ∃ k : Nat, k ≤ 16 ∧ i = .int .i64 k ∧ Hid (Rn w T V U Za Zr wx) ∧ Hid (At wx c L 56) ∧ Hid (At wx (c + 1) (rowL 16 (ovS f (bS u)) k) 22)) (fun i _ => 16 - (intOf i).toNat)
  case atStart => exact ⟨0, Nat.zero_le _, rfl, HW2, HLA, HOA⟩
  case round =>
    obtain ⟨k, hk, rfl, HW, HLk, HOk⟩ := hrel
    clear HW2 HLA HOA
    by_cases hk16 : k < 16
    · have c0 := HT.out.cell HW.out.2.2.1 k (by omega)
      have c1 := HL.out.cell HLk.out k (by omega)
      have c3 := rowL_cell HOk.out k hk16
      have f3 := HOk.out.frozen k
      obtain ⟨p1, p2⟩ := HR1.out.1 k hk16
      obtain ⟨q1, q2⟩ := ct_bd (bS u k)
      obtain ⟨x, hx⟩ : ∃ x, f k = x := ⟨_, rfl⟩
      obtain ⟨y, hy⟩ : ∃ y, bS u k = y := ⟨_, rfl⟩
      rw [hx] at c0 p1 p2
      rw [hy] at c1 q1 q2
      obtain ⟨y', hy'⟩ : ∃ y', ct y = y' := ⟨_, rfl⟩
      rw [hy'] at q1 q2
      obtain ⟨r, hr⟩ : ∃ r, ct (x + y') = r := ⟨_, rfl⟩
      have HXk := Lib.hid (show ovS f (bS u) k = r by
        unfold ovS
        rw [hx, hy, hy', ← hr]
        congr 1
        congr 1
        unfold ct
        omega)
      have HY := Lib.hid hy'
      have HRr := Lib.hid hr
      have k1 : (k : Int) < 16 := by omega
      have k2 : (k : Int) < 32 := by omega
      have k0 : (0 : Int) ≤ (k : Int) := by omega
      have hs : IntKind.i64.wrap (x + y') = x + y' := IntWalk.i64_in _ (by omega)
      clear hx hy hy' hr
      go_wp2_with fail
      go_region_held3 (fun w' => w'.cell? ⟨w.heap.size, k, none⟩ = some (.int .i64 x) ∧ w'.cell? ⟨c, k, none⟩ = some (.int .i64 y)) (first | assumption | exact ⟨c0, c1⟩ | exact cells2 ⟨c0, c1⟩ (by dsimp only; omega) (by dsimp only; omega))
        (first
          | (go_at_call 28; (with_reducible refine (refCut_as y y' _ HY.out).mono ?_); rintro e w' ⟨rfl, rfl⟩)
          | (go_at_call 28; (with_reducible refine (refCut_as (x + y') r _ HRr.out).mono ?_); rintro e w' ⟨rfl, rfl⟩))
      have HW2 := Lib.hid (HW.out.setCell (b := c + 1) (by omega) k (.int .i64 r)).drew
      have HL2 := Lib.hid (At.setCell_other (a := ⟨c + 1, k, none⟩) (v := .int .i64 r) HLk.out (by dsimp only; omega))
      have HO2 := Lib.hid (show At _ (c + 1) (rowL 16 (ovS f (bS u)) (k + 1)) 22 by have := HOk.out.put hk16; rw [HXk.out] at this; exact this)
      go_wp2
      go_roundw
      case rel => exact ⟨k + 1, by omega, by go_num, HW2, HL2, HO2⟩
      case measure => simp [intOf]; omega
    · have e16 : k = 16 := by omega
      have hn16 : ¬ (k : Int) < 16 := by omega
      rw [e16, HOe.out] at HOk
      clear e16 hk hk16
      have c16 := HT.out.cell HW.out.2.2.1 16 (by omega)
      rw [H16.out] at c16
      go_wp2_with (first
        | refine wpList_load_all (by rfl) 22 _ rfl (c + 1) rfl HO.out HOk.out Try.underlying22 rfl HIA.out ?_)
      clear hn16 c16
      refine (HCL.out wr).mono ?_
      rintro e W1 ⟨rfl, hb⟩
      have HW1 := Lib.hid (HW.out.next hb)
      have HL1 := Lib.hid (HLk.out.below hb HLk.out.lt)
      have hcd := (HOk.out.below hb HOk.out.lt).lt
      clear hb HCL HW HLk HOk
      have HD1 := Lib.hid (At.new W1 R 22)
      have HW2 := Lib.hid (HW1.out.alloc (.cells R 22))
      have HL2 := Lib.hid (HL1.out.alloc (.cells R 22))
      clear HW1 HL1
      go_wp2_with (first
        | (refine wpList_store_row rfl 22 _ _ rfl W1.heap.size R rfl rfl _ _ (heap_alloc_new _ _) (HIA.out _ HR.out.1) (by rw [HZA.out, HR.out.1]) HR.out.2.1 ?_
           rw [World.setRow_alloc_new]
           revert HD1 HW2 HL2
           generalize hw5 : World.alloc W1 _ = W2
           have hsz := Lib.hid (show W2.heap.size = W1.heap.size + 1 by rw [← hw5]; simp)
           intro HD1 HW2 HL2
           obtain ⟨d, hd⟩ : ∃ d, W1.heap.size = d := ⟨_, rfl⟩
           rw [hd] at hcd HD1 hsz ⊢
           clear hd hw5 W1)
        | refine wpList_load_all (by rfl) 23 _ rfl (w.heap.size + 1) rfl HV.out HW2.out.2.2.2.1 Try.underlying23 rfl HI4.out ?_
        | refine wpList_load_all (by rfl) 22 _ rfl (w.heap.size + 1 + 1) rfl HU.out HW2.out.2.2.2.2.1 Try.underlying22 rfl HIA.out ?_
        | refine wpList_build_parts (by rfl) 25 [(1, _), (2, _), (3, _), (4, _)] rfl _ rfl HBP.out ?_
        | (refine wpList_store_row rfl 25 _ _ rfl W2.heap.size P rfl rfl _ _ (heap_alloc_new _ _) (HIR.out _ HP.out.1) (by rw [HZR.out, HP.out.1]) HP.out.2.1 ?_
           rw [World.setRow_alloc_new]
           have HE3 := Lib.hid (At.new W2 P 25)
           have HD3 := Lib.hid (HD1.out.alloc (.cells P 25))
           have HW3 := Lib.hid (HW2.out.alloc (.cells P 25))
           have HL3 := Lib.hid (HL2.out.alloc (.cells P 25))
           clear HD1 HW2 HL2
           rw [hsz.out] at HE3 ⊢
           revert HE3 HD3 HW3 HL3
           generalize World.alloc W2 _ = W3
           intro HE3 HD3 HW3 HL3
           clear hsz W2))
      have HR0 := Lib.hid (show IsRow 16 (cuF (lyF f u) 0) R from HR.out.ext fun j _ => by unfold cuF; rw [if_neg (by omega)])
      have HP0 := Lib.hid (show IsRow 38 (mmF u (stF (fun _ => 0) q v u z) 0) P from HP.out.ext fun j _ => (mm_0 u _ j).symm)
      clear HR HP HBP HO HOe
      go_loopw [16] (fun i wx => ∃ (k : Nat) (D E : Array Value), k ≤ 16 ∧ i = .int .i64 k ∧ Hid (Rn w T V U Za Zr wx) ∧ Hid (At wx c L 56) ∧ Hid (At wx d D 22) ∧ Hid (At wx (d + 1) E 25) ∧ Hid (IsRow 16 (cuF (lyF f u) k) D) ∧ Hid (IsRow 38 (mmF u (stF (fun _ => 0) q v u z) k) E)) (fun i _ => 16 - (intOf i).toNat)
      case atStart => exact ⟨0, R, P, Nat.zero_le _, rfl, HW3, HL3, HD3, HE3, HR0, HP0⟩
      case round =>
        obtain ⟨k, D, E, hk, rfl, HW, HLk, HDk, HEk, HDr, HEr⟩ := hrel
        clear HW3 HL3 HD3 HE3 HR0 HP0
        by_cases hk16 : k < 16
        · have c0 := HDr.out.cell HDk.out k hk16
          rw [show cuF (lyF f u) k k = lyF f u k by unfold cuF; rw [if_neg (by omega)]] at c0
          have f0 := HDk.out.frozen k
          obtain ⟨x, hx⟩ : ∃ x, lyF f u k = x := ⟨_, rfl⟩
          obtain ⟨p, hp⟩ : ∃ p, ct16 x = p := ⟨_, rfl⟩
          have HD2 := Lib.hid (cu_set HDr.out hk16 (show ct16 (lyF f u k) = p by rw [hx]; exact hp))
          rw [hx] at c0
          have HPp := Lib.hid hp
          have c1 := HL.out.cell (At.setCell_other (a := ⟨d, k, none⟩) (v := .int .i64 p) HLk.out (by dsimp only; omega)) (16 + k) (by omega)
          obtain ⟨y, hy⟩ : ∃ y, bS u (16 + k) = y := ⟨_, rfl⟩
          obtain ⟨r, hr⟩ : ∃ r, ct y = r := ⟨_, rfl⟩
          have HE2 := Lib.hid (mm_set HEr.out (show k < 38 by omega) (show ct (bS u (16 + k)) = r by rw [hy]; exact hr))
          rw [hy] at c1
          have HRr := Lib.hid hr
          have hE2 := At.setCell_other (a := ⟨d, k, none⟩) (v := .int .i64 p) HEk.out (by dsimp only; omega)
          have c3 := HEr.out.cell hE2 k (by omega)
          have f3 := hE2.frozen k
          have HEn := Lib.hid (hE2.setCell (i := k) (v := .int .i64 r))
          have HWn := Lib.hid ((HW.out.setCell (b := d) (by omega) k (.int .i64 p)).setCell (b := d + 1) (by omega) k (.int .i64 r))
          have HLn := Lib.hid (At.setCell_other (a := ⟨d + 1, k, none⟩) (v := .int .i64 r) (At.setCell_other (a := ⟨d, k, none⟩) (v := .int .i64 p) HLk.out (by dsimp only; omega)) (by dsimp only; omega))
          have HDn := Lib.hid (At.setCell_other (a := ⟨d + 1, k, none⟩) (v := .int .i64 r) (HDk.out.setCell (i := k) (v := .int .i64 p)) (by dsimp only; omega))
          have k1 : (k : Int) < 16 := by omega
          clear hx hp hy hr hE2 HW HLk HDk HEk HDr HEr
          go_wp2_with fail
          refine (Tl.refCut16 x p _ HPp.out).mono ?_
          rintro e w1 ⟨rfl, rfl⟩
          go_wp2_with fail
          refine (refCut_as y r _ HRr.out).mono ?_
          rintro e w1 ⟨rfl, rfl⟩
          go_wp2_with fail
          go_roundw
          case rel => exact ⟨k + 1, _, _, by omega, by go_num, HWn, HLn, HDn, HEn, HD2, HE2⟩
          case measure => simp [intOf]; omega
        · have e16 : k = 16 := by omega
          have hn16 : ¬ (k : Int) < 16 := by omega
          rw [e16] at HDr HEr
          clear e16 hk hk16 HL HIL
          have HDf := Lib.hid (HDr.out.ext (g := soF f u) fun j hj => by unfold cuF; rw [if_pos hj]; rfl)
          have HEf := Lib.hid (HEr.out.ext (g := nxF f v u z) fun j _ => by
            unfold mmF nxF
            by_cases c : j < 16
            · rw [if_pos c, stF_mem _ _ _ _ _ c]
            · rw [if_neg c]; unfold stF; rw [if_neg c, if_neg c, Hq.out])
          clear HDr HEr HLk
          go_wp2_with fail
          have hd5 : w.heap.size + 1 + 1 + 1 + 1 < d := by omega
          refine mv_startS (Rz w T V U D E d) (show Rz w T V U D E d wr.drew from ⟨Za, Zr, HZA.out, HZR.out, HW.out.drew, HDk.out, HEk.out, hd5⟩) fun hS => ?_
          refine mv_yield (i := 0) (d := 65) (.agg D) rfl rfl (by kernel_rfl) (by kernel_rfl) (by kernel_rfl) hS (y_load_part (l := 0) (by rfl) rfl rfl HDf.out (fun w' h => h.atD) HDf.out (by omega) (fun i _ => by rw [Nat.zero_add]) Try.underlying22 rfl (HIA.out _ HDf.out.1)) ?_
          simp only [Act.put, List.setIfInBounds_toArray, List.set_cons_zero, List.set_cons_succ]
          refine mv_yield (i := 1) (d := 66) (.agg E) rfl rfl (by kernel_rfl) (by kernel_rfl) (by kernel_rfl) hS (y_load_part (l := 0) (by rfl) rfl rfl HEf.out (fun w' h => h.atE) HEf.out (by omega) (fun i _ => by rw [Nat.zero_add]) Try.underlying25 rfl (HIR.out _ HEf.out.1)) ?_
          simp only [Act.put, List.setIfInBounds_toArray, List.set_cons_zero, List.set_cons_succ]
          have n1 := HW.out.drew
          refine mv_ready [2] (by kernel_rfl) (by simp) (ar_store (i := 2) (w.heap.size + 1 + 1 + 1) D Za rfl rfl (by rfl) rfl rfl rfl n1.2.2.2.2.2.1 (by rw [HZA.out, HDf.out.1]) HDf.out.2.1 (HIA.out _ HDf.out.1) (show Rz w T V U D E d _ from ⟨D, Zr, HDf.out.1, HZR.out, n1.setA D, (HDk.out : At wr.drew d D _).setRow_other (by omega), (HEk.out : At wr.drew (d + 1) E _).setRow_other (by omega), hd5⟩) (fun _ => ?_) AllReadyH.nil)
          have n2 := n1.setA D
          have r2 := (HDk.out : At wr.drew d D _).setRow_other (C := D) (show d ≠ w.heap.size + 1 + 1 + 1 by omega)
          have s2 := (HEk.out : At wr.drew (d + 1) E _).setRow_other (C := D) (show d + 1 ≠ w.heap.size + 1 + 1 + 1 by omega)
          refine mv_ready [3] (by kernel_rfl) (by simp) (ar_store (i := 3) (w.heap.size + 1 + 1 + 1 + 1) E Zr rfl rfl (by rfl) rfl rfl rfl n2.2.2.2.2.2.2 (by rw [HZR.out, HEf.out.1]) HEf.out.2.1 (HIR.out _ HEf.out.1) (show Rz w T V U D E d _ from ⟨D, E, HDf.out.1, HEf.out.1, n2.setB E, r2.setRow_other (by omega), s2.setRow_other (by omega), hd5⟩) (fun _ => ?_) AllReadyH.nil)
          have HFN := Lib.hid (n2.setB E)
          refine mv_done (by kernel_rfl) ?_
          go_wp2_with fail
          exact bodyPost_ret (v := .tuple #[.agg D, .agg E]) (results_any_two rfl _ _ (w.heap.size + 1 + 1 + 1) (w.heap.size + 1 + 1 + 1 + 1) D E _ _ rfl rfl HFN.out.2.2.2.2.2.1 HFN.out.2.2.2.2.2.2 Try.underlying22 rfl (HIA.out _ HDf.out.1) Try.underlying25 rfl (HIR.out _ HEf.out.1)) rfl ⟨⟨D, E, rfl, HDf.out, HEf.out⟩, HFN.out.1⟩
end Go.Proofs.Ytfpmajlgbipbmaa.Sta
