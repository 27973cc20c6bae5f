/- Contract: the document's Lose. Written by g38.py. -/
import Derived.Test.YtfpmajlgbipbmaaLoB
import Derived.Test.YtfpmajlgbipbmaaStW
set_option maxRecDepth 100000
set_option linter.unusedVariables false
namespace Go.Proofs.Ytfpmajlgbipbmaa.Lo
open Go.RowKit Go.Proofs.Ytfpmajlgbipbmaa.Row Go.Proofs.Ytfpmajlgbipbmaa.Md Go.Proofs.Ytfpmajlgbipbmaa.Tl Go.Proofs.Ytfpmajlgbipbmaa.Sta

/-- The state that came in, two results, the waves and the levels so far. -/
def Rl (w : World) (T A B X Y : Array Value) (w' : World) : Prop :=
  Below w.heap.size w w' ∧ w.heap.size + 1 + 1 + 1 + 1 + 1 ≤ w'.heap.size ∧ At w' w.heap.size T 25 ∧ At w' (w.heap.size + 1) A 22 ∧ At w' (w.heap.size + 1 + 1) B 25 ∧
    At w' (w.heap.size + 1 + 1 + 1) X 22 ∧ At w' (w.heap.size + 1 + 1 + 1 + 1) Y 23
theorem Rl.start (w : World) (T A B X Y : Array Value) : Rl w T A B X Y (((((w.alloc (.cells T 25)).alloc (.cells A 22)).alloc (.cells B 25)).alloc (.cells X 22)).alloc (.cells Y 23)) := by
  have a1 := At.new (w.alloc (.cells T 25)) A 22
  have a2 := At.new ((w.alloc (.cells T 25)).alloc (.cells A 22)) B 25
  have a3 := At.new (((w.alloc (.cells T 25)).alloc (.cells A 22)).alloc (.cells B 25)) X 22
  have a4 := At.new ((((w.alloc (.cells T 25)).alloc (.cells A 22)).alloc (.cells B 25)).alloc (.cells X 22)) Y 23
  simp only [World.size_alloc] at a1 a2 a3 a4
  refine ⟨((((((Below.refl _ _).alloc (Nat.le_refl _) _).alloc (by simp) _).alloc (by simp; omega) _).alloc (by simp; omega) _).alloc (by simp; omega) _), by simp, ((((At.new _ _ _).alloc _).alloc _).alloc _).alloc _, ((a1.alloc _).alloc _).alloc _, (a2.alloc _).alloc _, a3.alloc _, a4⟩
section
variable {w w1 w2 : World} {T A B X Y : Array Value}
theorem Rl.next (h : Rl w T A B X Y w1) (hb : Below w1.heap.size w1 w2) : Rl w T A B X Y w2 := by
  obtain ⟨h0, h1, h2, h3, h4, h5, h6⟩ := h
  exact ⟨below_trans h0 hb h0.size, Nat.le_trans h1 hb.size, h2.below hb h2.lt, h3.below hb h3.lt, h4.below hb h4.lt, h5.below hb h5.lt, h6.below hb h6.lt⟩
theorem Rl.setA (h : Rl w T A B X Y w1) (C : Array Value) : Rl w T C B X Y (w1.setRow (w.heap.size + 1) C) := by
  obtain ⟨h0, h1, h2, h3, h4, h5, h6⟩ := h
  exact ⟨below_setRow' h0 (by omega) _, by rw [size_setRow]; exact h1, h2.setRow_other (by omega), h3.setRow, h4.setRow_other (by omega), h5.setRow_other (by omega), h6.setRow_other (by omega)⟩
theorem Rl.setB (h : Rl w T A B X Y w1) (C : Array Value) : Rl w T A C X Y (w1.setRow (w.heap.size + 1 + 1) C) := by
  obtain ⟨h0, h1, h2, h3, h4, h5, h6⟩ := h
  exact ⟨below_setRow' h0 (by omega) _, by rw [size_setRow]; exact h1, h2.setRow_other (by omega), h3.setRow_other (by omega), h4.setRow, h5.setRow_other (by omega), h6.setRow_other (by omega)⟩
theorem Rl.setX (h : Rl w T A B X Y w1) (i : Nat) (v : Value) : Rl w T A B (X.setIfInBounds i v) Y (w1.setCell ⟨w.heap.size + 1 + 1 + 1, i, none⟩ v) := by
  obtain ⟨h0, h1, h2, h3, h4, h5, h6⟩ := h
  exact ⟨h0.setCell (by dsimp only; omega) _, by simpa using h1, h2.setCell_other (by dsimp only; omega), h3.setCell_other (by dsimp only; omega), h4.setCell_other (by dsimp only; omega), h5.setCell, h6.setCell_other (by dsimp only; omega)⟩
theorem Rl.setV (h : Rl w T A B X Y w1) (i : Nat) (v : Value) : Rl w T A B X (Y.setIfInBounds i v) (w1.setCell ⟨w.heap.size + 1 + 1 + 1 + 1, i, none⟩ v) := by
  obtain ⟨h0, h1, h2, h3, h4, h5, h6⟩ := h
  exact ⟨h0.setCell (by dsimp only; omega) _, by simpa using h1, h2.setCell_other (by dsimp only; omega), h3.setCell_other (by dsimp only; omega), h4.setCell_other (by dsimp only; omega), h5.setCell_other (by dsimp only; omega), h6.setCell⟩
end

set_option maxHeartbeats 4000000 in
theorem refLose_lo (T : Array Value) (f : Nat → Int) (hT : IsRow 38 f T) (hr : Rt f) (hl8 : f 37 < 8) (w : World) :
    Calls Try.prog 14 #[.agg T] w (RetNx w (slF f) (nlF f)) := by
  obtain ⟨Zv, hZv, _, hzv, hi4⟩ := zero_4
  obtain ⟨Za, hZa, _, hza, hia⟩ := zero_a
  obtain ⟨Zr, hZr, _, hzr, hir⟩ := zero_r
  have HIA := Lib.hid hia
  have HI4 := Lib.hid hi4
  have HIR := Lib.hid hir
  have HT := Lib.hid hT
  have HRT := Lib.hid hr
  have HLV := Lib.hid hr.2.2.1
  have HLB := Lib.hid hr.2.2.2.2
  have HL8 := Lib.hid hl8
  have HZA := Lib.hid hZa.1
  have HZR := Lib.hid hZr.1
  have HZX := Lib.hid hZa
  have HZV := Lib.hid hZv
  have HM := Lib.hid (Rl.start w T Za Zr Za Zv)
  clear hT hr hl8 hi4 hia hir hZa hZr hZv
  go_enter Try.func14, Try.ntmps14
  go_wp2_with fail
  revert HM
  generalize World.alloc _ _ = W
  intro HM
  go_loopw [6] (fun i w' => ∃ (k : Nat) (X : Array Value), k ≤ 16 ∧ i = .int .i64 k ∧ Hid (Rl w T Za Zr X Zv w') ∧ Hid (IsRow 16 (mix (fun i => (f (21 + i)).tdiv 2) (fun _ => 0) k) X)) (fun i _ => 16 - (intOf i).toNat)
  case atStart => exact ⟨0, Za, Nat.zero_le _, rfl, HM, Lib.hid (HZX.out.ext fun i _ => by rw [mix_0])⟩
  case round =>
    obtain ⟨k, X, hk, rfl, HMX, HX⟩ := hrel
    clear HM
    have c37 := HT.out.cell HMX.out.2.2.1 37 (by omega)
    obtain ⟨l, hl⟩ : ∃ l, f 37 = l := ⟨_, rfl⟩
    have l8 : l < 8 := by rw [← hl]; exact HL8.out
    rw [hl] at c37
    by_cases hk16 : k < 16
    · have k1 : (k : Int) < 16 := by omega
      have k0 : (0 : Int) ≤ (k : Int) := by omega
      have c0 := HT.out.cell HMX.out.2.2.1 (21 + k) (by omega)
      have c2 := HX.out.cell HMX.out.2.2.2.2.2.1 k hk16
      have f2 := HMX.out.2.2.2.2.2.1.frozen k
      obtain ⟨x, hx⟩ : ∃ x, f (21 + k) = x := ⟨_, rfl⟩
      have hab := HRT.out.2.2.2.1 k hk16
      dsimp only at hab
      rw [hx] at c0 hab
      have hw : wrap64 (x.tdiv 2) = x.tdiv 2 := by have := half_in hab; rwa [wr64] at this
      have HG := Lib.hid (show (f (21 + k)).tdiv 2 = x.tdiv 2 by rw [hx])
      clear hx hl hab
      go_wp2_with fail
      go_roundw
      case rel => exact ⟨k + 1, _, by omega, by go_num, Lib.hid (HMX.out.setX k _), Lib.hid ((HX.out.set (k := k) _ hk16).ext fun i _ => by rw [← mix_next _ _ k i, HG.out])⟩
      case measure => simp [intOf]; omega
    · have k1 : ¬ (k : Int) < 16 := by omega
      obtain rfl : k = 16 := by omega
      have HX2 := Lib.hid (HX.out.ext (g := uF f) fun i hi => by
        rw [mix_all _ _ 16 i hi]
        unfold uF hvF
        rw [if_neg (Int.not_le.2 HL8.out), half_in (HRT.out.2.2.2.1 i hi)])
      clear hl HX hk hk16 c37 l8
      go_wp2_with fail
      go_loopw [7] (fun i w' => ∃ (k : Nat) (Y : Array Value), k ≤ 4 ∧ i = .int .i64 k ∧ Hid (Rl w T Za Zr X Y w') ∧ Hid (IsRow 4 (mix (vF f) (fun _ => 0) k) Y)) (fun i _ => 4 - (intOf i).toNat)
      case atStart => exact ⟨0, Zv, Nat.zero_le _, rfl, HMX, Lib.hid (HZV.out.ext fun i _ => by rw [mix_0])⟩
      case round =>
        obtain ⟨k, Y, hk, rfl, HM2, HY⟩ := hrel
        clear HMX
        by_cases hk4 : k < 4
        · have k1 : (k : Int) < 4 := by omega
          have k0 : (0 : Int) ≤ (k : Int) := by omega
          have c0 := HT.out.cell HM2.out.2.2.1 (17 + k) (by omega)
          have c2 := HY.out.cell HM2.out.2.2.2.2.2.2 k hk4
          have f2 := HM2.out.2.2.2.2.2.2.frozen k
          obtain ⟨x, hx⟩ : ∃ x, f (17 + k) = x := ⟨_, rfl⟩
          have hl := HLV.out k hk4
          rw [hx] at c0 hl
          have hvk : vF f k = max (x - 1) 0 := by
            unfold vF
            rw [lw_in (v := fun i => f (17 + i)) (by rw [hx]; exact hl), hx]
          have HVK := Lib.hid hvk
          have hw : wrap64 (x - 1) = x - 1 := IntWalk.wrap64_in _ (by omega)
          have HX := Lib.hid hx
          clear hx hvk
          by_cases hx0 : 0 < x
          · go_wp2_with fail
            go_roundw
            case rel => exact ⟨k + 1, _, by omega, by go_num, Lib.hid (HM2.out.setV k _), Lib.hid ((HY.out.set (k := k) _ hk4).ext fun i _ => by rw [← mix_next _ _ k i, HVK.out]; split <;> omega)⟩
            case measure => simp [intOf]; omega
          · go_wp2_with fail
            go_roundw
            case rel => exact ⟨k + 1, Y, by omega, by go_num, HM2, Lib.hid (HY.out.ext fun i _ => by
              rw [← mix_next _ _ k i, HVK.out]
              by_cases c : i = k
              · rw [if_pos c, c]; unfold mix; rw [if_neg (by omega)]; dsimp only; omega
              · rw [if_neg c])⟩
            case measure => simp [intOf]; omega
        · have k1 : ¬ (k : Int) < 4 := by omega
          obtain rfl : k = 4 := by omega
          have HY2 := Lib.hid (HY.out.ext (g := vF f) fun i hi => mix_all _ _ 4 i hi)
          have c37 := HT.out.cell HM2.out.2.2.1 37 (by omega)
          obtain ⟨l, hl⟩ : ∃ l, f 37 = l := ⟨_, rfl⟩
          have hb := HLB.out
          rw [hl] at c37 hb
          have hw : wrap64 (l + 1) = l + 1 := IntWalk.wrap64_in _ (by omega)
          have HL2 := Lib.hid hl
          clear hl hk hk4 HY
          by_cases hz : l + 1 > 255
          · have HNX := Lib.hid (fun w => refNext_as T Y X f (vF f) (uF f) 255 HT.out HY2.out HX2.out HRT.out (hv_le HRT.out.2.2.2.1) w)
            have HNE := Lib.hid (show nxF f (vF f) (uF f) 255 = nlF f by unfold nlF mrZ; rw [HL2.out, show min (l + 1) 255 = 255 by omega])
            rw [HNE.out] at HNX
            go_wp2_with (first
                | refine wpList_load_all (by rfl) 25 _ rfl w.heap.size rfl HT.out HM2.out.2.2.1 Try.underlying25 rfl HIR.out ?_
                | refine wpList_load_all (by rfl) 23 _ rfl (w.heap.size + 1 + 1 + 1 + 1) rfl HY2.out HM2.out.2.2.2.2.2.2 Try.underlying23 rfl HI4.out ?_
                | refine wpList_load_all (by rfl) 22 _ rfl (w.heap.size + 1 + 1 + 1) rfl HX2.out HM2.out.2.2.2.2.2.1 Try.underlying22 rfl HIA.out ?_)
            refine (HNX.out wr).mono ?_
            rintro e W1 ⟨⟨R, Q, rfl, hR, hQ⟩, hb⟩
            have HR := Lib.hid hR
            have HQ := Lib.hid hQ
            have HF := Lib.hid (HM2.out.next hb)
            clear hb hR hQ HM2 HNX
            go_wp2_with (first
              | (refine wpList_store_row rfl 22 _ _ rfl (w.heap.size + 1) R rfl rfl _ _ HF.out.2.2.2.1 (HIA.out _ HR.out.1) (by rw [HZA.out, HR.out.1]) HR.out.2.1 ?_
                 replace HF := Lib.hid (HF.out.setA R)
                 revert HF
                 generalize World.setRow _ _ _ = W4
                 intro HF)
              | (refine wpList_store_row rfl 25 _ _ rfl (w.heap.size + 1 + 1) Q rfl rfl _ _ HF.out.2.2.2.2.1 (HIR.out _ HQ.out.1) (by rw [HZR.out, HQ.out.1]) HQ.out.2.1 ?_
                 replace HF := Lib.hid (HF.out.setB Q)
                 revert HF
                 generalize World.setRow _ _ _ = W5
                 intro HF))
            exact bodyPost_ret (v := .tuple #[.agg R, .agg Q]) (results_any_two rfl _ _ (w.heap.size + 1) (w.heap.size + 1 + 1) R Q _ _ rfl rfl HF.out.2.2.2.1 HF.out.2.2.2.2.1 Try.underlying22 rfl (HIA.out _ HR.out.1) Try.underlying25 rfl (HIR.out _ HQ.out.1)) rfl ⟨⟨R, Q, rfl, HR.out, HQ.out⟩, HF.out.1⟩
          · have HNX := Lib.hid (fun w => refNext_as T Y X f (vF f) (uF f) (l + 1) HT.out HY2.out HX2.out HRT.out (hv_le HRT.out.2.2.2.1) w)
            have HNE := Lib.hid (show nxF f (vF f) (uF f) (l + 1) = nlF f by unfold nlF mrZ; rw [HL2.out, show min (l + 1) 255 = l + 1 by omega])
            rw [HNE.out] at HNX
            go_wp2_with (first
                | refine wpList_load_all (by rfl) 25 _ rfl w.heap.size rfl HT.out HM2.out.2.2.1 Try.underlying25 rfl HIR.out ?_
                | refine wpList_load_all (by rfl) 23 _ rfl (w.heap.size + 1 + 1 + 1 + 1) rfl HY2.out HM2.out.2.2.2.2.2.2 Try.underlying23 rfl HI4.out ?_
                | refine wpList_load_all (by rfl) 22 _ rfl (w.heap.size + 1 + 1 + 1) rfl HX2.out HM2.out.2.2.2.2.2.1 Try.underlying22 rfl HIA.out ?_)
            refine (HNX.out wr).mono ?_
            rintro e W1 ⟨⟨R, Q, rfl, hR, hQ⟩, hb⟩
            have HR := Lib.hid hR
            have HQ := Lib.hid hQ
            have HF := Lib.hid (HM2.out.next hb)
            clear hb hR hQ HM2 HNX
            go_wp2_with (first
              | (refine wpList_store_row rfl 22 _ _ rfl (w.heap.size + 1) R rfl rfl _ _ HF.out.2.2.2.1 (HIA.out _ HR.out.1) (by rw [HZA.out, HR.out.1]) HR.out.2.1 ?_
                 replace HF := Lib.hid (HF.out.setA R)
                 revert HF
                 generalize World.setRow _ _ _ = W4
                 intro HF)
              | (refine wpList_store_row rfl 25 _ _ rfl (w.heap.size + 1 + 1) Q rfl rfl _ _ HF.out.2.2.2.2.1 (HIR.out _ HQ.out.1) (by rw [HZR.out, HQ.out.1]) HQ.out.2.1 ?_
                 replace HF := Lib.hid (HF.out.setB Q)
                 revert HF
                 generalize World.setRow _ _ _ = W5
                 intro HF))
            exact bodyPost_ret (v := .tuple #[.agg R, .agg Q]) (results_any_two rfl _ _ (w.heap.size + 1) (w.heap.size + 1 + 1) R Q _ _ rfl rfl HF.out.2.2.2.1 HF.out.2.2.2.2.1 Try.underlying22 rfl (HIA.out _ HR.out.1) Try.underlying25 rfl (HIR.out _ HQ.out.1)) rfl ⟨⟨R, Q, rfl, HR.out, HQ.out⟩, HF.out.1⟩

set_option maxHeartbeats 4000000 in
theorem refLose_hi (T : Array Value) (f : Nat → Int) (hT : IsRow 38 f T) (hr : Rt f) (hl8 : ¬ f 37 < 8) (w : World) :
    Calls Try.prog 14 #[.agg T] w (RetNx w (slF f) (nlF f)) := by
  obtain ⟨Zv, hZv, _, hzv, hi4⟩ := zero_4
  obtain ⟨Za, hZa, _, hza, hia⟩ := zero_a
  obtain ⟨Zr, hZr, _, hzr, hir⟩ := zero_r
  have HIA := Lib.hid hia
  have HI4 := Lib.hid hi4
  have HIR := Lib.hid hir
  have HT := Lib.hid hT
  have HRT := Lib.hid hr
  have HLV := Lib.hid hr.2.2.1
  have HLB := Lib.hid hr.2.2.2.2
  have HL8 := Lib.hid hl8
  have HZA := Lib.hid hZa.1
  have HZR := Lib.hid hZr.1
  have HZX := Lib.hid hZa
  have HZV := Lib.hid hZv
  have HM := Lib.hid (Rl.start w T Za Zr Za Zv)
  clear hT hr hl8 hi4 hia hir hZa hZr hZv
  go_enter Try.func14, Try.ntmps14
  go_wp2_with fail
  revert HM
  generalize World.alloc _ _ = W
  intro HM
  go_loopw [6] (fun i w' => i = .int .i64 0 ∧ w' = W) (fun i _ => 0)
  case atStart => exact ⟨rfl, rfl⟩
  case round =>
    obtain ⟨rfl, rfl⟩ := hrel
    have HMX := HM
    clear HM
    have c37 := HT.out.cell HMX.out.2.2.1 37 (by omega)
    obtain ⟨l, hl⟩ : ∃ l, f 37 = l := ⟨_, rfl⟩
    have l8 : ¬ l < 8 := by rw [← hl]; exact Int.not_lt.2 HL8.out
    rw [hl] at c37
    obtain ⟨X, hX⟩ : ∃ X, X = Za := ⟨_, rfl⟩
    have HX2 := Lib.hid (show IsRow 16 (uF f) X by
      rw [hX]
      exact HZX.out.ext fun i hi => by
        unfold uF hvF
        rw [if_pos HL8.out])
    rw [show (Rl w T Za Zr Za Zv) = Rl w T Za Zr X Zv by rw [hX]] at HMX
    clear hl hX
    go_wp2_with fail
    clear c37 l8
    go_loopw [7] (fun i w' => ∃ (k : Nat) (Y : Array Value), k ≤ 4 ∧ i = .int .i64 k ∧ Hid (Rl w T Za Zr X Y w') ∧ Hid (IsRow 4 (mix (vF f) (fun _ => 0) k) Y)) (fun i _ => 4 - (intOf i).toNat)
    case atStart => exact ⟨0, Zv, Nat.zero_le _, rfl, HMX, Lib.hid (HZV.out.ext fun i _ => by rw [mix_0])⟩
    case round =>
      obtain ⟨k, Y, hk, rfl, HM2, HY⟩ := hrel
      clear HMX
      by_cases hk4 : k < 4
      · have k1 : (k : Int) < 4 := by omega
        have k0 : (0 : Int) ≤ (k : Int) := by omega
        have c0 := HT.out.cell HM2.out.2.2.1 (17 + k) (by omega)
        have c2 := HY.out.cell HM2.out.2.2.2.2.2.2 k hk4
        have f2 := HM2.out.2.2.2.2.2.2.frozen k
        obtain ⟨x, hx⟩ : ∃ x, f (17 + k) = x := ⟨_, rfl⟩
        have hl := HLV.out k hk4
        rw [hx] at c0 hl
        have hvk : vF f k = max (x - 1) 0 := by
          unfold vF
          rw [lw_in (v := fun i => f (17 + i)) (by rw [hx]; exact hl), hx]
        have HVK := Lib.hid hvk
        have hw : wrap64 (x - 1) = x - 1 := IntWalk.wrap64_in _ (by omega)
        have HX := Lib.hid hx
        clear hx hvk
        by_cases hx0 : 0 < x
        · go_wp2_with fail
          go_roundw
          case rel => exact ⟨k + 1, _, by omega, by go_num, Lib.hid (HM2.out.setV k _), Lib.hid ((HY.out.set (k := k) _ hk4).ext fun i _ => by rw [← mix_next _ _ k i, HVK.out]; split <;> omega)⟩
          case measure => simp [intOf]; omega
        · go_wp2_with fail
          go_roundw
          case rel => exact ⟨k + 1, Y, by omega, by go_num, HM2, Lib.hid (HY.out.ext fun i _ => by
            rw [← mix_next _ _ k i, HVK.out]
            by_cases c : i = k
            · rw [if_pos c, c]; unfold mix; rw [if_neg (by omega)]; dsimp only; omega
            · rw [if_neg c])⟩
          case measure => simp [intOf]; omega
      · have k1 : ¬ (k : Int) < 4 := by omega
        obtain rfl : k = 4 := by omega
        have HY2 := Lib.hid (HY.out.ext (g := vF f) fun i hi => mix_all _ _ 4 i hi)
        have c37 := HT.out.cell HM2.out.2.2.1 37 (by omega)
        obtain ⟨l, hl⟩ : ∃ l, f 37 = l := ⟨_, rfl⟩
        have hb := HLB.out
        rw [hl] at c37 hb
        have hw : wrap64 (l + 1) = l + 1 := IntWalk.wrap64_in _ (by omega)
        have HL2 := Lib.hid hl
        clear hl hk hk4 HY
        by_cases hz : l + 1 > 255
        · have HNX := Lib.hid (fun w => refNext_as T Y X f (vF f) (uF f) 255 HT.out HY2.out HX2.out HRT.out (hv_le HRT.out.2.2.2.1) w)
          have HNE := Lib.hid (show nxF f (vF f) (uF f) 255 = nlF f by unfold nlF mrZ; rw [HL2.out, show min (l + 1) 255 = 255 by omega])
          rw [HNE.out] at HNX
          go_wp2_with (first
              | refine wpList_load_all (by rfl) 25 _ rfl w.heap.size rfl HT.out HM2.out.2.2.1 Try.underlying25 rfl HIR.out ?_
              | refine wpList_load_all (by rfl) 23 _ rfl (w.heap.size + 1 + 1 + 1 + 1) rfl HY2.out HM2.out.2.2.2.2.2.2 Try.underlying23 rfl HI4.out ?_
              | refine wpList_load_all (by rfl) 22 _ rfl (w.heap.size + 1 + 1 + 1) rfl HX2.out HM2.out.2.2.2.2.2.1 Try.underlying22 rfl HIA.out ?_)
          refine (HNX.out wr).mono ?_
          rintro e W1 ⟨⟨R, Q, rfl, hR, hQ⟩, hb⟩
          have HR := Lib.hid hR
          have HQ := Lib.hid hQ
          have HF := Lib.hid (HM2.out.next hb)
          clear hb hR hQ HM2 HNX
          go_wp2_with (first
            | (refine wpList_store_row rfl 22 _ _ rfl (w.heap.size + 1) R rfl rfl _ _ HF.out.2.2.2.1 (HIA.out _ HR.out.1) (by rw [HZA.out, HR.out.1]) HR.out.2.1 ?_
               replace HF := Lib.hid (HF.out.setA R)
               revert HF
               generalize World.setRow _ _ _ = W4
               intro HF)
            | (refine wpList_store_row rfl 25 _ _ rfl (w.heap.size + 1 + 1) Q rfl rfl _ _ HF.out.2.2.2.2.1 (HIR.out _ HQ.out.1) (by rw [HZR.out, HQ.out.1]) HQ.out.2.1 ?_
               replace HF := Lib.hid (HF.out.setB Q)
               revert HF
               generalize World.setRow _ _ _ = W5
               intro HF))
          exact bodyPost_ret (v := .tuple #[.agg R, .agg Q]) (results_any_two rfl _ _ (w.heap.size + 1) (w.heap.size + 1 + 1) R Q _ _ rfl rfl HF.out.2.2.2.1 HF.out.2.2.2.2.1 Try.underlying22 rfl (HIA.out _ HR.out.1) Try.underlying25 rfl (HIR.out _ HQ.out.1)) rfl ⟨⟨R, Q, rfl, HR.out, HQ.out⟩, HF.out.1⟩
        · have HNX := Lib.hid (fun w => refNext_as T Y X f (vF f) (uF f) (l + 1) HT.out HY2.out HX2.out HRT.out (hv_le HRT.out.2.2.2.1) w)
          have HNE := Lib.hid (show nxF f (vF f) (uF f) (l + 1) = nlF f by unfold nlF mrZ; rw [HL2.out, show min (l + 1) 255 = l + 1 by omega])
          rw [HNE.out] at HNX
          go_wp2_with (first
              | refine wpList_load_all (by rfl) 25 _ rfl w.heap.size rfl HT.out HM2.out.2.2.1 Try.underlying25 rfl HIR.out ?_
              | refine wpList_load_all (by rfl) 23 _ rfl (w.heap.size + 1 + 1 + 1 + 1) rfl HY2.out HM2.out.2.2.2.2.2.2 Try.underlying23 rfl HI4.out ?_
              | refine wpList_load_all (by rfl) 22 _ rfl (w.heap.size + 1 + 1 + 1) rfl HX2.out HM2.out.2.2.2.2.2.1 Try.underlying22 rfl HIA.out ?_)
          refine (HNX.out wr).mono ?_
          rintro e W1 ⟨⟨R, Q, rfl, hR, hQ⟩, hb⟩
          have HR := Lib.hid hR
          have HQ := Lib.hid hQ
          have HF := Lib.hid (HM2.out.next hb)
          clear hb hR hQ HM2 HNX
          go_wp2_with (first
            | (refine wpList_store_row rfl 22 _ _ rfl (w.heap.size + 1) R rfl rfl _ _ HF.out.2.2.2.1 (HIA.out _ HR.out.1) (by rw [HZA.out, HR.out.1]) HR.out.2.1 ?_
               replace HF := Lib.hid (HF.out.setA R)
               revert HF
               generalize World.setRow _ _ _ = W4
               intro HF)
            | (refine wpList_store_row rfl 25 _ _ rfl (w.heap.size + 1 + 1) Q rfl rfl _ _ HF.out.2.2.2.2.1 (HIR.out _ HQ.out.1) (by rw [HZR.out, HQ.out.1]) HQ.out.2.1 ?_
               replace HF := Lib.hid (HF.out.setB Q)
               revert HF
               generalize World.setRow _ _ _ = W5
               intro HF))
          exact bodyPost_ret (v := .tuple #[.agg R, .agg Q]) (results_any_two rfl _ _ (w.heap.size + 1) (w.heap.size + 1 + 1) R Q _ _ rfl rfl HF.out.2.2.2.1 HF.out.2.2.2.2.1 Try.underlying22 rfl (HIA.out _ HR.out.1) Try.underlying25 rfl (HIR.out _ HQ.out.1)) rfl ⟨⟨R, Q, rfl, HR.out, HQ.out⟩, HF.out.1⟩

theorem refLose_as (T : Array Value) (f : Nat → Int) (hT : IsRow 38 f T) (hr : Rt f) (w : World) :
    Calls Try.prog 14 #[.agg T] w (RetNx w (slF f) (nlF f)) := by
  by_cases h : f 37 < 8
  · exact refLose_lo T f hT hr h w
  · exact refLose_hi T f hT hr h w
end Go.Proofs.Ytfpmajlgbipbmaa.Lo
