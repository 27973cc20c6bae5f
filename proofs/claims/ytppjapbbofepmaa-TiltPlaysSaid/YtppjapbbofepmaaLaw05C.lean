/- The statements' walks of layer 5, third part: TiltParts. -/
import Derived.Test.YtppjapbbofepmaaLaw05B
namespace Go.Proofs.Ytppjapbbofepmaa.Tl
open Go.RowKit Go.Proofs.Ytppjapbbofepmaa.Row

/-- The samples from k on. -/
def tlS (f : Nat → Int) (k i : Nat) : Int := if i < 16 - k then f (i + k) else 0
def frS (last : Int) (f : Nat → Int) (k : Nat) : Int := if k = 0 then last else f (k - 1)
theorem fr_ah (last : Int) (f : Nat → Int) (k : Nat) : ct22 (frS last f k) = ahS last f k := by
  cases k with
  | zero => rfl
  | succ k => rfl

/-- What holds while the two are held against each other. -/
def TwoInv (w w' : World) (Y V : Array Value) (y v : Nat) : Prop := Below w.heap.size w w' ∧ At w' y Y 24 ∧ At w' v V 24
/-- What holds while the tail is filled. -/
def TailInv (w w' : World) (T Y : Array Value) (f : Nat → Int) (y t k i : Nat) : Prop :=
  Below w.heap.size w w' ∧ w.heap.size < y ∧ y < t ∧ At w' w.heap.size T 22 ∧ At w' y Y 24 ∧ At w' t (rowL 16 (fun j => f (j + k)) (i - k)) 22

set_option maxRecDepth 100000 in
set_option maxHeartbeats 1000000 in
theorem tiltParts_walk (last : Int) (T : Array Value) (f : Nat → Int) (hT : IsRow 16 f T) (c : Int) (c1 : 0 ≤ c) (c2 : c ≤ 255) (w : World) :
    Calls Try.prog 4 #[.int .i64 last, .agg T, .int .u8 c] w fun e w' => e = .returned (.bool true) ∧ Below w.heap.size w w' := by
  obtain ⟨Z, hZ, hZ0, hz, hi⟩ := zero_block
  obtain ⟨O, hO, hO0, ho, hj⟩ := zero_16
  have HT := Lib.hid hT
  have HZ := Lib.hid hZ
  have HO := Lib.hid hO
  have OE := Lib.hid hO0
  have HI := Lib.hid hi
  have HJ := Lib.hid hj
  obtain ⟨k, hk⟩ : ∃ k : Nat, c % 16 = k := ⟨(c % 16).toNat, by omega⟩
  have hk16 : k < 16 := by omega
  have HK := Lib.hid hk
  obtain ⟨Y, hY⟩ : ∃ A, rowL 16 (liS last f) 16 = A := ⟨_, rfl⟩
  have RY := Lib.hid (show IsRow 16 (liS last f) Y by rw [← hY]; exact isRow _ _)
  have CL := Lib.hid (fun w => lift_any last T f w hT)
  rw [hY] at CL
  have A0 := Lib.hid (At.new w T 22)
  have B0 := Lib.hid ((Below.refl w.heap.size w).alloc (Nat.le_refl _) (.cells T 22))
  clear hT hZ hi hj hZ0 hO hO0 hY hk
  go_enter Try.func4, Try.ntmps4
  go_wp2_with fail
  refine (awake_yes _).mono ?_
  rintro e w1 ⟨rfl, hw1⟩
  have A1 := Lib.hid (A0.out.below hw1 A0.out.lt)
  have B1 := Lib.hid (below_trans B0.out hw1 B0.out.size)
  clear A0 B0 hw1
  go_wp2_with (refine wpList_load_wanted (by rfl) 22 _ rfl w.heap.size rfl _ _ _ _ A1.out Try.underlying22 (HJ.out _ HT.out.1) ?_)
  rw [HK.out]
  refine (CL.out _).mono ?_
  rintro e w2 ⟨rfl, hw2⟩
  have A2 := Lib.hid (A1.out.below hw2 A1.out.lt)
  have B2 := Lib.hid (below_trans B1.out hw2 B1.out.size)
  clear A1 B1 hw2
  go_wp2_with (first
    | (refine wpList_store_row rfl 24 _ _ rfl w2.heap.size Y rfl rfl _ _ (heap_alloc_new _ _) (HI.out _ RY.out.1) (by rw [RY.out.1, HZ.out.1]) RY.out.2.1 ?_
       rw [World.setRow_alloc_new]))
  have hstart : TailInv w ((w2.alloc (.cells Y 24)).alloc (.cells O 22)) T Y f w2.heap.size (w2.heap.size + 1) k k := by
    refine ⟨(B2.out.alloc B2.out.size _).alloc (Nat.le_trans B2.out.size (by simp)) _, A2.out.lt, by omega, (A2.out.alloc _).alloc _, (At.new _ _ _).alloc _, ?_⟩
    rw [Nat.sub_self, OE.out]
    have := At.new (w2.alloc (.cells Y 24)) O 22
    simpa using this
  revert hstart
  generalize (w2.alloc (.cells Y 24)).alloc (.cells O 22) = W
  generalize w2.heap.size = y
  generalize y + 1 = t
  intro hstart
  clear A2 B2
  go_loopw [11] (fun i w' => ∃ j : Nat, k ≤ j ∧ j ≤ 16 ∧ i = .int .i64 j ∧ TailInv w w' T Y f y t k j) (fun i _ => 16 - (intOf i).toNat)
  case atStart => exact ⟨k, Nat.le_refl _, by omega, rfl, hstart⟩
  case round =>
    obtain ⟨j, hkj, hj, rfl, hb, l1, l2, h0, h1, h2⟩ := hrel
    clear hstart
    have H0 := Lib.hid h0
    have H1 := Lib.hid h1
    have H2 := Lib.hid h2
    by_cases hj16 : j < 16
    · have c0 := HT.out.cell h0 j hj16
      have f2 := h2.frozen (j - k)
      have c3 := rowL_cell h2 (j - k) (by omega)
      obtain ⟨x, hx⟩ : ∃ x, f j = x := ⟨_, rfl⟩
      have HX := Lib.hid hx
      rw [hx] at c0
      obtain ⟨d, hd⟩ : ∃ d : Nat, j - k = d := ⟨_, rfl⟩
      have HD := Lib.hid hd
      rw [hd] at f2 c3
      have e1 : (j : Int) - (k : Int) = (d : Int) := by omega
      have k1 : (j : Int) < 16 := by omega
      have k2 : (d : Int) < 16 := by omega
      have hdl : d < 16 := by omega
      have hx2 := Lib.hid (show f (d + k) = x by rw [← HX.out]; congr 1; omega)
      clear h0 h1 h2 hx hd
      go_wp2
      go_roundw
      case rel => exact ⟨j + 1, by omega, by omega, by go_num, hb.setCell (by dsimp only; omega) _, l1, l2, H0.out.setCell_other (by dsimp only; omega), H1.out.setCell_other (by dsimp only; omega), by
        have := H2.out
        rw [HD.out] at this
        rw [show j + 1 - k = d + 1 by have := HD.out; omega, ← hx2.out]
        exact this.put hdl⟩
      case measure => simp [intOf]; omega
    · obtain rfl : j = 16 := by omega
      have TL : IsRow 16 (tlS f k) (rowL 16 (fun j => f (j + k)) (16 - k)) := ⟨rowL_size _ _ _, rowL_one _ _ _, fun i hi => by rw [rowL_get _ _ _ _ hi]; rfl⟩
      clear H2
      revert h2 TL
      generalize rowL 16 (fun j => f (j + k)) (16 - k) = U
      intro h2 TL
      have H2 := Lib.hid h2
      have HU := Lib.hid TL
      obtain ⟨m, hm⟩ : ∃ m, frS last f k = m := ⟨_, rfl⟩
      have HM := Lib.hid hm
      obtain ⟨V, hV⟩ : ∃ A, rowL 16 (liS m (tlS f k)) 16 = A := ⟨_, rfl⟩
      have RV := Lib.hid (show IsRow 16 (liS m (tlS f k)) V by rw [← hV]; exact isRow _ _)
      have CV := Lib.hid (fun w => lift_any m U (tlS f k) w TL)
      rw [hV] at CV
      have PP := Lib.hid (fun i (hi : i + k < 16) => parts (last := last) (from' := m) (f := f) (t := tlS f k) (k := k) (by rw [← hm, fr_ah]) (fun i hi => by unfold tlS; rw [if_pos (by omega)]) i hi)
      clear h0 h1 h2 TL hm hV
      by_cases hk0 : 0 < k
      · have c0 := HT.out.cell H0.out (k - 1) (by omega)
        have e0 := HM.out
        unfold frS at e0
        rw [if_neg (by omega)] at e0
        rw [e0] at c0
        have e7 : (k : Int) - 1 = ((k - 1 : Nat) : Int) := by omega
        have k3 : ((k - 1 : Nat) : Int) < 16 := by omega
        clear e0
        go_wp2_with (refine wpList_load_wanted (by rfl) 22 _ rfl t rfl _ _ _ _ H2.out Try.underlying22 (HJ.out _ HU.out.1) ?_)
        refine (CV.out _).mono ?_
        rintro e w3 ⟨rfl, hw3⟩
        have B3 := Lib.hid (below_trans hb hw3 hb.size)
        have G1 := Lib.hid (H1.out.below hw3 H1.out.lt)
        clear hw3
        go_wp2_with (refine wpList_store_row rfl 24 _ _ rfl w3.heap.size V rfl rfl _ _ (heap_alloc_new _ _) (HI.out _ RV.out.1) (by rw [RV.out.1, HZ.out.1]) RV.out.2.1 ?_)
        rw [World.setRow_alloc_new]
        have hstart : TwoInv w (w3.alloc (.cells V 24)) Y V y w3.heap.size := ⟨B3.out.alloc B3.out.size _, G1.out.alloc _, At.new _ _ _⟩
        revert hstart
        generalize w3.alloc (.cells V 24) = W3
        generalize w3.heap.size = v
        intro hstart
        clear B3 G1 hb H0 H1 H2
        go_loopw [15] (fun i w' => ∃ j : Nat, k ≤ j ∧ j ≤ 16 ∧ i = .int .i64 j ∧ TwoInv w w' Y V y v) (fun i _ => 16 - (intOf i).toNat)
        case atStart => exact ⟨k, Nat.le_refl _, by omega, rfl, hstart⟩
        case round =>
          obtain ⟨j, hkj, hj, rfl, hb, h1, h3⟩ := hrel
          clear hstart
          have H1 := Lib.hid h1
          have H3 := Lib.hid h3
          by_cases hj16 : j < 16
          · obtain ⟨d, hd⟩ : ∃ d : Nat, j - k = d := ⟨_, rfl⟩
            have c1 := RY.out.cell h1 j hj16
            have c3 := RV.out.cell h3 d (by omega)
            have e3 := PP.out d (by omega)
            rw [e3, show d + k = j by omega] at c3
            obtain ⟨x, hx⟩ : ∃ x, liS last f j = x := ⟨_, rfl⟩
            rw [hx] at c1 c3
            have e1 : (j : Int) - (k : Int) = (d : Int) := by omega
            have k1 : (j : Int) < 16 := by omega
            have k2 : (d : Int) < 16 := by omega
            have k4 : (0 : Int) ≤ (j : Int) := by omega
            have k5 : (0 : Int) ≤ (d : Int) := by omega
            clear h1 h3 hx hd e3
            go_wp2_with fail
            go_quiet (fail)
            go_wp2
            go_roundw
            case rel => exact ⟨j + 1, by omega, by omega, by go_num, below_drewN hb _, H1.out, H3.out⟩
            case measure => simp [intOf]; omega
          · obtain rfl : j = 16 := by omega
            clear h1 h3
            go_wp2
            go_ret
            exact ⟨rfl, hb⟩
      · have e0 := HM.out
        unfold frS at e0
        rw [if_pos (by omega)] at e0
        subst e0
        go_wp2_with (refine wpList_load_wanted (by rfl) 22 _ rfl t rfl _ _ _ _ H2.out Try.underlying22 (HJ.out _ HU.out.1) ?_)
        refine (CV.out _).mono ?_
        rintro e w3 ⟨rfl, hw3⟩
        have B3 := Lib.hid (below_trans hb hw3 hb.size)
        have G1 := Lib.hid (H1.out.below hw3 H1.out.lt)
        clear hw3
        go_wp2_with (refine wpList_store_row rfl 24 _ _ rfl w3.heap.size V rfl rfl _ _ (heap_alloc_new _ _) (HI.out _ RV.out.1) (by rw [RV.out.1, HZ.out.1]) RV.out.2.1 ?_)
        rw [World.setRow_alloc_new]
        have hstart : TwoInv w (w3.alloc (.cells V 24)) Y V y w3.heap.size := ⟨B3.out.alloc B3.out.size _, G1.out.alloc _, At.new _ _ _⟩
        revert hstart
        generalize w3.alloc (.cells V 24) = W3
        generalize w3.heap.size = v
        intro hstart
        clear B3 G1 hb H0 H1 H2
        go_loopw [15] (fun i w' => ∃ j : Nat, k ≤ j ∧ j ≤ 16 ∧ i = .int .i64 j ∧ TwoInv w w' Y V y v) (fun i _ => 16 - (intOf i).toNat)
        case atStart => exact ⟨k, Nat.le_refl _, by omega, rfl, hstart⟩
        case round =>
          obtain ⟨j, hkj, hj, rfl, hb, h1, h3⟩ := hrel
          clear hstart
          have H1 := Lib.hid h1
          have H3 := Lib.hid h3
          by_cases hj16 : j < 16
          · obtain ⟨d, hd⟩ : ∃ d : Nat, j - k = d := ⟨_, rfl⟩
            have c1 := RY.out.cell h1 j hj16
            have c3 := RV.out.cell h3 d (by omega)
            have e3 := PP.out d (by omega)
            rw [e3, show d + k = j by omega] at c3
            obtain ⟨x, hx⟩ : ∃ x, liS last f j = x := ⟨_, rfl⟩
            rw [hx] at c1 c3
            have e1 : (j : Int) - (k : Int) = (d : Int) := by omega
            have k1 : (j : Int) < 16 := by omega
            have k2 : (d : Int) < 16 := by omega
            have k4 : (0 : Int) ≤ (j : Int) := by omega
            have k5 : (0 : Int) ≤ (d : Int) := by omega
            clear h1 h3 hx hd e3
            go_wp2_with fail
            go_quiet (fail)
            go_wp2
            go_roundw
            case rel => exact ⟨j + 1, by omega, by omega, by go_num, below_drewN hb _, H1.out, H3.out⟩
            case measure => simp [intOf]; omega
          · obtain rfl : j = 16 := by omega
            clear h1 h3
            go_wp2
            go_ret
            exact ⟨rfl, hb⟩
end Go.Proofs.Ytppjapbbofepmaa.Tl
