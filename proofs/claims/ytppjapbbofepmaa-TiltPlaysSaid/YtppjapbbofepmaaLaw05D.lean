/- The statements' walks of layer 5, fourth part: TiltPlays. -/
import Derived.Test.YtppjapbbofepmaaLaw05C
namespace Go.Proofs.Ytppjapbbofepmaa.Tl
open Go.RowKit Go.Proofs.Ytppjapbbofepmaa.Row

/-- The rows that are held against each other. -/
def PlInv (w w' : World) (T X Y S : Array Value) (x y z v s : Nat) : Prop :=
  Below w.heap.size w w' ∧ At w' w.heap.size T 22 ∧ At w' x X 24 ∧ At w' y X 22 ∧ At w' z Y 24 ∧ At w' v Y 22 ∧ At w' s S 24

set_option maxRecDepth 100000 in
set_option maxHeartbeats 1000000 in
theorem tiltPlays_walk (last : Int) (T : Array Value) (f : Nat → Int) (hT : IsRow 16 f T) (w : World) :
    Calls Try.prog 5 #[.int .i64 last, .agg T] w fun e w' => e = .returned (.bool true) ∧ Below w.heap.size w w' := by
  obtain ⟨Z, hZ, hZ0, hz, hi⟩ := zero_block
  obtain ⟨O, hO, hO0, ho, hj⟩ := zero_16
  have HT := Lib.hid hT
  have HZ := Lib.hid hZ
  have HO := Lib.hid hO
  have HI := Lib.hid hi
  have HJ := Lib.hid hj
  obtain ⟨X, hX⟩ : ∃ A, rowL 16 (liS last f) 16 = A := ⟨_, rfl⟩
  obtain ⟨Y, hY⟩ : ∃ A, rowL 16 (laS last f) 16 = A := ⟨_, rfl⟩
  obtain ⟨S, hS⟩ : ∃ A, rowL 16 (fun k => ct16 (f k)) 16 = A := ⟨_, rfl⟩
  have RX := Lib.hid (show IsRow 16 (liS last f) X by rw [← hX]; exact isRow _ _)
  have RY := Lib.hid (show IsRow 16 (laS last f) Y by rw [← hY]; exact isRow _ _)
  have RS := Lib.hid (show IsRow 16 (fun k => ct16 (f k)) S by rw [← hS]; exact isRow _ _)
  obtain ⟨p, hp⟩ : ∃ p, ct22 (f 15) = p := ⟨_, rfl⟩
  obtain ⟨q, hq⟩ : ∃ p, laS last f 15 = p := ⟨_, rfl⟩
  have CL := Lib.hid (fun w => lift_any last T f w hT)
  have CA := Lib.hid (fun w => lay_any last T f w hT)
  have CS := Lib.hid (fun w => sound_any T f w hT)
  have DL := Lib.hid (fun w => refLift_any last T f w hT)
  have DA := Lib.hid (fun w => refLay_any last T f w hT)
  rw [hX, hp] at CL DL
  rw [hY, hq] at CA DA
  rw [hS] at CS
  have A0 := Lib.hid (At.new w T 22)
  have B0 := Lib.hid ((Below.refl w.heap.size w).alloc (Nat.le_refl _) (.cells T 22))
  clear hT hZ hi hj hZ0 hO hO0 hY hX hS hp hq
  go_enter Try.func5, Try.ntmps5
  go_wp2_with fail
  refine (awake_yes _).mono ?_
  rintro e w1 ⟨rfl, hw1⟩
  have A1 := Lib.hid (A0.out.below hw1 A0.out.lt)
  have B1 := Lib.hid (below_trans B0.out hw1 B0.out.size)
  clear A0 B0 hw1
  go_wp2_with (first
    | refine wpList_load_wanted (by rfl) 22 _ rfl w.heap.size rfl _ _ _ _ A1.out Try.underlying22 (HJ.out _ HT.out.1) ?_)
  refine (CL.out _).mono ?_
  rintro e w2 ⟨rfl, hw2⟩
  have A2 := Lib.hid (A1.out.below hw2 A1.out.lt)
  have B2 := Lib.hid (below_trans B1.out hw2 B1.out.size)
  clear hw2 A1 B1 
  have E2 := Lib.hid (A2.out.alloc (.cells X 24))
  have F2 := Lib.hid (B2.out.alloc B2.out.size (.cells X 24))
  have R2_2 := Lib.hid (At.new w2 X 24)
  clear A2 B2 
  go_wp2_with (first
    | (refine wpList_store_row rfl 24 _ _ rfl w2.heap.size X rfl rfl _ _ (heap_alloc_new _ _) (HI.out _ RX.out.1) (by rw [RX.out.1, HZ.out.1]) RX.out.2.1 ?_
       rw [World.setRow_alloc_new])
    | refine wpList_load_wanted (by rfl) 22 _ rfl w.heap.size rfl _ _ _ _ E2.out Try.underlying22 (HJ.out _ HT.out.1) ?_)
  refine (DL.out _).mono ?_
  rintro e w3 ⟨rfl, hw3⟩
  have A3 := Lib.hid (E2.out.below hw3 E2.out.lt)
  have B3 := Lib.hid (below_trans F2.out hw3 F2.out.size)
  have R2_3 := Lib.hid (R2_2.out.below hw3 R2_2.out.lt)
  clear hw3 E2 F2 R2_2
  have E3 := Lib.hid (A3.out.alloc (.cells X 22))
  have F3 := Lib.hid (B3.out.alloc B3.out.size (.cells X 22))
  have R2_3a := Lib.hid (R2_3.out.alloc (.cells X 22))
  have R3_3 := Lib.hid (At.new w3 X 22)
  clear A3 B3 R2_3
  go_wp2_with (first
    | (refine wpList_store_row rfl 22 _ _ rfl w3.heap.size X rfl rfl _ _ (heap_alloc_new _ _) (HJ.out _ RX.out.1) (by rw [RX.out.1, HO.out.1]) RX.out.2.1 ?_
       rw [World.setRow_alloc_new])
    | refine wpList_load_wanted (by rfl) 22 _ rfl w.heap.size rfl _ _ _ _ E3.out Try.underlying22 (HJ.out _ HT.out.1) ?_)
  refine (CA.out _).mono ?_
  rintro e w4 ⟨rfl, hw4⟩
  have A4 := Lib.hid (E3.out.below hw4 E3.out.lt)
  have B4 := Lib.hid (below_trans F3.out hw4 F3.out.size)
  have R2_4 := Lib.hid (R2_3a.out.below hw4 R2_3a.out.lt)
  have R3_4 := Lib.hid (R3_3.out.below hw4 R3_3.out.lt)
  clear hw4 E3 F3 R2_3a R3_3
  have E4 := Lib.hid (A4.out.alloc (.cells Y 24))
  have F4 := Lib.hid (B4.out.alloc B4.out.size (.cells Y 24))
  have R2_4a := Lib.hid (R2_4.out.alloc (.cells Y 24))
  have R3_4a := Lib.hid (R3_4.out.alloc (.cells Y 24))
  have R4_4 := Lib.hid (At.new w4 Y 24)
  clear A4 B4 R2_4 R3_4
  go_wp2_with (first
    | (refine wpList_store_row rfl 24 _ _ rfl w4.heap.size Y rfl rfl _ _ (heap_alloc_new _ _) (HI.out _ RY.out.1) (by rw [RY.out.1, HZ.out.1]) RY.out.2.1 ?_
       rw [World.setRow_alloc_new])
    | refine wpList_load_wanted (by rfl) 22 _ rfl w.heap.size rfl _ _ _ _ E4.out Try.underlying22 (HJ.out _ HT.out.1) ?_)
  refine (DA.out _).mono ?_
  rintro e w5 ⟨rfl, hw5⟩
  have A5 := Lib.hid (E4.out.below hw5 E4.out.lt)
  have B5 := Lib.hid (below_trans F4.out hw5 F4.out.size)
  have R2_5 := Lib.hid (R2_4a.out.below hw5 R2_4a.out.lt)
  have R3_5 := Lib.hid (R3_4a.out.below hw5 R3_4a.out.lt)
  have R4_5 := Lib.hid (R4_4.out.below hw5 R4_4.out.lt)
  clear hw5 E4 F4 R2_4a R3_4a R4_4
  have E5 := Lib.hid (A5.out.alloc (.cells Y 22))
  have F5 := Lib.hid (B5.out.alloc B5.out.size (.cells Y 22))
  have R2_5a := Lib.hid (R2_5.out.alloc (.cells Y 22))
  have R3_5a := Lib.hid (R3_5.out.alloc (.cells Y 22))
  have R4_5a := Lib.hid (R4_5.out.alloc (.cells Y 22))
  have R5_5 := Lib.hid (At.new w5 Y 22)
  clear A5 B5 R2_5 R3_5 R4_5
  go_wp2_with (first
    | (refine wpList_store_row rfl 22 _ _ rfl w5.heap.size Y rfl rfl _ _ (heap_alloc_new _ _) (HJ.out _ RY.out.1) (by rw [RY.out.1, HO.out.1]) RY.out.2.1 ?_
       rw [World.setRow_alloc_new])
    | refine wpList_load_wanted (by rfl) 22 _ rfl w.heap.size rfl _ _ _ _ E5.out Try.underlying22 (HJ.out _ HT.out.1) ?_)
  refine (CS.out _).mono ?_
  rintro e w6 ⟨rfl, hw6⟩
  have A6 := Lib.hid (E5.out.below hw6 E5.out.lt)
  have B6 := Lib.hid (below_trans F5.out hw6 F5.out.size)
  have R2_6 := Lib.hid (R2_5a.out.below hw6 R2_5a.out.lt)
  have R3_6 := Lib.hid (R3_5a.out.below hw6 R3_5a.out.lt)
  have R4_6 := Lib.hid (R4_5a.out.below hw6 R4_5a.out.lt)
  have R5_6 := Lib.hid (R5_5.out.below hw6 R5_5.out.lt)
  clear hw6 E5 F5 R2_5a R3_5a R4_5a R5_5
  have E6 := Lib.hid (A6.out.alloc (.cells S 24))
  have F6 := Lib.hid (B6.out.alloc B6.out.size (.cells S 24))
  have R2_6a := Lib.hid (R2_6.out.alloc (.cells S 24))
  have R3_6a := Lib.hid (R3_6.out.alloc (.cells S 24))
  have R4_6a := Lib.hid (R4_6.out.alloc (.cells S 24))
  have R5_6a := Lib.hid (R5_6.out.alloc (.cells S 24))
  have R6_6 := Lib.hid (At.new w6 S 24)
  clear A6 B6 R2_6 R3_6 R4_6 R5_6
  go_wp2_with (first
    | (refine wpList_store_row rfl 24 _ _ rfl w6.heap.size S rfl rfl _ _ (heap_alloc_new _ _) (HI.out _ RS.out.1) (by rw [RS.out.1, HZ.out.1]) RS.out.2.1 ?_
       rw [World.setRow_alloc_new]))
  have hstart : PlInv w (w6.alloc (.cells S 24)) T X Y S w2.heap.size w3.heap.size w4.heap.size w5.heap.size w6.heap.size := ⟨F6.out, E6.out, R2_6a.out, R3_6a.out, R4_6a.out, R5_6a.out, R6_6.out⟩
  revert hstart
  generalize w6.alloc (.cells S 24) = W
  generalize w6.heap.size = s
  generalize w5.heap.size = v
  generalize w4.heap.size = z
  generalize w3.heap.size = y
  generalize w2.heap.size = x
  intro hstart
  clear E6 F6 R2_6a R3_6a R4_6a R5_6a R6_6
  go_loopw [14] (fun i w' => ∃ k : Nat, k ≤ 16 ∧ i = .int .i64 k ∧ PlInv w w' T X Y S x y z v s) (fun i _ => 16 - (intOf i).toNat)
  case atStart => exact ⟨0, Nat.zero_le _, rfl, hstart⟩
  case round =>
    obtain ⟨k, hk, rfl, hb, h0, h1, h2, h3, h4, h5⟩ := hrel
    clear hstart
    by_cases hk16 : k < 16
    · have HH := Lib.hid (show PlInv w wr T X Y S x y z v s from ⟨hb, h0, h1, h2, h3, h4, h5⟩)
      have c0 := HT.out.cell h0 k hk16
      have c5 := RS.out.cell h5 k hk16
      obtain ⟨n, hn⟩ : ∃ x, f k = x := ⟨_, rfl⟩
      rw [hn] at c0 c5
      obtain ⟨m, hm⟩ : ∃ x, ct16 n = x := ⟨_, rfl⟩
      rw [hm] at c5
      have HM := Lib.hid hm
      have k1 : (k : Int) < 16 := by omega
      have k4 : (0 : Int) ≤ (k : Int) := by omega
      clear h0 h1 h2 h3 h4 h5 hb hn hm
      go_wp2_with fail
      go_quiet ((go_at_call 14; exact quiet_int (refCut16 n m _ HM.out)))
      go_wp2
      go_roundw
      case rel => exact ⟨k + 1, by omega, by go_num, below_drewN HH.out.1 _, HH.out.2⟩
      case measure => simp [intOf]; omega
    · have H1 := Lib.hid h1
      have H2 := Lib.hid h2
      have H3 := Lib.hid h3
      have H4 := Lib.hid h4
      have e1 := rows_eq RX.out RX.out (fun _ _ => rfl) Try.underlying24
      have e2 := rows_eq RY.out RY.out (fun _ _ => rfl) Try.underlying24
      have e0 := no_guard
      clear h0 h1 h2 h3 h4 h5
      go_wp2_with (first
        | refine wpList_load_wanted (by rfl) 24 _ rfl x rfl _ _ _ _ H1.out Try.underlying24 (HI.out _ RX.out.1) ?_
        | refine wpList_load_wanted (by rfl) 22 _ rfl y rfl _ _ _ _ H2.out Try.underlying22 (HJ.out _ RX.out.1) ?_
        | refine wpList_load_wanted (by rfl) 24 _ rfl z rfl _ _ _ _ H3.out Try.underlying24 (HI.out _ RY.out.1) ?_
        | refine wpList_load_wanted (by rfl) 22 _ rfl v rfl _ _ _ _ H4.out Try.underlying22 (HJ.out _ RY.out.1) ?_)
      go_ret
      exact ⟨rfl, hb⟩
end Go.Proofs.Ytppjapbbofepmaa.Tl
