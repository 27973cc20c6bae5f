/- Contracts of the document's answers of layer 4: Waves. -/
import Derived.Test.YtabenllglldkkaaMdRef2
namespace Go.Proofs.Ytabenllglldkkaa.Md
open Go.RowKit Go.Proofs.Ytabenllglldkkaa.Ang

/-- What holds of the memory while the document's waves are made. -/
def RwInv (w : World) (T U Z : Array Value) (bc bo : Nat) (q : Nat → Int) (k : Nat) (w' : World) : Prop :=
  Below w.heap.size w w' ∧ At w' w.heap.size T 22 ∧ At w' (w.heap.size + 1) U 22 ∧ At w' (w.heap.size + 1 + 1) Z 22 ∧ At w' bc (rowL 128 tabS 128) 40 ∧ At w' bo (rowL 16 q k) 22

theorem rw_start (w w1 : World) (T U Z : Array Value) (q : Nat → Int) (hq : rowL 16 q 0 = Z)
    (h : Below (w.heap.size + 1 + 1 + 1) (((w.alloc (.cells T 22)).alloc (.cells U 22)).alloc (.cells Z 22)) w1) :
    RwInv w T U Z w1.heap.size (w1.heap.size + 1) q 0 ((w1.alloc (.cells (rowL 128 tabS 128) 40)).alloc (.cells Z 22)) := by
  have hs := h.size
  have hb : Below w.heap.size w (((w.alloc (.cells T 22)).alloc (.cells U 22)).alloc (.cells Z 22)) :=
    (((Below.refl _ _).alloc (Nat.le_refl _) _).alloc (by simp) _).alloc (by simp; omega) _
  have hb1 : Below w.heap.size w w1 := hb.trans (h.mono (by omega))
  refine ⟨(hb1.alloc hb1.size _).alloc (by have := hb1.size; simp; omega) _, ?_, ?_, ?_, (At.new _ _ _).alloc _, ?_⟩
  · exact (((((At.new _ _ _).alloc _).alloc _).below h (by omega)).alloc _).alloc _
  · have := (At.new (w.alloc (.cells T 22)) U 22).alloc (.cells Z 22)
    simp only [World.size_alloc] at this
    exact ((this.below h (by omega)).alloc _).alloc _
  · have := At.new ((w.alloc (.cells T 22)).alloc (.cells U 22)) Z 22
    simp only [World.size_alloc] at this
    exact ((this.below h (by omega)).alloc _).alloc _
  · rw [hq]
    have := At.new (w1.alloc (.cells (rowL 128 tabS 128) 40)) Z 22
    simp only [World.size_alloc] at this
    exact this

theorem idx_nat (n k : Nat) (hn : n < 32) (hk : k < 16) : ∃ q i : Nat, (2 * (n : Int) + 17) * (2 * (k : Int) + 1) = (q : Int) ∧ q ≤ 2449 ∧ (q : Int).tmod 128 = (i : Int) ∧ (q : Int) % 128 = (i : Int) ∧ i < 128 ∧ cS n k = tabS i := by
  refine ⟨(2 * n + 17) * (2 * k + 1), (2 * n + 17) * (2 * k + 1) % 128, ?_, ?_, ?_, ?_, by omega, rfl⟩
  · rw [Int.natCast_mul]; congr 1
  · exact Nat.mul_le_mul (show 2 * n + 17 ≤ 79 by omega) (show 2 * k + 1 ≤ 31 by omega)
  · rw [Int.tmod_eq_emod_of_nonneg (by omega)]; omega
  · omega

set_option maxRecDepth 100000 in
set_option maxHeartbeats 2000000 in
theorem refWaves_any (T U : Array Value) (f g : Nat → Int) (hT : IsRow 16 f T) (hU : IsRow 16 g U) (hf : Le 1048576 f) (hg : Le 1048576 g) (w : World) :
    Calls Try.prog 16 #[.agg T, .agg U] w fun e w' => e = .returned (.agg (rowL 16 (wS f g) 16)) ∧ Below w.heap.size w w' := by
  obtain ⟨Z, hZ, hZ0, hz, hi⟩ := zero_16
  obtain ⟨C, hC, hC0, hc, hl⟩ := zero_128
  have HT := Lib.hid hT
  have HU := Lib.hid hU
  have HF := Lib.hid hf
  have HG := Lib.hid hg
  have HZ := Lib.hid hZ
  have HC := Lib.hid hC
  have ZE := Lib.hid hZ0
  have HI := Lib.hid hi
  have HL := Lib.hid hl
  clear hT hU hZ0 hi hf hg hZ hC hC0 hl
  go_enter Try.func16, Try.ntmps16
  go_wp2_with fail
  refine (refTab_any _).mono ?_
  rintro e w1 ⟨rfl, hw1⟩
  have hstart := rw_start w w1 T U Z (wS f g) (ZE.out _) (by simpa using hw1)
  have hge : w.heap.size + 1 + 1 + 1 ≤ w1.heap.size := by simpa using hw1.size
  have HSt := Lib.hid hstart
  clear hw1 hstart
  go_wp2_with (refine wpList_store_row rfl 40 _ _ rfl w1.heap.size (rowL 128 tabS 128) rfl rfl _ _ (heap_alloc_new _ _) (HL.out _ (rowL_size _ _ _)) (by rw [rowL_size, HC.out.1]) (rowL_one _ _ _) ?_; rw [World.setRow_alloc_new])
  revert HSt hge
  generalize (w1.alloc (.cells (rowL 128 tabS 128) 40)).alloc (.cells Z 22) = W
  have gbo : w1.heap.size < w1.heap.size + 1 := Nat.lt_succ_self _
  revert gbo
  generalize w1.heap.size + 1 = bo
  generalize w1.heap.size = bc
  intro gbo hge HSt
  go_loopw [7] (fun i w' => ∃ k : Nat, k ≤ 16 ∧ i = .int .i64 k ∧ RwInv w T U Z bc bo (wS f g) k w') (fun i _ => 16 - (intOf i).toNat)
  case atStart => exact ⟨0, Nat.zero_le _, rfl, HSt.out⟩
  case round =>
    obtain ⟨k, hk, rfl, hinv⟩ := hrel
    clear HSt
    obtain ⟨hb, h0, h1, h2, h3, h4⟩ := hinv
    have H0 := Lib.hid h0
    have H1 := Lib.hid h1
    have H2 := Lib.hid h2
    have H3 := Lib.hid h3
    have H4 := Lib.hid h4
    by_cases hk16 : k < 16
    · have c4 := rowL_cell h4 k hk16
      have f4 := h4.frozen k
      have k1 : (k : Int) < 16 := by omega
      have C4 := Lib.hid c4
      have F4 := Lib.hid f4
      clear h0 h1 h2 h3 h4 c4 f4
      obtain ⟨wo, rfl⟩ : ∃ wo : World, wo = wr := ⟨_, rfl⟩
      go_wp2
      go_loop [8, 9] (fun s i => ∃ n : Nat, n ≤ 32 ∧ i = .int .i64 n ∧ s = .int .i64 (vS f g k n)) (fun _ i => 32 - (intOf i).toNat)
      case atStart => exact ⟨0, Nat.zero_le _, rfl, rfl⟩
      case round =>
        obtain ⟨n, hn, rfl, rfl⟩ := hrel
        obtain ⟨s1, s2⟩ := le_ab (v_bd HF.out HG.out k n hn)
        by_cases hn32 : n < 32
        · obtain ⟨q, i, e1, e2, e3, e4, e5, e6⟩ := idx_nat n k hn32 hk16
          have c3 := (isRow 128 tabS).cell H3.out i e5
          obtain ⟨c, hcc⟩ : ∃ c, tabS i = c := ⟨_, rfl⟩
          obtain ⟨v, hv⟩ : ∃ v, winS n = v := ⟨_, rfl⟩
          obtain ⟨x, hx⟩ : ∃ x, xs2 f g n = x := ⟨_, rfl⟩
          obtain ⟨p, hp⟩ : ∃ p, near (x * v) = p := ⟨_, rfl⟩
          obtain ⟨p1, p2⟩ := le_ab (ab_prod (xs2_bd HF.out HG.out n hn32) (win_bd n))
          obtain ⟨q1, q2⟩ := le_ab (ab_prod (p_bd HF.out HG.out n hn32) (c_bd n k))
          have hpS : pS f g n = p := by unfold pS; rw [hx, hv, hp]
          rw [hpS, e6, hcc] at q1 q2
          rw [hx, hv] at p1 p2
          rw [hcc] at c3
          simp only [Int.reduceMul] at p1 p2 q1 q2 s1 s2
          have HS := Lib.hid (show vS f g k (n + 1) = vS f g k n + p * c by unfold vS; rw [sum, hpS, e6, hcc])
          have HV := Lib.hid (show sinS (2 * (n : Int) + 1) = v from hv)
          have HP := Lib.hid hp
          have i1 : (i : Int) < 128 := by omega
          have n1 : (n : Int) < 32 := by omega
          have w1' : -1099511627776 ≤ x * v := by omega
          have w2' : x * v ≤ 1099511627776 := by omega
          generalize vS f g k n = s at *
          clear e6 hcc hv hp hpS
          by_cases hn16 : n < 16
          · have c0 := HT.out.cell H0.out n hn16
            rw [show f n = x by rw [← hx]; unfold xs2; rw [if_pos hn16]] at c0
            have n2 : (n : Int) < 16 := by omega
            clear hx
            go_wp2_with (first
              | (go_at_call 30; (with_reducible refine (refSin_as (2 * (n : Int) + 1) v _ HV.out).mono ?_); rintro e w' ⟨rfl, rfl⟩)
              | (go_at_call 29; (with_reducible refine (refShift_15 (x * v) p _ w1' w2' HP.out).mono ?_); rintro e w' ⟨rfl, rfl⟩))
            go_round
            case rel => exact ⟨n + 1, by omega, by go_num, by rw [HS.out]⟩
            case measure => simp [intOf]; omega
          · obtain ⟨j, hj⟩ : ∃ j : Nat, n - 16 = j := ⟨_, rfl⟩
            have c0 := HU.out.cell H1.out j (by omega)
            rw [show g j = x by rw [← hx, ← hj]; unfold xs2; rw [if_neg hn16]] at c0
            have n2 : ¬ (n : Int) < 16 := by omega
            have j1 : (n : Int) - 16 = (j : Int) := by omega
            have j2 : (j : Int) < 16 := by omega
            clear hx
            go_wp2_with (first
              | (go_at_call 30; (with_reducible refine (refSin_as (2 * (n : Int) + 1) v _ HV.out).mono ?_); rintro e w' ⟨rfl, rfl⟩)
              | (go_at_call 29; (with_reducible refine (refShift_15 (x * v) p _ w1' w2' HP.out).mono ?_); rintro e w' ⟨rfl, rfl⟩))
            go_round
            case rel => exact ⟨n + 1, by omega, by go_num, by rw [HS.out]⟩
            case measure => simp [intOf]; omega
        · obtain rfl : n = 32 := by omega
          obtain ⟨s, hs⟩ : ∃ s, vS f g k 32 = s := ⟨_, rfl⟩
          obtain ⟨r, hr⟩ : ∃ r, nr17 s = r := ⟨_, rfl⟩
          have HR := Lib.hid hr
          have HW := Lib.hid (show wS f g k = r by unfold wS; rw [hs, hr])
          rw [hs] at s1 s2
          rw [hs]
          have s3 : -1099511627776 ≤ s := by omega
          have s4 : s ≤ 1099511627776 := by omega
          have c4 := C4.out
          have f4 := F4.out
          clear hs hr s1 s2
          rw [show ((32 : Nat) : Int) = 32 from rfl]
          go_wp2_with (go_at_call 29; (with_reducible refine (refShift_17 s r _ s3 s4 HR.out).mono ?_); rintro e w' ⟨rfl, rfl⟩)
          go_roundw
          case rel => exact ⟨k + 1, by omega, by go_num, hb.setCell (by dsimp only; omega) _, H0.out.setCell_other (by dsimp only; omega), H1.out.setCell_other (by dsimp only; omega), H2.out.setCell_other (by dsimp only; omega), H3.out.setCell_other (by dsimp only; omega), by rw [← HW.out]; exact H4.out.put hk16⟩
          case measure => simp [intOf]; omega
    · clear h0 h1 h2 h3 h4
      obtain rfl : k = 16 := by omega
      go_wp2_with (first
        | refine wpList_load_row rfl 22 _ rfl bo rfl _ _ (0, 0) _ H4.out Try.underlying22 rfl (HI.out _ (rowL_size _ _ _)) ?_
        | refine wpList_store_row rfl 22 _ _ rfl (w.heap.size + 1 + 1) (rowL 16 (wS f g) 16) rfl rfl _ _ H2.out (HI.out _ (rowL_size _ _ _)) (by rw [HZ.out.1, rowL_size]) (rowL_one _ _ _) ?_)
      exact bodyPost_ret (v := .agg (rowL 16 (wS f g) 16)) (results_cell_row rfl _ _ (w.heap.size + 1 + 1) 22 (rowL 16 (wS f g) 16) (0, 0) _ rfl H2.out.setRow Try.underlying22 rfl (HI.out _ (rowL_size _ _ _))) rfl ⟨rfl, below_setRow' hb (by omega) _⟩
end Go.Proofs.Ytabenllglldkkaa.Md
