/- MdRef3, MdRef4 beside Row: the document's Back. -/
import Derived.Test.YtfpmajlgbipbmaaMrRef2
namespace Go.Proofs.Ytfpmajlgbipbmaa.Md
open Go.RowKit Go.Proofs.Ytfpmajlgbipbmaa.Row Go.Proofs.Ytfpmajlgbipbmaa.Ang
set_option linter.unusedVariables false

theorem idx_nat (n k : Nat) (hn : n < 32) (hk : k < 16) : ∃ q i : Nat, (2 * (n : Int) + 17) * (2 * (k : Int) + 1) = (q : Int) ∧ q ≤ 2449 ∧ (q : Int).tmod 128 = (i : Int) ∧ (q : Int) % 128 = (i : Int) ∧ i < 128 ∧ cS n k = tabS i := by
  refine ⟨(2 * n + 17) * (2 * k + 1), (2 * n + 17) * (2 * k + 1) % 128, ?_, ?_, ?_, ?_, by omega, rfl⟩
  · rw [Int.natCast_mul]; congr 1
  · exact Nat.mul_le_mul (show 2 * n + 17 ≤ 79 by omega) (show 2 * k + 1 ≤ 31 by omega)
  · rw [Int.tmod_eq_emod_of_nonneg (by omega)]; omega
  · omega

/-- What holds of the memory while the document's way back is made. -/
def RbInv (w : World) (T Z : Array Value) (bc bo : Nat) (q : Nat → Int) (k : Nat) (w' : World) : Prop :=
  Below w.heap.size w w' ∧ At w' w.heap.size T 22 ∧ At w' (w.heap.size + 1) Z 56 ∧ At w' bc (rowL 128 tabS 128) 64 ∧ At w' bo (rowL 32 q k) 56

theorem rb_start (w w1 : World) (T Z : Array Value) (q : Nat → Int) (hq : rowL 32 q 0 = Z)
    (h : Below (w.heap.size + 1 + 1) ((w.alloc (.cells T 22)).alloc (.cells Z 56)) w1) :
    RbInv w T Z w1.heap.size (w1.heap.size + 1) q 0 ((w1.alloc (.cells (rowL 128 tabS 128) 64)).alloc (.cells Z 56)) := by
  have hs := h.size
  have hb : Below w.heap.size w ((w.alloc (.cells T 22)).alloc (.cells Z 56)) := ((Below.refl _ _).alloc (Nat.le_refl _) _).alloc (by simp) _
  have hb1 : Below w.heap.size w w1 := hb.trans (h.mono (by omega))
  refine ⟨(hb1.alloc hb1.size _).alloc (by have := hb1.size; simp; omega) _, ?_, ?_, (At.new _ _ _).alloc _, ?_⟩
  · exact ((((At.new _ _ _).alloc _).below h (by omega)).alloc _).alloc _
  · have := At.new (w.alloc (.cells T 22)) Z 56
    simp only [World.size_alloc] at this
    exact ((this.below h (by omega)).alloc _).alloc _
  · rw [hq]
    have := At.new (w1.alloc (.cells (rowL 128 tabS 128) 64)) Z 56
    simp only [World.size_alloc] at this
    exact this

set_option maxRecDepth 100000 in
set_option maxHeartbeats 2000000 in
theorem refBack_any (T : Array Value) (f : Nat → Int) (hT : IsRow 16 f T) (hf : Le 1048576 f) (w : World) :
    Calls Try.prog 27 #[.agg T] w fun e w' => e = .returned (.agg (rowL 32 (bS f) 32)) ∧ Below w.heap.size w w' := by
  obtain ⟨Z, hZ, hZ0, hz, hi⟩ := zero_32
  obtain ⟨C, hC, hC0, hc, hl⟩ := zero_128
  have HT := Lib.hid hT
  have HF := Lib.hid hf
  have HZ := Lib.hid hZ
  have HC := Lib.hid hC
  have ZE := Lib.hid hZ0
  have HI := Lib.hid hi
  have HL := Lib.hid hl
  clear hT hZ0 hi hf hZ hC hC0 hl
  go_enter Try.func27, Try.ntmps27
  go_wp2_with fail
  refine (refTab_any _).mono ?_
  rintro e w1 ⟨rfl, hw1⟩
  have hstart := rb_start w w1 T Z (bS f) (ZE.out _) (by simpa using hw1)
  have hge : w.heap.size + 1 + 1 ≤ w1.heap.size := by simpa using hw1.size
  have HSt := Lib.hid hstart
  clear hw1 hstart
  go_wp2_with (refine wpList_store_row rfl 64 _ _ rfl w1.heap.size (rowL 128 tabS 128) rfl rfl _ _ (heap_alloc_new _ _) (HL.out _ (rowL_size _ _ _)) (by rw [rowL_size, HC.out.1]) (rowL_one _ _ _) ?_; rw [World.setRow_alloc_new])
  revert HSt hge
  generalize (w1.alloc (.cells (rowL 128 tabS 128) 64)).alloc (.cells Z 56) = W
  have gbo : w1.heap.size < w1.heap.size + 1 := Nat.lt_succ_self _
  revert gbo
  generalize w1.heap.size + 1 = bo
  generalize w1.heap.size = bc
  intro gbo hge HSt
  go_loopw [5] (fun i w' => ∃ n : Nat, n ≤ 32 ∧ i = .int .i64 n ∧ RbInv w T Z bc bo (bS f) n w') (fun i _ => 32 - (intOf i).toNat)
  case atStart => exact ⟨0, Nat.zero_le _, rfl, HSt.out⟩
  case round =>
    obtain ⟨n, hn, rfl, hinv⟩ := hrel
    clear HSt
    have HB := Lib.hid hinv
    by_cases hn32 : n < 32
    · have n1 : (n : Int) < 32 := by omega
      clear hinv
      obtain ⟨wo, rfl⟩ : ∃ wo : World, wo = wr := ⟨_, rfl⟩
      go_wp2
      go_loopw [6, 7] (fun s i w' => ∃ k : Nat, k ≤ 16 ∧ i = .int .i64 k ∧ s = .int .i64 (uS f n k) ∧ RbInv w T Z bc bo (bS f) n w') (fun _ i _ => 16 - (intOf i).toNat)
      case atStart => exact ⟨0, Nat.zero_le _, rfl, rfl, HB.out⟩
      case round =>
        obtain ⟨k, hk, rfl, rfl, hinv⟩ := hrel
        clear HB
        have HB := Lib.hid hinv
        obtain ⟨s1, s2⟩ := le_ab (u_bd HF.out n k hk)
        by_cases hk16 : k < 16
        · obtain ⟨q, i, e1, e2, e3, e4, e5, e6⟩ := idx_nat n k hn32 hk16
          have c3 := (isRow 128 tabS).cell HB.out.2.2.2.1 i e5
          have c0 := HT.out.cell HB.out.2.1 k hk16
          obtain ⟨c, hcc⟩ : ∃ c, tabS i = c := ⟨_, rfl⟩
          obtain ⟨x, hx⟩ : ∃ x, f k = x := ⟨_, rfl⟩
          obtain ⟨q1, q2⟩ := le_ab (ab_prod (HF.out k hk16) (c_bd n k))
          rw [hx, e6, hcc] at q1 q2
          rw [hcc] at c3
          rw [hx] at c0
          simp only [Int.reduceMul] at q1 q2 s1 s2
          have HS := Lib.hid (show uS f n (k + 1) = uS f n k + x * c by unfold uS; rw [sum, hx, e6, hcc])
          have i1 : (i : Int) < 128 := by omega
          have k1 : (k : Int) < 16 := by omega
          generalize uS f n k = s at *
          have m1 : IntKind.i64.wrap (2 * (n : Int)) = 2 * (n : Int) := IntWalk.i64_in _ (by omega)
          have m2 : IntKind.i64.wrap (2 * (n : Int) + 17) = 2 * (n : Int) + 17 := IntWalk.i64_in _ (by omega)
          have m3 : IntKind.i64.wrap (2 * (k : Int)) = 2 * (k : Int) := IntWalk.i64_in _ (by omega)
          have m4 : IntKind.i64.wrap (2 * (k : Int) + 1) = 2 * (k : Int) + 1 := IntWalk.i64_in _ (by omega)
          have m5 : IntKind.i64.wrap (q : Int) = (q : Int) := IntWalk.i64_in _ (by omega)
          have m6 : IntKind.i64.wrap (i : Int) = (i : Int) := IntWalk.i64_in _ (by omega)
          have m7 : IntKind.i64.wrap (x * c) = x * c := IntWalk.i64_in _ (by omega)
          have m8 : IntKind.i64.wrap (s + x * c) = s + x * c := IntWalk.i64_in _ (by omega)
          clear e6 hcc hx hinv
          go_wp2_with fail
          go_quiet (fail)
          clear m1 m2 m3 m4 m5 m6 m7 m8 e1 e3 e4
          go_wp2
          go_roundw
          case rel => exact ⟨k + 1, by omega, by go_num, by rw [HS.out], below_drewN HB.out.1 _, HB.out.2⟩
          case measure => simp [intOf]; omega
        · obtain rfl : k = 16 := by omega
          clear hinv
          obtain ⟨u, hu⟩ : ∃ u, uS f n 16 = u := ⟨_, rfl⟩
          obtain ⟨g, hg⟩ : ∃ g, near u = g := ⟨_, rfl⟩
          obtain ⟨v, hv⟩ : ∃ v, winS n = v := ⟨_, rfl⟩
          obtain ⟨r, hr⟩ : ∃ r, nr16 (g * v) = r := ⟨_, rfl⟩
          obtain ⟨p1, p2⟩ := le_ab (ab_prod (g_bd HF.out n) (win_bd n))
          have HW := Lib.hid (show bS f n = r by unfold bS gS; rw [hu, hg, hv, hr])
          rw [show gS f n = g by unfold gS; rw [hu, hg], hv] at p1 p2
          rw [hu] at s1 s2
          rw [hu]
          simp only [Int.reduceMul] at p1 p2
          have HG := Lib.hid hg
          have HV := Lib.hid (show sinS (2 * (n : Int) + 1) = v from hv)
          have HR := Lib.hid hr
          have s3 : -1099511627776 ≤ u := by omega
          have s4 : u ≤ 1099511627776 := by omega
          have s5 : -1099511627776 ≤ g * v := by omega
          have s6 : g * v ≤ 1099511627776 := by omega
          have c4 := rowL_cell HB.out.2.2.2.2 n hn32
          have f4 := HB.out.2.2.2.2.frozen n
          clear hu hg hv hr s1 s2
          rw [show ((16 : Nat) : Int) = 16 from rfl]
          go_wp2_with (first
            | (go_at_call 43; (with_reducible refine (refSin_as (2 * (n : Int) + 1) v _ HV.out).mono ?_); rintro e w' ⟨rfl, rfl⟩)
            | (go_at_call 42; (with_reducible refine (refShift_15 u g _ s3 s4 HG.out).mono ?_); rintro e w' ⟨rfl, rfl⟩)
            | (go_at_call 42; (with_reducible refine (refShift_16 (g * v) r _ s5 s6 HR.out).mono ?_); rintro e w' ⟨rfl, rfl⟩))
          go_roundw
          case rel =>
            obtain ⟨b0, b1, b2, b3, b4⟩ := HB.out
            exact ⟨n + 1, by omega, by go_num, b0.setCell (by dsimp only; omega) _, b1.setCell_other (by dsimp only; omega), b2.setCell_other (by dsimp only; omega), b3.setCell_other (by dsimp only; omega), by rw [← HW.out]; exact b4.put hn32⟩
          case measure => simp [intOf]; omega
    · obtain rfl : n = 32 := by omega
      obtain ⟨hb, _, H2', _, H4'⟩ := hinv
      have H2 := Lib.hid H2'
      have H4 := Lib.hid H4'
      clear H2' H4'
      go_wp2_with (first
        | refine wpList_load_row rfl 56 _ rfl bo rfl _ _ (0, 0) _ H4.out Try.underlying56 rfl (HI.out _ (rowL_size _ _ _)) ?_
        | refine wpList_store_row rfl 56 _ _ rfl (w.heap.size + 1) (rowL 32 (bS f) 32) rfl rfl _ _ H2.out (HI.out _ (rowL_size _ _ _)) (by rw [HZ.out.1, rowL_size]) (rowL_one _ _ _) ?_)
      exact bodyPost_ret (v := .agg (rowL 32 (bS f) 32)) (results_cell_row rfl _ _ (w.heap.size + 1) 56 (rowL 32 (bS f) 32) (0, 0) _ rfl H2.out.setRow Try.underlying56 rfl (HI.out _ (rowL_size _ _ _))) rfl ⟨rfl, below_setRow' hb (by omega) _⟩
end Go.Proofs.Ytfpmajlgbipbmaa.Md
