/- ShapeMore and ShapeOne: the walks. -/
import Derived.Test.YtncieojippiokaaLaw10A
import Derived.Test.YtncieojippiokaaRowMvQ
set_option maxRecDepth 100000
set_option linter.unusedVariables false
namespace Go.Proofs.Ytncieojippiokaa.Sh
open Go.RowKit Go.Proofs.Ytncieojippiokaa.Row

theorem okC_none (x : Nat → Int) : okC x 0 = false := rfl

/-- Where the next pulse goes. -/
def dS (x : Nat → Int) (n k i : Nat) : Nat := if i = bS (sz x) n k n then 1 else 0
theorem dS_next (x : Nat → Int) (n k i : Nat) : yS (sz x) n (k + 1) i = yS (sz x) n k i + dS x n k i := by
  rw [y_next]; unfold dS; split <;> rfl
theorem dS_sum {x : Nat → Int} {n : Nat} (hn : 0 < n) (k : Nat) : S (dS x n k) n = 1 := by
  have h1 := y_sum (u := sz x) hn k
  have h2 := y_sum (u := sz x) hn (k + 1)
  rw [S_congr fun i _ => dS_next x n k i, S_add] at h2
  omega
theorem dS_le (x : Nat → Int) (n k i : Nat) : dS x n k i ≤ 1 := by unfold dS; split <;> omega

/-- What stands while two rows of pulses are compared. -/
def T2S (W : World) (g h n : Nat) (y z : Nat → Int) (w' : World) : Prop := Below W.heap.size W w' ∧ (∀ i, i < n → w'.cell? ⟨g, i, none⟩ = some (.int .i64 (y i))) ∧ ∀ i, i < n → w'.cell? ⟨h, i, none⟩ = some (.int .i64 (z i))
theorem T2S.drewN {W w : World} {g h n : Nat} {y z : Nat → Int} (s : T2S W g h n y z w) (k : Nat) : T2S W g h n y z (w.drewN k) := ⟨below_drewN s.1 k, s.2⟩

theorem shapeMore_none (a : Option Addr) (c : Nat) (f : Nat → Int) (k : Nat) (W : World) (hS : Sl .i64 W a 0 c f) (hk : k ≤ 255) :
    Calls Try.prog 6 #[.slice a 0 c, .int .u8 k] W fun e w' => e = .returned (.bool true) ∧ Below W.heap.size W w' := by
  have HW := Lib.hid (waves_as a 0 c f W hS fun i hi => absurd hi (Nat.not_lt_zero i))
  clear hS
  go_enter Try.func6, Try.ntmps6
  go_wp2_with fail
  refine HW.out.mono ?_
  rintro e w1 ⟨a', c', rfl, ho, h1⟩
  have HB1 := Lib.hid h1
  clear ho h1 HW
  rw [show min 0 8 = 0 from rfl]
  go_wp2_with fail
  refine (awake_yes _).mono ?_
  rintro e w2 ⟨rfl, h2⟩
  have HB2 := Lib.hid (below_trans HB1.out h2 HB1.out.size)
  clear h2 HB1
  go_wp2_with fail
  refine (awake_yes _).mono ?_
  rintro e w3 ⟨rfl, h3⟩
  go_wp2_with fail
  go_ret
  exact ⟨rfl, below_trans HB2.out h3 HB2.out.size⟩

theorem maxabs {z : Int} {u : Nat} (h : z.natAbs = u) : max z (-z) = (u : Int) := by omega

set_option maxHeartbeats 800000 in
theorem shapeMore_some (a : Option Addr) (n c : Nat) (f : Nat → Int) (k : Nat) (W : World) (hS : Sl .i64 W a n c f) (hf : ∀ i, i < n → -9223372036854775808 ≤ f i ∧ f i ≤ 9223372036854775807) (h0 : 0 < n) (hk : k ≤ 255) :
    Calls Try.prog 6 #[.slice a n c, .int .u8 k] W fun e w' => e = .returned (.bool true) ∧ Below W.heap.size W w' := by
  obtain ⟨m, hm⟩ : ∃ m, min n 8 = m := ⟨_, rfl⟩
  have hm0 : 0 < m := by omega
  have hm8 : m ≤ 8 := by omega
  have HW := Lib.hid (waves_as a n c f W hS hf)
  rw [hm] at HW
  obtain ⟨K, hK⟩ : ∃ K : Nat, (k : Int) % 8 = K := ⟨k % 8, by omega⟩
  have hK7 : K ≤ 7 := by omega
  have HO := Lib.hid (wv_ok f hm0 hm8)
  have HD := Lib.hid (dS_sum (x := wv f) hm0 K)
  clear hS hf hm
  go_enter Try.func6, Try.ntmps6
  go_wp2_with fail
  refine HW.out.mono ?_
  rintro e w1 ⟨a', c', rfl, ho, h1⟩
  have HS1 := Lib.hid ho.sl
  have HB1 := Lib.hid h1
  clear ho h1 HW
  have hmz : ((m : Int) == 0) = false := by rw [beq_eq_false_iff_ne]; omega
  have hmm : ((m : Int) != (m : Int)) = false := by simp
  go_wp2_with fail
  refine (awake_yes _).mono ?_
  rintro e w2 ⟨rfl, h2⟩
  have HB2 := Lib.hid (below_trans HB1.out h2 HB1.out.size)
  have HS2 := Lib.hid (HS1.out.below h2)
  clear h2 HB1 HS1
  go_wp2_with fail
  rw [hK]
  clear hK
  refine (find_yes a' m c' K (wv f) _ HS2.out HO.out (by omega)).mono ?_
  rintro e w3 ⟨g, U, rfl, hg, hU, hA, h3⟩
  have HB3 := Lib.hid (below_trans HB2.out h3 HB2.out.size)
  have HS3 := Lib.hid (HS2.out.below h3)
  have HU := Lib.hid hU
  have HA := Lib.hid hA
  clear hg hU hA h3 HS2 HB2
  go_wp2_with fail
  refine (find_yes a' m c' (K + 1) (wv f) _ HS3.out HO.out (by omega)).mono ?_
  rintro e w4 ⟨h, V, rfl, hh, hV, hA2, h4⟩
  have HT := Lib.hid (show T2S W g h m (fS (wv f) m K) (fS (wv f) m (K + 1)) w4 from ⟨below_trans HB3.out h4 HB3.out.size, fun i hi => HU.out.cell (HA.out.below h4 HA.out.lt) i hi, fun i hi => hV.cell hA2 i hi⟩)
  clear hh hV hA2 h4 HS3 HB3 HU HA
  go_wp2_with fail
  go_loopw [11, 12] (fun s i w' => ∃ j : Nat, j ≤ m ∧ i = .int .i64 j ∧ s = .int .i64 (S (dS (wv f) m K) j) ∧ T2S W g h m (fS (wv f) m K) (fS (wv f) m (K + 1)) w') (fun _ i _ => m - (intOf i).toNat)
  case atStart => exact ⟨0, Nat.zero_le _, rfl, rfl, HT.out⟩
  case round =>
    obtain ⟨j, hj, rfl, rfl, ht⟩ := hrel
    have HT2 := Lib.hid ht
    clear ht HT
    by_cases hlt : j < m
    · have c0 := HT2.out.2.1 j hlt
      have c1 := HT2.out.2.2 j hlt
      have HN := Lib.hid (show S (dS (wv f) m K) (j + 1) = S (dS (wv f) m K) j + dS (wv f) m K j from rfl)
      have hs := S_bd (f := dS (wv f) m K) (M := 1) (n := j) fun i _ => dS_le _ _ _ _
      have hd := dS_le (wv f) m K j
      have e1 := f_abs (wv f) m K j
      have e2 := f_abs (wv f) m (K + 1) j
      rw [dS_next] at e2
      have hy8 := y_le (sz (wv f)) m K j
      obtain ⟨s, hse⟩ : ∃ s, S (dS (wv f) m K) j = s := ⟨_, rfl⟩
      obtain ⟨d, hde⟩ : ∃ d, dS (wv f) m K j = d := ⟨_, rfl⟩
      obtain ⟨y, hye⟩ : ∃ y, yS (sz (wv f)) m K j = y := ⟨_, rfl⟩
      obtain ⟨p, hp⟩ : ∃ p, fS (wv f) m K j = p := ⟨_, rfl⟩
      obtain ⟨q, hq⟩ : ∃ q, fS (wv f) m (K + 1) j = q := ⟨_, rfl⟩
      rw [hse] at hs HN ⊢
      rw [hde] at hd e2 HN
      rw [hye] at hy8 e1 e2
      rw [hp] at e1 c0
      rw [hq] at e2 c1
      have p1 : -8 ≤ p ∧ p ≤ 8 := by omega
      have q1 : -8 ≤ q ∧ q ≤ 8 := by omega
      have M1 := run_max2 p y (maxabs e1)
      have M2 := run_max2 q ((y + d : Nat) : Int) (maxabs e2)
      have k0 : (0 : Int) ≤ (j : Int) := by omega
      have k1 : (j : Int) < (m : Int) := by omega
      clear hse hde hye hp hq e1 e2
      go_wp2_with fail
      go_quiet (fail)
      go_wp2_with fail
      go_roundw
      case rel => exact ⟨j + 1, by omega, by go_num, congrArg (Value.int .i64) (by rw [HN.out]; omega), HT2.out.drewN _⟩
      case measure => simp [intOf]; omega
    · obtain rfl : j = m := by omega
      rw [HD.out]
      go_wp2_with fail
      go_ret
      exact ⟨rfl, HT2.out.1⟩

theorem shapeMore_any (a : Option Addr) (n c : Nat) (f : Nat → Int) (k : Int) (W : World) (hS : Sl .i64 W a n c f) (hf : ∀ i, i < n → (Lit.int .i64 (f i)).wf = true) (w1 : (Lit.int .u8 k).wf = true) :
    Calls Try.prog 6 #[.slice a n c, .int .u8 k] W fun e w' => e = .returned (.bool true) ∧ Below W.heap.size W w' := by
  obtain ⟨k, rfl, hk⟩ := u8_bd w1
  by_cases h0 : n = 0
  · subst h0; exact shapeMore_none a c f k W hS hk
  · exact shapeMore_some a n c f k W hS (i64_all hf) (by omega) hk

theorem shapeOne_none (a : Option Addr) (c : Nat) (f : Nat → Int) (W : World) (hS : Sl .i64 W a 0 c f) :
    Calls Try.prog 7 #[.slice a 0 c] W fun e w' => e = .returned (.bool true) ∧ Below W.heap.size W w' := by
  have HW := Lib.hid (waves_as a 0 c f W hS fun i hi => absurd hi (Nat.not_lt_zero i))
  clear hS
  go_enter Try.func7, Try.ntmps7
  go_wp2_with fail
  refine HW.out.mono ?_
  rintro e w1 ⟨a', c', rfl, ho, h1⟩
  have HB1 := Lib.hid h1
  clear ho h1 HW
  rw [show min 0 8 = 0 from rfl]
  go_wp2_with fail
  refine (awake_yes _).mono ?_
  rintro e w2 ⟨rfl, h2⟩
  have HB2 := Lib.hid (below_trans HB1.out h2 HB1.out.size)
  clear h2 HB1
  go_wp2_with fail
  refine (awake_yes _).mono ?_
  rintro e w3 ⟨rfl, h3⟩
  go_wp2_with fail
  go_ret
  exact ⟨rfl, below_trans HB2.out h3 HB2.out.size⟩

/-- What stands while the first of the greatest waves is found: the waves and the pulses. -/
def O1S (W : World) (b o g n : Nat) (x y : Nat → Int) (w' : World) : Prop := Below W.heap.size W w' ∧ (∀ i, i < n → w'.cell? ⟨b, o + i, none⟩ = some (.int .i64 (x i))) ∧ ∀ i, i < n → w'.cell? ⟨g, i, none⟩ = some (.int .i64 (y i))
theorem O1S.drewN {W w : World} {b o g n : Nat} {x y : Nat → Int} (s : O1S W b o g n x y w) (k : Nat) : O1S W b o g n x y (w.drewN k) := ⟨below_drewN s.1 k, s.2⟩

theorem b_one (u : Nat → Nat) (n i : Nat) : bS u n 0 (i + 1) = if decide (u (bS u n 0 i) < u i) = true then i else bS u n 0 i := by rw [b_next, bt_one]
theorem f_one (x : Nat → Int) (n i : Nat) : (fS x n 1 i != 0) = decide (i = bS (sz x) n 0 n) := by
  have h := f_abs x n 1 i
  rw [show yS (sz x) n 1 i = if i = bS (sz x) n 0 n then yS (sz x) n 0 i + 1 else yS (sz x) n 0 i from y_next _ _ _ _, y_zero] at h
  by_cases e : i = bS (sz x) n 0 n
  · rw [if_pos e] at h
    rw [decide_eq_true e, bne_iff_ne]; omega
  · rw [if_neg e] at h
    rw [decide_eq_false e, bne_eq_false_iff_eq]; omega

set_option maxHeartbeats 800000 in
theorem shapeOne_some (a : Option Addr) (n c : Nat) (f : Nat → Int) (W : World) (hS : Sl .i64 W a n c f) (hf : ∀ i, i < n → -9223372036854775808 ≤ f i ∧ f i ≤ 9223372036854775807) (h0 : 0 < n) :
    Calls Try.prog 7 #[.slice a n c] W fun e w' => e = .returned (.bool true) ∧ Below W.heap.size W w' := by
  obtain ⟨m, hm⟩ : ∃ m, min n 8 = m := ⟨_, rfl⟩
  have hm0 : 0 < m := by omega
  have hm8 : m ≤ 8 := by omega
  have HW := Lib.hid (waves_as a n c f W hS hf)
  rw [hm] at HW
  have HO := Lib.hid (wv_ok f hm0 hm8)
  clear hS hf hm
  go_enter Try.func7, Try.ntmps7
  go_wp2_with fail
  refine HW.out.mono ?_
  rintro e w1 ⟨a', c', rfl, ho, h1⟩
  have HS1 := Lib.hid ho.sl
  have HB1 := Lib.hid h1
  clear ho h1 HW
  have hmz : ((m : Int) == 0) = false := by rw [beq_eq_false_iff_ne]; omega
  have hmm : ((m : Int) != (m : Int)) = false := by simp
  go_wp2_with fail
  refine (awake_yes _).mono ?_
  rintro e w2 ⟨rfl, h2⟩
  have HB2 := Lib.hid (below_trans HB1.out h2 HB1.out.size)
  have HS2 := Lib.hid (HS1.out.below h2)
  clear h2 HB1 HS1
  go_wp2_with fail
  refine (find_yes a' m c' 1 (wv f) _ HS2.out HO.out (by omega)).mono ?_
  rintro e w3 ⟨g, U, rfl, hg, hU, hA, h3⟩
  obtain ⟨b, o, rfl, hc⟩ := (HS2.out.below h3).2.2 hm0
  have HT := Lib.hid (show O1S W b o g m (wv f) (fS (wv f) m 1) w3 from ⟨below_trans HB2.out h3 HB2.out.size, hc, fun i hi => hU.cell hA i hi⟩)
  clear hg hU hA h3 hc HS2 HB2
  go_wp2_with fail
  go_loopw [6, 7] (fun s i w' => ∃ j : Nat, j ≤ m ∧ i = .int .i64 j ∧ s = .int .i64 (bS (sz (wv f)) m 0 j) ∧ O1S W b o g m (wv f) (fS (wv f) m 1) w') (fun _ i _ => m - (intOf i).toNat)
  case atStart => exact ⟨0, Nat.zero_le _, rfl, rfl, HT.out⟩
  case round =>
    obtain ⟨j, hj, rfl, rfl, ht⟩ := hrel
    have HT2 := Lib.hid ht
    clear ht HT
    by_cases hlt : j < m
    · have hlb := b_lt (u := sz (wv f)) (k := 0) hj hm0
      have c0 := HT2.out.2.1 j hlt
      have c1 := HT2.out.2.1 _ hlb
      have HN := Lib.hid (b_one (sz (wv f)) m j)
      have e1 : (wv f j).natAbs = sz (wv f) j := rfl
      have e2 : (wv f (bS (sz (wv f)) m 0 j)).natAbs = sz (wv f) (bS (sz (wv f)) m 0 j) := rfl
      have b1 := wv_bd f j
      have b2 := wv_bd f (bS (sz (wv f)) m 0 j)
      obtain ⟨t, ht⟩ : ∃ t, bS (sz (wv f)) m 0 j = t := ⟨_, rfl⟩
      rw [ht] at hlb c1 HN e2 b2 ⊢
      obtain ⟨u1, hu1⟩ : ∃ u, sz (wv f) j = u := ⟨_, rfl⟩
      obtain ⟨u2, hu2⟩ : ∃ u, sz (wv f) t = u := ⟨_, rfl⟩
      rw [hu1] at e1 HN
      rw [hu2] at e2 HN
      obtain ⟨x1, hx1⟩ : ∃ x, wv f j = x := ⟨_, rfl⟩
      obtain ⟨x2, hx2⟩ : ∃ x, wv f t = x := ⟨_, rfl⟩
      rw [hx1] at e1 c0 b1
      rw [hx2] at e2 c1 b2
      have M1 := run_max2 x1 u1 (maxabs e1)
      have M2 := run_max2 x2 u2 (maxabs e2)
      have k0 : (0 : Int) ≤ (j : Int) := by omega
      have k1 : (j : Int) < (m : Int) := by omega
      have k2 : (0 : Int) ≤ (t : Int) := by omega
      have k3 : (t : Int) < (m : Int) := by omega
      clear ht hu1 hu2 hx1 hx2 e1 e2
      by_cases hlu : u2 < u1
      · have HN1 := Lib.hid (show bS (sz (wv f)) m 0 (j + 1) = j by rw [HN.out, decide_eq_true hlu]; rfl)
        clear HN
        go_wp2_with fail
        go_quiet (fail)
        go_wp2_with fail
        go_roundw
        case rel => exact ⟨j + 1, by omega, by go_num, by rw [HN1.out], HT2.out.drewN _⟩
        case measure => simp [intOf]; omega
      · have HN1 := Lib.hid (show bS (sz (wv f)) m 0 (j + 1) = t by rw [HN.out, decide_eq_false hlu]; rfl)
        clear HN
        go_wp2_with fail
        go_quiet (fail)
        go_wp2_with fail
        go_roundw
        case rel => exact ⟨j + 1, by omega, by go_num, by rw [HN1.out], HT2.out.drewN _⟩
        case measure => simp [intOf]; omega
    · obtain rfl : j = m := by omega
      have HF := Lib.hid (fun i => f_one (wv f) j i)
      have hlb := b_lt (u := sz (wv f)) (k := 0) (Nat.le_refl j) hm0
      obtain ⟨t, ht⟩ : ∃ t, bS (sz (wv f)) j 0 j = t := ⟨_, rfl⟩
      rw [ht] at HF hlb ⊢
      clear ht
      go_wp2_with fail
      go_loop [8] (fun i => ∃ k : Nat, k ≤ j ∧ i = .int .i64 k) (fun i => j - (intOf i).toNat)
      case atStart => exact ⟨0, Nat.zero_le _, rfl⟩
      case round =>
        obtain ⟨k, hk, rfl⟩ := hrel
        by_cases hlt2 : k < j
        · have c0 := HT2.out.2.2 k hlt2
          have hf := HF.out k
          obtain ⟨p, hp⟩ : ∃ p, fS (wv f) j 1 k = p := ⟨_, rfl⟩
          rw [hp] at c0 hf
          have k0 : (0 : Int) ≤ (k : Int) := by omega
          have k1 : (k : Int) < (j : Int) := by omega
          have hb : ((k : Int) == (t : Int)) = decide (k = t) := by
            by_cases e : k = t
            · rw [decide_eq_true e, beq_iff_eq]; omega
            · rw [decide_eq_false e, beq_eq_false_iff_ne]; omega
          obtain ⟨r, hr⟩ : ∃ r, decide (k = t) = r := ⟨_, rfl⟩
          rw [hr] at hf hb
          clear hp hr
          cases r
          · go_wp2_with fail
            go_round
            case rel => exact ⟨k + 1, by omega, by go_num⟩
            case measure => simp [intOf]; omega
          · go_wp2_with fail
            go_round
            case rel => exact ⟨k + 1, by omega, by go_num⟩
            case measure => simp [intOf]; omega
        · obtain rfl : k = j := by omega
          go_wp2_with fail
          go_ret
          exact ⟨rfl, HT2.out.1⟩

theorem shapeOne_any (a : Option Addr) (n c : Nat) (f : Nat → Int) (W : World) (hS : Sl .i64 W a n c f) (hf : ∀ i, i < n → (Lit.int .i64 (f i)).wf = true) :
    Calls Try.prog 7 #[.slice a n c] W fun e w' => e = .returned (.bool true) ∧ Below W.heap.size W w' := by
  by_cases h0 : n = 0
  · subst h0; exact shapeOne_none a c f W hS
  · exact shapeOne_some a n c f W hS (i64_all hf) (by omega)
end Go.Proofs.Ytncieojippiokaa.Sh
