/- VectTurns: the walk. -/
import Derived.Test.YtkpbmhppibfpoaaLaw09A
import Derived.Test.YtkpbmhppibfpoaaOwn
set_option maxRecDepth 100000
set_option linter.unusedVariables false
namespace Go.Proofs.Ytkpbmhppibfpoaa.Ve
open Go.RowKit Go.Proofs.Ytkpbmhppibfpoaa.Row Go.Maps Go.WideMaps

def ng (f : Nat → Int) (i : Nat) : Int := -f i
theorem sm_ng (f : Nat → Int) (n : Nat) : sm (ng f) n = sm f n := S_congr fun j _ => Int.natAbs_neg _
theorem pI_ng (f : Nat → Int) (n : Nat) : pI (ng f) n = pI f n := by unfold pI; rw [sm_ng]
theorem ab_le {f : Nat → Int} {n i : Nat} (hi : i < n) (h : sm f n ≤ 8) : -8 ≤ f i ∧ f i ≤ 8 := by
  have := sm_mono f (show i + 1 ≤ n by omega)
  rw [sm_next] at this
  omega
theorem pI_cases (f : Nat → Int) (n : Nat) : 8 < n ∨ (n ≤ 8 ∧ pI f n = 9) ∨ (n ≤ 8 ∧ pI f n = sm f n ∧ sm f n ≤ 8) := by
  unfold pI
  by_cases h : n ≤ 8
  · rw [if_pos h]; omega
  · omega

theorem vectTurns_many (a : Option Addr) (n c : Nat) (f : Nat → Int) (W : World) (h : 8 < n) :
    Calls Try.prog 7 #[.slice a n c] W fun e w' => e = .returned (.bool true) ∧ Below W.heap.size W w' := by
  go_enter Try.func7, Try.ntmps7
  go_wp2_with fail
  refine (awake_yes _).mono ?_
  rintro e w1 ⟨rfl, h1⟩
  have HB1 := Lib.hid h1
  clear h1
  go_wp2_with fail
  refine (awake_yes _).mono ?_
  rintro e w2 ⟨rfl, h2⟩
  go_wp2_with fail
  go_ret
  exact ⟨rfl, below_trans HB1.out h2 HB1.out.size⟩

theorem vectTurns_not (a : Option Addr) (n c : Nat) (f : Nat → Int) (W : World) (hS : Sl .i64 W a n c f) (hf : ∀ i, i < n → -9223372036854775808 ≤ f i ∧ f i ≤ 9223372036854775807) (h : n ≤ 8) (hp : pI f n = 9) :
    Calls Try.prog 7 #[.slice a n c] W fun e w' => e = .returned (.bool true) ∧ Below W.heap.size W w' := by
  have HS := Lib.hid hS
  have HF := Lib.hid hf
  have HP := Lib.hid hp
  clear hS hf hp
  go_enter Try.func7, Try.ntmps7
  go_wp2_with fail
  refine (awake_yes _).mono ?_
  rintro e w1 ⟨rfl, h1⟩
  have HB1 := Lib.hid h1
  have HC := Lib.hid (pulses_any a n c f w1 (HS.out.below h1) HF.out)
  rw [HP.out] at HC
  clear h1
  go_wp2_with fail
  refine HC.out.mono ?_
  rintro e w2 ⟨rfl, rfl⟩
  go_wp2_with fail
  refine (awake_yes _).mono ?_
  rintro e w2 ⟨rfl, h2⟩
  go_wp2_with fail
  go_ret
  exact ⟨rfl, below_trans HB1.out h2 HB1.out.size⟩

set_option maxHeartbeats 400000 in
theorem vectTurns_some (a : Option Addr) (n c : Nat) (f : Nat → Int) (W : World) (hS : Sl .i64 W a n c f) (hf : ∀ i, i < n → -9223372036854775808 ≤ f i ∧ f i ≤ 9223372036854775807) (h : n ≤ 8) (hp : pI f n = sm f n) (hs : sm f n ≤ 8) :
    Calls Try.prog 7 #[.slice a n c] W fun e w' => e = .returned (.bool true) ∧ Below W.heap.size W w' := by
  obtain ⟨k, hk⟩ : ∃ k, sm f n = k := ⟨_, rfl⟩
  have HT := Lib.hid (num_turn hk)
  have HL := Lib.hid (V_le h (hk ▸ hs))
  have HK := Lib.hid (show cI n k = V n k from cI_nat h (hk ▸ hs))
  have HAB := Lib.hid (fun i (hi : i < n) => ab_le hi hs)
  have HP := Lib.hid (hp.trans hk)
  have HP2 := Lib.hid ((pI_ng f n).trans (hp.trans hk))
  have hk8 : k ≤ 8 := hk ▸ hs
  have HS := Lib.hid hS
  have HF := Lib.hid hf
  clear hS hf hp hs hk
  go_enter Try.func7, Try.ntmps7
  go_wp2_with fail
  refine (awake_yes _).mono ?_
  rintro e w1 ⟨rfl, h1⟩
  have HB1 := Lib.hid h1
  have HS1 := Lib.hid (HS.out.below h1)
  have HC := Lib.hid (pulses_any a n c f w1 HS1.out HF.out)
  rw [HP.out] at HC
  clear h1 HS
  go_wp2_with fail
  refine HC.out.mono ?_
  rintro e w2 ⟨rfl, rfl⟩
  clear HC
  go_wp2_with fail
  go_loopw [3, 4] (fun z i w' => ∃ (j : Nat) (a' : Option Addr) (c' : Nat), j ≤ n ∧ i = .int .i64 j ∧ z = .slice a' j c' ∧ Below w1.heap.size w1 w' ∧ OwnS w' w1.heap.size a' j c' (ng f)) (fun _ i _ => n - (intOf i).toNat)
  case atStart => exact ⟨0, none, 0, Nat.zero_le _, rfl, rfl, Below.refl _ _, OwnS.nil _ _ _⟩
  case round =>
    obtain ⟨j, a', c', hj, rfl, rfl, hb, ho⟩ := hrel
    have HB := Lib.hid hb
    have HO := Lib.hid ho
    clear hb ho
    by_cases hlt : j < n
    · obtain ⟨b, o, rfl, hc⟩ := HS1.out.2.2 (by omega)
      have c0 := (Below.cell HB.out (block_lt_of_cell (hc j hlt))).trans (hc j hlt)
      clear hc
      obtain ⟨x1, x2⟩ := HAB.out j hlt
      have HN := Lib.hid (show ng f j = -f j from rfl)
      obtain ⟨x, hx⟩ : ∃ x, f j = x := ⟨_, rfl⟩
      rw [hx] at c0 x1 x2 HN
      clear hx
      have ha : Below wr.heap.size wr (wr.alloc (.cells #[.int .i64 (-x)] 3)) := (Below.refl _ _).alloc (Nat.le_refl _) _
      have HO1 := Lib.hid (HO.out.below ha)
      have HN1 := Lib.hid (show (wr.alloc (.cells #[.int .i64 (-x)] 3)).cell? ⟨wr.heap.size, 0, none⟩ = some (.int .i64 (ng f j)) by rw [HN.out]; exact cell_of_row _ _ 0 _ _ _ (At.new wr #[.int .i64 (-x)] 3))
      have HB2 := Lib.hid (HB.out.alloc HB.out.size (.cells #[.int .i64 (-x)] 3))
      have HZ1 := Lib.hid HB2.out.size
      have HK1 := Lib.hid (show j + 1 ≤ 1000000000 by omega)
      clear ha
      go_wp2_with (at_builtin; refine wpList_append_one rfl (.tmp 28) (.tmp 34) rfl w1.heap.size (ng f) a' j c' rfl HO1.out wr.heap.size rfl HN1.out HK1.out HZ1.out ?_; intro g c2 w2 hg hb2 hgr hat)
      have HB3 := Lib.hid (HB2.out.trans hb2)
      have HG := Lib.hid hg
      clear hg hb2 hgr hat
      go_roundw
      case rel => exact ⟨j + 1, some ⟨g, 0, none⟩, c2, by omega, by go_num, rfl, HB3.out, .inr ⟨g, rfl, HG.out⟩⟩
      case measure => simp [intOf]; omega
    · obtain rfl : j = n := by omega
      have HSL := Lib.hid HO.out.sl
      have HSW := Lib.hid (HS1.out.below HB.out)
      have HC1 := Lib.hid (number_yes a j c k f wr HSW.out HF.out HP.out hk8)
      have HBB := Lib.hid (below_trans HB1.out HB.out HB1.out.size)
      clear HS1 HO HB1 HB
      have hnl := V_le (n := j) (k := k) h hk8
      obtain ⟨p, hp⟩ : ∃ p, num f j k = p := ⟨_, rfl⟩
      obtain ⟨q, hq⟩ : ∃ q, num (fun i => -f i) j k = q := ⟨_, rfl⟩
      obtain ⟨v, hv⟩ : ∃ v, V j k = v := ⟨_, rfl⟩
      rw [hp, hq, hv] at HT
      rw [hp] at HC1
      rw [hv] at HK hnl
      have HQ := Lib.hid (show num (ng f) j k = q from hq)
      have ht := HT.out
      have e1 : (v : Int) - 1 = (p : Int) + q := by omega
      clear hp hq hv HT
      go_wp2_with fail
      refine HC1.out.mono ?_
      rintro e w3 ⟨rfl, h3⟩
      have HC2 := Lib.hid (number_yes a' j c' k (ng f) w3 (HSL.out.below h3) (fun i hi => by have := HAB.out i hi; unfold ng; omega) HP2.out hk8)
      rw [HQ.out] at HC2
      have HB4 := Lib.hid (below_trans HBB.out h3 HBB.out.size)
      have HS3 := Lib.hid (HSW.out.below h3)
      clear h3 HBB HSW HSL HC1
      go_wp2_with fail
      refine HC2.out.mono ?_
      rintro e w4 ⟨rfl, h4⟩
      have HB5 := Lib.hid (below_trans HB4.out h4 HB4.out.size)
      have HC3 := Lib.hid (pulses_any a j c f w4 (HS3.out.below h4) HF.out)
      rw [HP.out] at HC3
      clear h4 HB4 HS3 HC2
      go_wp2_with fail
      refine HC3.out.mono ?_
      rintro e w5 ⟨rfl, rfl⟩
      go_wp2_with fail
      refine (count_as _ _ _ _ HK.out).mono ?_
      rintro e w6 ⟨rfl, h6⟩
      go_wp2_with fail
      go_ret
      exact ⟨rfl, below_trans HB5.out h6 HB5.out.size⟩

theorem vectTurns_any (a : Option Addr) (n c : Nat) (f : Nat → Int) (W : World) (hS : Sl .i64 W a n c f) (hf : ∀ i, i < n → (Lit.int .i64 (f i)).wf = true) :
    Calls Try.prog 7 #[.slice a n c] W fun e w' => e = .returned (.bool true) ∧ Below W.heap.size W w' := by
  rcases pI_cases f n with h | ⟨h, h1⟩ | ⟨h, h1, h2⟩
  · exact vectTurns_many a n c f W h
  · exact vectTurns_not a n c f W hS (i64_all hf) h h1
  · exact vectTurns_some a n c f W hS (i64_all hf) h h1 h2
end Go.Proofs.Ytkpbmhppibfpoaa.Ve
