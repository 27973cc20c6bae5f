/- Contracts of the statements' awake and same. -/
import Derived.Test.YtkpbmhppibfpoaaVeE
set_option maxRecDepth 100000
set_option linter.unusedVariables false
namespace Go.Proofs.Ytkpbmhppibfpoaa.Ve
open Go.RowKit Go.Proofs.Ytkpbmhppibfpoaa.Row Go.Maps Go.WideMaps

def oneF (i : Nat) : Int := if i = 1 then 1 else 0
def lessF (i : Nat) : Int := if i = 0 then -1 else 0

theorem sl_of_at {w : World} {g : Nat} {t : TypeId} (h : At w g #[.int .i64 0, .int .i64 1] t) : Sl .i64 w (some ⟨g, 0, none⟩) 2 2 oneF :=
  ⟨Nat.le_refl _, by unfold maxLen; omega, fun _ => ⟨g, 0, rfl, fun i hi => by
    rw [Nat.zero_add, h.cell]
    match i, hi with
    | 0, _ => rfl
    | 1, _ => rfl⟩⟩

set_option maxHeartbeats 400000 in
theorem awake_yes (w : World) : Calls Try.prog 9 #[] w fun e w' => e = .returned (.bool true) ∧ Below w.heap.size w w' := by
  have A0 := At.new w #[.int .i64 0, .int .i64 1] 3
  have HB := Lib.hid ((Below.refl w.heap.size w).alloc (Nat.le_refl _) (.cells #[.int .i64 0, .int .i64 1] 3))
  have HN := Lib.hid (number_yes (some ⟨w.heap.size, 0, none⟩) 2 2 1 oneF _ (sl_of_at A0) (fun i _ => by unfold oneF; split <;> omega) (by decide) (by omega))
  have e0 : num oneF 2 1 = 2 := by decide
  rw [e0] at HN
  clear A0 e0
  go_enter Try.func9, Try.ntmps9
  go_wp2_with fail
  refine HN.out.mono ?_
  rintro e w1 ⟨rfl, h1⟩
  have HB1 := Lib.hid (below_trans HB.out h1 HB.out.size)
  clear h1 HN HB
  go_wp2_with fail
  refine (vector_yes 2 1 0 w1 (by omega) (by omega) (by decide)).mono ?_
  rintro e w2 ⟨f, f1, f2, g, U, rfl, hg, hU, hA, h2⟩
  have hf := num_inj (h := lessF) f1 (by decide) (by rw [f2]; decide)
  have c0 : w2.cell? ⟨g, 0, none⟩ = some (.int .i64 (-1)) := by
    have := hU.cell hA 0 (by omega)
    rw [hf 0 (by omega)] at this
    exact this
  have HB2 := Lib.hid (below_trans HB1.out h2 HB1.out.size)
  have HC := Lib.hid (count_as 2 1 4 w2 (by decide))
  clear f1 f2 hf hg hU hA h2 HB1
  go_wp2_with fail
  refine HC.out.mono ?_
  rintro e w3 ⟨rfl, h3⟩
  go_wp2_with fail
  go_ret
  exact ⟨rfl, below_trans HB2.out h3 HB2.out.size⟩

theorem same_yes (a b : Option Addr) (n c d : Nat) (f g : Nat → Int) (w : World) (hf : Sl .i64 w a n c f) (hg : Sl .i64 w b n d g) (h : ∀ i, i < n → f i = g i) :
    Calls Try.prog 13 #[.slice a n c, .slice b n d] w fun e w' => e = .returned (.int .i64 1) ∧ Below w.heap.size w w' := by
  have HF := Lib.hid hf.2.2
  have HG := Lib.hid hg.2.2
  have HE := Lib.hid h
  have hn : n ≤ 9223372036854775807 := by have := hf.1; have := hf.2.1; unfold maxLen at this; omega
  clear hf hg h
  go_enter Try.func13, Try.ntmps13
  go_wp2_with fail
  go_loopw [5] (fun i w' => ∃ k : Nat, k ≤ n ∧ i = .int .i64 k ∧ Below w.heap.size w w') (fun i _ => n - (intOf i).toNat)
  case atStart => exact ⟨0, Nat.zero_le _, rfl, Below.refl _ _⟩
  case round =>
    obtain ⟨k, hk, rfl, hb⟩ := hrel
    have HB := Lib.hid hb
    clear hb
    by_cases hlt : k < n
    · obtain ⟨b1, o1, rfl, hc1⟩ := HF.out (by omega)
      obtain ⟨b2, o2, rfl, hc2⟩ := HG.out (by omega)
      have c1 := (Below.cell HB.out (block_lt_of_cell (hc1 k hlt))).trans (hc1 k hlt)
      have c2 := (Below.cell HB.out (block_lt_of_cell (hc2 k hlt))).trans (hc2 k hlt)
      rw [← HE.out k hlt] at c2
      obtain ⟨x, hx⟩ : ∃ x, f k = x := ⟨_, rfl⟩
      rw [hx] at c1 c2
      have k0 : (0 : Int) ≤ (k : Int) := by omega
      have k1 : (k : Int) < (n : Int) := by omega
      have e0 : (x != x) = false := by simp
      clear hc1 hc2 hx
      go_wp2_with fail
      go_quiet (fail)
      go_wp2_with fail
      go_roundw
      case rel => exact ⟨k + 1, by omega, by go_num, below_drewN HB.out _⟩
      case measure => simp [intOf]; omega
    · obtain rfl : k = n := by omega
      go_wp2_with fail
      go_ret
      exact ⟨rfl, HB.out⟩
end Go.Proofs.Ytkpbmhppibfpoaa.Ve
