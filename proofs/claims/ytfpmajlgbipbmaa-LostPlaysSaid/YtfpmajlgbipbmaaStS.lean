/- What is heard behind two states that are alike in Mem and Last. -/
import Derived.Test.YtfpmajlgbipbmaaStP
import Derived.Test.YtfpmajlgbipbmaaStR
set_option maxRecDepth 100000
set_option linter.unusedVariables false
namespace Go.Proofs.Ytfpmajlgbipbmaa.Sta
open Go.RowKit Go.Proofs.Ytfpmajlgbipbmaa.Row Go.Proofs.Ytfpmajlgbipbmaa.Md Go.Proofs.Ytfpmajlgbipbmaa.Tl

theorem bool_of (P : Prop) : ∃ r : Bool, r = true ↔ P := by
  by_cases h : P
  · exact ⟨true, by simp [h]⟩
  · exact ⟨false, by simp [h]⟩
theorem th_right {g u : Nat → Int} {z : Int} (hg : Rt g) (hu : Le 1048576 u) (h0 : 0 ≤ z) (h1 : z ≤ 255) : Rt (thF (fun i => g (17 + i)) u z) := by
  refine ⟨fun i hi => ?_, ?_, fun i hi => ?_, fun i hi => ?_, ?_⟩ <;> unfold thF
  · rw [stF_mem _ _ _ _ _ hi]; omega
  · rw [stF_last]; omega
  · rw [stF_lev _ _ _ _ _ hi]; exact hg.2.2.1 i hi
  · dsimp only; rw [stF_wav _ _ _ _ _ hi]; exact hu i hi
  · rw [stF_lost]; omega
theorem ly_ext {f g u : Nat → Int} (h : ∀ i, i < 17 → f i = g i) (k : Nat) (hk : k < 16) : lyF f u k = lyF g u k := by
  unfold lyF laS
  rw [h 16 (by omega)]
  refine out_ext (n := 16) (fun i hi => ?_) (k + 1) (by omega)
  unfold ovS
  rw [h i (by omega)]
theorem so_ext {f g u : Nat → Int} (h : ∀ i, i < 17 → f i = g i) (k : Nat) (hk : k < 16) : soF f u k = soF g u k := by
  unfold soF; rw [ly_ext h k hk]
/-- Two calls of Next that differ in what is not heard. -/
theorem next_pair {T X V V' U : Array Value} {f x v v' u : Nat → Int} {z : Int} (hT : IsRow 38 f T) (hX : IsRow 38 x X) (hV : IsRow 4 (fun i => v (17 + i)) V) (hV' : IsRow 4 (fun i => v' (17 + i)) V') (hU : IsRow 16 u U) (hf : Rt f) (hx : Rt x) (hv : Rt v) (hv' : Rt v') (h0 : 0 ≤ z) (h1 : z ≤ 255) (he : ∀ i, i < 17 → f i = x i) :
    ∃ R Q Q' h q q', (∀ w, Calls Try.prog 17 #[.agg T, .agg V, .agg U, .int .i64 0] w fun e w' => e = .returned (.tuple #[.agg R, .agg Q]) ∧ Below w.heap.size w w') ∧
      (∀ w, Calls Try.prog 17 #[.agg X, .agg V', .agg U, .int .i64 z] w fun e w' => e = .returned (.tuple #[.agg R, .agg Q']) ∧ Below w.heap.size w w') ∧ IsRow 16 h R ∧ IsRow 38 q Q ∧ IsRow 38 q' Q' ∧ (∀ k, k < 17 → q k = q' k) ∧ (∀ k, k < 16 → q (21 + k) = q' (21 + k)) := by
  by_cases hu : Le 1048576 u
  · obtain ⟨R, hR⟩ : ∃ R, IsRow 16 (soF f u) R := ⟨_, isRow _ _⟩
    obtain ⟨Q, hQ⟩ : ∃ Q, IsRow 38 (nxF f (fun i => v (17 + i)) u 0) Q := ⟨_, isRow _ _⟩
    obtain ⟨Q', hQ'⟩ : ∃ Q, IsRow 38 (nxF x (fun i => v' (17 + i)) u z) Q := ⟨_, isRow _ _⟩
    refine ⟨R, Q, Q', _, _, _, next_as (next_yes T V U f _ u 0 hT hV hU hf (th_right hv hu (by omega) (by omega))) hR hQ,
      next_as (next_yes X V' U x _ u z hX hV' hU hx (th_right hv' hu h0 h1)) (hR.ext fun k hk => so_ext he k hk) hQ', hR, hQ, hQ', fun k hk => ?_, fun k hk => ?_⟩ <;> unfold nxF
    · by_cases c : k < 16
      · rw [stF_mem _ _ _ _ _ c, stF_mem _ _ _ _ _ c]
      · obtain rfl : k = 16 := by omega
        rw [stF_last, stF_last]
        exact ly_ext he 15 (by omega)
    · rw [stF_wav _ _ _ _ _ hk, stF_wav _ _ _ _ _ hk]
  · have no : ∀ (y : Nat → Int) (a : Int), ¬ Rt (thF y u a) := fun y a h => hu (th_le h)
    obtain ⟨R, hR⟩ : ∃ R, IsRow 16 (fun _ => 0) R := ⟨_, isRow _ _⟩
    obtain ⟨Q, hQ⟩ : ∃ Q, IsRow 38 (fun _ => 0) Q := ⟨_, isRow _ _⟩
    exact ⟨R, Q, Q, _, _, _, next_as (next_no T V U f _ u 0 hT hV hU (.inr ⟨hf, no _ _⟩)) hR hQ,
      next_as (next_no X V' U x _ u z hX hV' hU (.inr ⟨hx, no _ _⟩)) hR hQ, hR, hQ, hQ, fun _ _ => rfl, fun _ _ => rfl⟩
end Go.Proofs.Ytfpmajlgbipbmaa.Sta
