/- A lost frame, as mathematics: the state behind a right one, what is heard, and what they become. -/
import Derived.Test.YtfpmajlgbipbmaaStP
set_option linter.unusedVariables false
namespace Go.Proofs.Ytfpmajlgbipbmaa.Lo
open Go.RowKit Go.Proofs.Ytfpmajlgbipbmaa.Row Go.Proofs.Ytfpmajlgbipbmaa.Md Go.Proofs.Ytfpmajlgbipbmaa.Tl Go.Proofs.Ytfpmajlgbipbmaa.Sta

/-- The halved waves. -/
def hvF (u : Nat → Int) (l : Int) (i : Nat) : Int := if 8 ≤ l then 0 else IntKind.i64.wrap ((u i).tdiv 2)
/-- The lowered levels, of any numbers. -/
def lwF (v : Nat → Int) (i : Nat) : Int := max (IntKind.i64.wrap (v i - 1)) 0
/-- One more is lost. -/
def mrZ (l : Int) : Int := min (l + 1) 255
def uF (f : Nat → Int) : Nat → Int := hvF (fun i => f (21 + i)) (f 37)
def vF (f : Nat → Int) : Nat → Int := lwF (fun i => f (17 + i))
/-- The state behind a lost frame, and its sound. -/
def nlF (f : Nat → Int) : Nat → Int := nxF f (vF f) (uF f) (mrZ (f 37))
def slF (f : Nat → Int) : Nat → Int := soF f (uF f)
/-- The state behind k of them. -/
def stN (f : Nat → Int) : Nat → Nat → Int
  | 0 => f
  | k + 1 => nlF (stN f k)
theorem stN_add (f : Nat → Int) (j : Nat) : ∀ k, stN (stN f j) k = stN f (j + k)
  | 0 => rfl
  | k + 1 => by show nlF (stN (stN f j) k) = nlF (stN f (j + k)); rw [stN_add f j k]

theorem half_ab {x b : Int} (h : ab x ≤ b) : ab (x.tdiv 2) ≤ b := by
  unfold ab at *
  rw [Int.natAbs_tdiv]
  have : x.natAbs / 2 ≤ x.natAbs := Nat.div_le_self _ _
  show ((x.natAbs / 2 : Nat) : Int) ≤ b
  omega
theorem lw_in {v : Nat → Int} {i : Nat} (h : 0 ≤ v i ∧ v i ≤ 20) : lwF v i = max (v i - 1) 0 := by
  unfold lwF; rw [IntWalk.i64_in _ (by omega)]
theorem half_in {x : Int} (h : ab x ≤ 1048576) : IntKind.i64.wrap (x.tdiv 2) = x.tdiv 2 := by
  have := le_ab (half_ab h)
  exact IntWalk.i64_in _ (by omega)
theorem hv_le {u : Nat → Int} {l : Int} (h : Le 1048576 u) : Le 1048576 (hvF u l) := fun i hi => by
  unfold hvF
  split
  · unfold ab; omega
  · rw [half_in (h i hi)]; exact half_ab (h i hi)
theorem th_lost {f : Nat → Int} (h : Rt f) : Rt (thF (vF f) (uF f) (mrZ (f 37))) := by
  obtain ⟨h1, h2, h3, h4, h5⟩ := h
  refine ⟨fun i hi => ?_, ?_, fun i hi => ?_, fun i hi => ?_, ?_⟩ <;> unfold thF
  · rw [stF_mem _ _ _ _ _ hi]; omega
  · rw [stF_last]; omega
  · rw [stF_lev _ _ _ _ _ hi]
    have := h3 i hi
    unfold vF
    rw [lw_in (v := fun i => f (17 + i)) this]
    omega
  · dsimp only; rw [stF_wav _ _ _ _ _ hi]; exact hv_le h4 i hi
  · rw [stF_lost]; unfold mrZ; omega
theorem nl_right {f : Nat → Int} (h : Rt f) : Rt (nlF f) := nx_right (th_lost h)
theorem st_right {f : Nat → Int} (h : Rt f) : ∀ k, Rt (stN f k)
  | 0 => h
  | k + 1 => nl_right (st_right h k)
theorem sl_bd (f : Nat → Int) (i : Nat) : -32768 ≤ slF f i ∧ slF f i ≤ 32767 := ct16_bd _

/-! The numbers of a state, k frames on. -/
theorem nl_lost (f : Nat → Int) : nlF f 37 = mrZ (f 37) := by unfold nlF nxF; rw [stF_lost]
theorem nl_lev {f : Nat → Int} (h : Rt f) {i : Nat} (hi : i < 4) : nlF f (17 + i) = max (f (17 + i) - 1) 0 := by
  unfold nlF nxF
  rw [stF_lev _ _ _ _ _ hi]
  exact lw_in (v := fun i => f (17 + i)) (h.2.2.1 i hi)
theorem nl_wav {f : Nat → Int} (h : Rt f) {i : Nat} (hi : i < 16) : nlF f (21 + i) = if 8 ≤ f 37 then 0 else (f (21 + i)).tdiv 2 := by
  unfold nlF nxF
  rw [stF_wav _ _ _ _ _ hi]
  unfold uF hvF
  rw [half_in (h.2.2.2.1 i hi)]
theorem nl_mem (f : Nat → Int) {i : Nat} (hi : i < 16) : nlF f i = ct (bS (uF f) (16 + i)) := by unfold nlF nxF; rw [stF_mem _ _ _ _ _ hi]
theorem nl_last (f : Nat → Int) : nlF f 16 = lyF f (uF f) 15 := by unfold nlF nxF; rw [stF_last]

theorem st_lost {f : Nat → Int} (h : Rt f) : ∀ k : Nat, stN f k 37 = min (f 37 + k) 255
  | 0 => by show f 37 = _; have := h.2.2.2.2; omega
  | k + 1 => by show nlF (stN f k) 37 = _; rw [nl_lost, st_lost h k]; unfold mrZ; omega
theorem st_lev {f : Nat → Int} (h : Rt f) {i : Nat} (hi : i < 4) : ∀ k : Nat, stN f k (17 + i) = max (f (17 + i) - k) 0
  | 0 => by show f (17 + i) = _; have := h.2.2.1 i hi; omega
  | k + 1 => by show nlF (stN f k) (17 + i) = _; rw [nl_lev (st_right h k) hi, st_lev h hi k]; omega
/-- A number halved k times. -/
def hlN (x : Int) : Nat → Int
  | 0 => x
  | k + 1 => (hlN x k).tdiv 2
theorem st_wav {f : Nat → Int} (h : Rt f) {i : Nat} (hi : i < 16) : ∀ k : Nat, f 37 + k ≤ 8 → stN f k (21 + i) = hlN (f (21 + i)) k
  | 0, _ => rfl
  | k + 1, hk => by
    show nlF (stN f k) (21 + i) = _
    rw [nl_wav (st_right h k) hi, st_lost h k, if_neg (by omega), st_wav h hi k (by omega)]
    rfl
theorem st_none {f : Nat → Int} (h : Rt f) {k : Nat} (hk : 8 ≤ k) (i : Nat) (hi : i < 16) : stN f (k + 1) (21 + i) = 0 := by
  show nlF (stN f k) (21 + i) = _
  rw [nl_wav (st_right h k) hi, st_lost h k, if_pos (by have := h.2.2.2.2; omega)]
theorem u_none {f : Nat → Int} (h : Rt f) {k : Nat} (hk : 8 ≤ k) : uF (stN f k) = fun _ => 0 := by
  funext i
  unfold uF hvF
  rw [st_lost h k, if_pos (by have := h.2.2.2.2; omega)]
theorem st_mem {f : Nat → Int} (h : Rt f) {k : Nat} (hk : 8 ≤ k) (i : Nat) (hi : i < 16) : stN f (k + 1) i = 0 := by
  show nlF (stN f k) i = _
  rw [nl_mem _ hi, u_none h hk, bs_zero _ (by omega), ct_zero]
theorem st_die {f : Nat → Int} (h : Rt f) : ∀ k, stN f (9 + k) 16 = dieS (stN f 9 16) (16 * k)
  | 0 => rfl
  | k + 1 => by
    show nlF (stN f (9 + k)) 16 = _
    rw [nl_last, u_none h (k := 9 + k) (by omega), ly_die (fun i hi => by rw [show 9 + k = (8 + k) + 1 by omega]; exact st_mem h (by omega) i hi) (st_right h _).2.1 15 (by omega), st_die h k, die_add]
    rfl
theorem die_more {n : Int} (h : -2097152 ≤ n ∧ n ≤ 2097151) {k : Nat} (hk : 320 ≤ k) : dieS n k = 0 := by
  obtain ⟨j, rfl⟩ : ∃ j, k = 320 + j := ⟨k - 320, by omega⟩
  rw [← die_add, dies h, die_zero]
/-- Behind so many nothing is heard. -/
theorem sl_none {f : Nat → Int} (h : Rt f) {k : Nat} (hk : 29 ≤ k) (i : Nat) (hi : i < 16) : slF (stN f k) i = 0 := by
  obtain ⟨j, rfl⟩ : ∃ j, k = 9 + (20 + j) := ⟨k - 29, by omega⟩
  unfold slF soF
  rw [u_none h (by omega), ly_die (fun i hi => by rw [show 9 + (20 + j) = (8 + (20 + j)) + 1 by omega]; exact st_mem h (by omega) i hi) (st_right h _).2.1 i hi, st_die h, die_add, die_more (st_right h 9).2.1 (by omega)]
  decide

/-! What hangs on a state's own numbers alone. -/
theorem u_ext {f g : Nat → Int} (e : ∀ i, i < 38 → f i = g i) (i : Nat) (hi : i < 16) : uF f i = uF g i := by
  unfold uF hvF
  dsimp only
  rw [e 37 (by omega), e (21 + i) (by omega)]
/-- The zero state behind nothing. -/
theorem u_zero : uF (fun _ => 0) = fun _ => 0 := by
  funext i
  show (if (8 : Int) ≤ 0 then (0 : Int) else IntKind.i64.wrap ((0 : Int).tdiv 2)) = 0
  decide
theorem v_zero : vF (fun _ => 0) = fun _ => 0 := by
  funext i
  show max (IntKind.i64.wrap (0 - 1)) 0 = 0
  decide
theorem sl_zero (k : Nat) (hk : k < 16) : slF (fun _ => 0) k = 0 := by
  unfold slF; rw [u_zero]; exact so_zero k hk
theorem nl_zero (k : Nat) (hk : k < 38) : nlF (fun _ => 0) k = stF (fun _ => 0) 0 (fun _ => 0) (fun _ => 0) 1 k := by
  unfold nlF
  rw [u_zero, v_zero]
  unfold nxF stF
  split
  · dsimp only
    rw [bs_zero _ (by omega), ct_zero]
  · split
    · exact ly_zero 15 (by omega)
    · split
      · rfl
      · split <;> rfl
end Go.Proofs.Ytfpmajlgbipbmaa.Lo
