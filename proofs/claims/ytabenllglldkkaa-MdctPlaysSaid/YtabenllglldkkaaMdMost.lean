/- The greatest number of several frames: contract of the statements' most; a slice of rows written out. -/
import Derived.Test.YtabenllglldkkaaMdPar3
namespace Go.Proofs.Ytabenllglldkkaa.Md
open Go.RowKit Go.Proofs.Ytabenllglldkkaa.Ang

def mx1 (m : Int) (g : Nat → Int) : Nat → Int
  | 0 => m
  | k + 1 => max (mx1 m g k) (ab (g k))
def mx (G : Nat → Nat → Int) : Nat → Int
  | 0 => 0
  | i + 1 => mx1 (mx G i) (G i) 16

theorem mx1_ge (m : Int) (g : Nat → Int) (n : Nat) : m ≤ mx1 m g n ∧ ∀ k, k < n → ab (g k) ≤ mx1 m g n := by
  induction n with
  | zero => exact ⟨Int.le_refl _, fun k hk => by omega⟩
  | succ n ih =>
    refine ⟨?_, fun k hk => ?_⟩
    · have := ih.1; simp only [mx1]; omega
    · simp only [mx1]
      by_cases e : k = n
      · subst e; omega
      · have := ih.2 k (by omega); omega
theorem mx1_le (m B : Int) (g : Nat → Int) (n : Nat) (hm : m ≤ B) (h : ∀ k, k < n → ab (g k) ≤ B) : mx1 m g n ≤ B := by
  induction n with
  | zero => exact hm
  | succ n ih =>
    have h1 := ih fun k hk => h k (by omega)
    have h2 := h n (by omega)
    simp only [mx1]
    omega
theorem mx_ge (G : Nat → Nat → Int) (n : Nat) : 0 ≤ mx G n ∧ ∀ i, i < n → Le (mx G n) (G i) := by
  induction n with
  | zero => exact ⟨Int.le_refl _, fun i hi => by omega⟩
  | succ n ih =>
    obtain ⟨h1, h2⟩ := mx1_ge (mx G n) (G n) 16
    refine ⟨Int.le_trans ih.1 h1, fun i hi => ?_⟩
    by_cases e : i = n
    · subst e; exact h2
    · exact fun k hk => Int.le_trans (ih.2 i (by omega) k hk) h1
theorem mx_le (G : Nat → Nat → Int) (B : Int) (n : Nat) (hB : 0 ≤ B) (h : ∀ i, i < n → Le B (G i)) : mx G n ≤ B := by
  induction n with
  | zero => exact hB
  | succ n ih => exact mx1_le _ _ _ _ (ih fun i hi => h i (by omega)) (h n (by omega))

theorem run_max (m x r : Int) (h : max m (ab x) = r) (w : World) :
    Sem.run Try.prog (Builtin.max_ #[3, 3, 3] 3 #[.int .i64 m, .int .i64 x, .int .i64 (-x)]) w = .ok (.int .i64 r) w := by
  have e : (if (if m < x then x else m) < -x then -x else if m < x then x else m) = r := by
    rw [← h]
    unfold ab
    by_cases h1 : m < x
    · rw [if_pos h1]; split <;> omega
    · rw [if_neg h1]; split <;> omega
  rw [← e]
  simp [Builtin.max_, Builtin.max2]

/-- Rows of 16, one behind the other. -/
def Rows16 (n : Nat) (G : Nat → Nat → Int) (C : Array Value) : Prop := C.size = n * 16 ∧ ∀ i, i < n → ∀ k, k < 16 → C[i * 16 + k]? = some (.int .i64 (G i k))

set_option maxRecDepth 100000 in
set_option maxHeartbeats 1000000 in
theorem most_any (n b : Nat) (G : Nat → Nat → Int) (C : Array Value) (hC : Rows16 n G C) (hn : n ≤ 3) (hG : ∀ i, i < n → Le 1099511627776 (G i)) (w : World) (hA : At w b C 24) :
    Calls Try.prog 13 #[.slice (some ⟨b, 0, none⟩) n n] w fun e w' => e = .returned (.int .i64 (mx G n)) ∧ Below w.heap.size w w' := by
  have HC := Lib.hid hC
  have HG := Lib.hid hG
  have HA := Lib.hid hA
  clear hC hG hA
  go_enter Try.func13, Try.ntmps13
  go_wp2
  go_loopw [3, 4] (fun m i w' => ∃ j : Nat, j ≤ n ∧ i = .int .i64 j ∧ m = .int .i64 (mx G j) ∧ Below w.heap.size w w') (fun _ i _ => n - (intOf i).toNat)
  case atStart => exact ⟨0, Nat.zero_le _, rfl, rfl, Below.refl _ _⟩
  case round =>
    obtain ⟨j, hj, rfl, rfl, hb⟩ := hrel
    by_cases hjn : j < n
    · obtain ⟨wo, rfl⟩ : ∃ wo : World, wo = wr := ⟨_, rfl⟩
      go_wp2
      go_loopw [3, 5] (fun m i w' => ∃ k : Nat, k ≤ 16 ∧ i = .int .i64 k ∧ m = .int .i64 (mx1 (mx G j) (G j) k) ∧ Below w.heap.size w w') (fun _ i _ => 16 - (intOf i).toNat)
      case atStart => exact ⟨0, Nat.zero_le _, rfl, rfl, hb⟩
      case round =>
        obtain ⟨k, hk, rfl, rfl, hb'⟩ := hrel
        by_cases hk16 : k < 16
        · have hc := (cell_of_row _ _ (j * 16 + k) _ _ _ (HA.out.below hb' HA.out.lt)).trans (HC.out.2 j hjn k hk16)
          obtain ⟨x1, x2⟩ := le_ab (HG.out j hjn k hk16)
          obtain ⟨x, hx⟩ : ∃ x, G j k = x := ⟨_, rfl⟩
          obtain ⟨m, hm⟩ : ∃ m, mx1 (mx G j) (G j) k = m := ⟨_, rfl⟩
          obtain ⟨r, hr⟩ : ∃ r, max m (ab x) = r := ⟨_, rfl⟩
          have HR := Lib.hid (show mx1 (mx G j) (G j) (k + 1) = r by simp only [mx1]; rw [hm, hx, hr])
          have hmax := run_max m x r hr
          rw [hx] at hc x1 x2
          rw [hm]
          have k1 : (k : Int) < 16 := by omega
          have j1 : (j : Int) < (n : Int) := by omega
          have hneg : IntKind.i64.wrap (-x) = -x := IntWalk.i64_in _ (by omega)
          clear hx hm hr
          go_wp2_with fail
          go_quiet (fail)
          go_wp2
          go_roundw
          case rel => exact ⟨k + 1, by omega, by go_num, by rw [HR.out], below_drewN hb' _⟩
          case measure => simp [intOf]; omega
        · obtain rfl : k = 16 := by omega
          go_wp2
          go_roundw
          case rel => exact ⟨j + 1, by omega, by go_num, rfl, hb'⟩
          case measure => simp [intOf]; omega
    · obtain rfl : j = n := by omega
      go_wp2
      go_ret
      exact ⟨rfl, hb⟩
end Go.Proofs.Ytabenllglldkkaa.Md
