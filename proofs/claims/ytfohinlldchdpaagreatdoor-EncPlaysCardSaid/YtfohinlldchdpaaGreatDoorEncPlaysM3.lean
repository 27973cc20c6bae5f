/- Texts of the walk, one behind the other. -/
import Derived.ProofKit

section
/- The plain mathematics of layer 3: the cosines as whole numbers, what they add up to. -/
namespace Go.Proofs.YtfohinlldchdpaaGreatDoor.Ang

/-- The arc of u, its square, and the square's square, in fine parts. -/
def xS (u : Int) : Int := u * 105414357 / 2
def yS (u : Int) : Int := xS u * xS u / 1073741824
def qS (u : Int) : Int := yS u * yS u / 1073741824
def fcS (u : Int) : Int := 1073741824 - yS u / 2 + yS u * yS u / 25769803776 - qS u * yS u / 773094113280 + qS u * qS u / 43293270343680
def fsS (u : Int) : Int := xS u - xS u * yS u / 6442450944 + xS u * qS u / 128849018880 - xS u * (qS u * yS u / 1073741824) / 5411658792960
def near (x : Int) : Int := (x + 16384) / 32768

/-- The cosine up to a right angle. -/
def quS (u : Int) : Int := if u ≤ 16 then near (fcS u) else near (fsS (32 - u))
/-- The cosine from 0 to all round. -/
def c0 (u : Int) : Int :=
  if 64 < u then (if 32 < 128 - u then -quS (64 - (128 - u)) else quS (128 - u))
  else (if 32 < u then -quS (64 - u) else quS u)
/-- The cosine of an angle. -/
def cosS (u : Int) : Int := c0 (u % 128)
def sinS (u : Int) : Int := cosS (u - 32)

theorem cosS_eq {u v : Int} (h : u % 128 = v % 128) : cosS u = cosS v := by unfold cosS; rw [h]

theorem all128 (P : Int → Prop) (h : ∀ k : Fin 128, P (k.val : Int)) (u : Int) : P (u % 128) := by
  have := h ⟨(u % 128).toNat, by omega⟩
  simpa [show ((u % 128).toNat : Int) = u % 128 by omega] using this

theorem cos_bd (u : Int) : -32768 ≤ cosS u ∧ cosS u ≤ 32768 :=
  all128 (fun v => -32768 ≤ c0 v ∧ c0 v ≤ 32768) (by decide +kernel) u

/-- The window. -/
def winS (n : Nat) : Int := sinS (2 * n + 1)
theorem window (k : Nat) (hk : k < 16) : winS k = winS (31 - k) ∧ 0 < winS k ∧ (k ≠ 15 → winS k < winS (k + 1)) ∧ winS k * winS k + winS (k + 16) * winS (k + 16) - 1073741824 ≤ 262144 ∧ -262144 ≤ winS k * winS k + winS (k + 16) * winS (k + 16) - 1073741824 := by
  have h : ∀ k : Fin 16, winS k.val = winS (31 - k.val) ∧ 0 < winS k.val ∧ (k.val ≠ 15 → winS k.val < winS (k.val + 1)) ∧ winS k.val * winS k.val + winS (k.val + 16) * winS (k.val + 16) - 1073741824 ≤ 262144 ∧ -262144 ≤ winS k.val * winS k.val + winS (k.val + 16) * winS (k.val + 16) - 1073741824 := by decide +kernel
  exact h ⟨k, hk⟩

/-- Bounds of all that is made on the way, so that no number of 64 bits wraps. -/
theorem fineB (u : Int) (h0 : 0 ≤ u) (h1 : u ≤ 16) :
    (0 ≤ xS u ∧ xS u ≤ 1073741824) ∧ (0 ≤ yS u ∧ yS u ≤ 1073741824) ∧ (0 ≤ qS u ∧ qS u ≤ 1073741824) ∧ (0 ≤ fcS u ∧ fcS u ≤ 1099511627776) ∧ (0 ≤ fsS u ∧ fsS u ≤ 1099511627776) := by
  have h : ∀ k : Fin 17, (0 ≤ xS k.val ∧ xS k.val ≤ 1073741824) ∧ (0 ≤ yS k.val ∧ yS k.val ≤ 1073741824) ∧ (0 ≤ qS k.val ∧ qS k.val ≤ 1073741824) ∧ (0 ≤ fcS k.val ∧ fcS k.val ≤ 1099511627776) ∧ (0 ≤ fsS k.val ∧ fsS k.val ≤ 1099511627776) := by decide +kernel
  have := h ⟨u.toNat, by omega⟩
  simpa [show (u.toNat : Int) = u by omega] using this

theorem mulB (a b : Int) (h1 : 0 ≤ a) (h2 : a ≤ 1073741824) (h3 : 0 ≤ b) (h4 : b ≤ 1073741824) : 0 ≤ a * b ∧ a * b ≤ 1152921504606846976 := by
  refine ⟨Int.mul_nonneg h1 h3, ?_⟩
  have := Int.mul_le_mul h2 h4 h3 (by omega)
  simpa using this
end Go.Proofs.YtfohinlldchdpaaGreatDoor.Ang
end

section
/- The plain mathematics of layer 4: waves as sums of whole numbers, and what rounding leaves. -/
namespace Go.Proofs.YtfohinlldchdpaaGreatDoor.Md
open Go.Proofs.YtfohinlldchdpaaGreatDoor.Ang

/-- The sum of the first n of f. -/
def sum : Nat → (Nat → Int) → Int
  | 0, _ => 0
  | n + 1, f => sum n f + f n

/-- A number without its sign. -/
def ab (z : Int) : Int := (z.natAbs : Int)
theorem ab_le {z b : Int} (h1 : -b ≤ z) (h2 : z ≤ b) : ab z ≤ b := by unfold ab; omega
theorem le_ab {z b : Int} (h : ab z ≤ b) : -b ≤ z ∧ z ≤ b := by unfold ab at h; omega
theorem ab_mul (a b : Int) : ab (a * b) = ab a * ab b := by unfold ab; rw [Int.natAbs_mul]; exact Int.natCast_mul _ _
theorem ab0 (z : Int) : 0 ≤ ab z := by unfold ab; omega
theorem ab_add (a b : Int) : ab (a + b) ≤ ab a + ab b := by unfold ab; omega
theorem ab_prod {a b x y : Int} (h1 : ab a ≤ x) (h2 : ab b ≤ y) : ab (a * b) ≤ x * y := by
  rw [ab_mul]
  exact Int.mul_le_mul h1 h2 (ab0 b) (Int.le_trans (ab0 a) h1)

theorem sum_ab (n : Nat) (f : Nat → Int) (B : Int) (h : ∀ i, i < n → ab (f i) ≤ B) : ab (sum n f) ≤ n * B := by
  induction n with
  | zero => simp [sum, ab]
  | succ n ih =>
    have h1 := ih (fun i hi => h i (by omega))
    have h2 := h n (by omega)
    have h3 := ab_add (sum n f) (f n)
    rw [sum, show ((n + 1 : Nat) : Int) * B = n * B + B by rw [Int.natCast_add, Int.add_mul]; simp]
    omega
/-- The nearest whole number, by 2^16 and by 2^17 (near: by 2^15). -/
def nr16 (x : Int) : Int := (x + 32768) / 65536
def nr17 (x : Int) : Int := (x + 65536) / 131072
/-- The cosine of the n-th number in the k-th wave. -/
def cS (n k : Nat) : Int := cosS (((2 * n + 17) * (2 * k + 1) % 128 : Nat) : Int)
theorem c_bd (n k : Nat) : ab (cS n k) ≤ 32768 := by
  have := cos_bd (((2 * n + 17) * (2 * k + 1) % 128 : Nat) : Int)
  unfold cS; exact ab_le this.1 this.2
theorem win_bd (n : Nat) : ab (winS n) ≤ 32768 := by
  have := cos_bd (2 * n + 1 - 32)
  unfold winS sinS; exact ab_le this.1 this.2

/-- Two frames, one behind the other. -/
def xs2 (a b : Nat → Int) (n : Nat) : Int := if n < 16 then a n else b (n - 16)
def pS (a b : Nat → Int) (n : Nat) : Int := near (xs2 a b n * winS n)
/-- The sum of a wave, its first m. -/
def vS (a b : Nat → Int) (k m : Nat) : Int := sum m fun n => pS a b n * cS n k
def wS (a b : Nat → Int) (k : Nat) : Int := nr17 (vS a b k 32)
/-- The sum of a number on the way back, its first m. -/
def uS (w : Nat → Int) (n m : Nat) : Int := sum m fun k => w k * cS n k
def gS (w : Nat → Int) (n : Nat) : Int := near (uS w n 16)
def bS (w : Nat → Int) (n : Nat) : Int := nr16 (gS w n * winS n)

def Le (M : Int) (f : Nat → Int) : Prop := ∀ i, i < 16 → ab (f i) ≤ M

theorem xs2_bd {M : Int} {a b : Nat → Int} (ha : Le M a) (hb : Le M b) (n : Nat) (hn : n < 32) : ab (xs2 a b n) ≤ M := by
  unfold xs2
  by_cases h : n < 16
  · rw [if_pos h]; exact ha n h
  · rw [if_neg h]; exact hb (n - 16) (by omega)

theorem near_bd {x M : Int} (h : ab x ≤ M * 32768) : ab (near x) ≤ M := by
  unfold near
  unfold ab at *
  omega

theorem p_bd {M : Int} {a b : Nat → Int} (ha : Le M a) (hb : Le M b) (n : Nat) (hn : n < 32) : ab (pS a b n) ≤ M :=
  near_bd (ab_prod (xs2_bd ha hb n hn) (win_bd n))

theorem v_bd {M : Int} {a b : Nat → Int} (ha : Le M a) (hb : Le M b) (k m : Nat) (hm : m ≤ 32) : ab (vS a b k m) ≤ m * (M * 32768) :=
  sum_ab m _ _ fun i hi => ab_prod (p_bd ha hb i (by omega)) (c_bd i k)

theorem u_bd {M : Int} {w : Nat → Int} (hw : Le M w) (n m : Nat) (hm : m ≤ 16) : ab (uS w n m) ≤ m * (M * 32768) :=
  sum_ab m _ _ fun i hi => ab_prod (hw i (by omega)) (c_bd n i)

end Go.Proofs.YtfohinlldchdpaaGreatDoor.Md
end
