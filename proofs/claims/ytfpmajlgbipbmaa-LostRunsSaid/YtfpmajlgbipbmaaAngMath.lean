/- The plain mathematics of layer 3: the cosines as whole numbers, what they add up to. -/
import Derived.ProofKit
namespace Go.Proofs.Ytfpmajlgbipbmaa.Ang

/-- The arc of u, its square, and the square's square, in fine parts. -/
def xS (u : Int) : Int := u * 105414357 / 2
def yS (u : Int) : Int := xS u * xS u / 1073741824
def qS (u : Int) : Int := yS u * yS u / 1073741824
def fcS (u : Int) : Int := 1073741824 - yS u / 2 + yS u * yS u / 25769803776 - qS u * yS u / 773094113280 + qS u * qS u / 43293270343680
def fsS (u : Int) : Int := xS u - xS u * yS u / 6442450944 + xS u * qS u / 128849018880 - xS u * (qS u * yS u / 1073741824) / 5411658792960
def near (x : Int) : Int := (x + 16384) / 32768

/-- The cosine up to a right angle. -/
def quS (u : Int) : Int := if u ≤ 16 then near (fcS u) else near (fsS (32 - u))
/-- The cosine from 0 to all round. -/
def c0 (u : Int) : Int :=
  if 64 < u then (if 32 < 128 - u then -quS (64 - (128 - u)) else quS (128 - u))
  else (if 32 < u then -quS (64 - u) else quS u)
/-- The cosine of an angle. -/
def cosS (u : Int) : Int := c0 (u % 128)
def sinS (u : Int) : Int := cosS (u - 32)

theorem cosS_add (u : Int) : cosS (u + 128) = cosS u := by unfold cosS; rw [show (u + 128) % 128 = u % 128 by omega]
theorem cosS_eq {u v : Int} (h : u % 128 = v % 128) : cosS u = cosS v := by unfold cosS; rw [h]

theorem all128 (P : Int → Prop) (h : ∀ k : Fin 128, P (k.val : Int)) (u : Int) : P (u % 128) := by
  have := h ⟨(u % 128).toNat, by omega⟩
  simpa [show ((u % 128).toNat : Int) = u % 128 by omega] using this

theorem cos_bd (u : Int) : -32768 ≤ cosS u ∧ cosS u ≤ 32768 :=
  all128 (fun v => -32768 ≤ c0 v ∧ c0 v ≤ 32768) (by decide +kernel) u

theorem cos_half (u : Int) : cosS (u + 64) = -cosS u := by
  have := all128 (fun v => c0 ((v + 64) % 128) = -c0 v) (by decide +kernel) u
  unfold cosS; rw [← this, show (u % 128 + 64) % 128 = (u + 64) % 128 by omega]
theorem cos_neg (u : Int) : cosS (-u) = cosS u := by
  have := all128 (fun v => c0 ((-v) % 128) = c0 v) (by decide +kernel) u
  unfold cosS; rw [← this, show (-(u % 128)) % 128 = (-u) % 128 by omega]
theorem cos_twice (u : Int) : cosS (2 * u) - (2 * cosS u * cosS u / 32768 - 32768) ≤ 8 ∧ -8 ≤ cosS (2 * u) - (2 * cosS u * cosS u / 32768 - 32768) := by
  have := all128 (fun v => c0 ((2 * v) % 128) - (2 * c0 v * c0 v / 32768 - 32768) ≤ 8 ∧ -8 ≤ c0 ((2 * v) % 128) - (2 * c0 v * c0 v / 32768 - 32768)) (by decide +kernel) u
  unfold cosS; rw [show (2 * u) % 128 = (2 * (u % 128)) % 128 by omega]; exact this
theorem sin_neg (u : Int) : sinS (-u) = -sinS u := by
  unfold sinS
  rw [← cos_half, show u - 32 + 64 = u + 32 by omega, ← cos_neg (u + 32), show -(u + 32) = -u - 32 by omega]
theorem sin_32 (u : Int) : sinS (u + 32) = cosS u := by unfold sinS; rw [show u + 32 - 32 = u by omega]
theorem cos_32 (u : Int) : cosS (u + 32) = -sinS u := by unfold sinS; rw [← cos_half, show u - 32 + 64 = u + 32 by omega]

theorem squares (k : Nat) (hk : k < 64) : cosS k * cosS k + sinS k * sinS k - 1073741824 ≤ 262144 ∧ -262144 ≤ cosS k * cosS k + sinS k * sinS k - 1073741824 ∧ cosS (k + 1) < cosS k := by
  have h : ∀ k : Fin 64, cosS k.val * cosS k.val + sinS k.val * sinS k.val - 1073741824 ≤ 262144 ∧ -262144 ≤ cosS k.val * cosS k.val + sinS k.val * sinS k.val - 1073741824 ∧ cosS (k.val + 1) < cosS k.val := by decide +kernel
  exact h ⟨k, hk⟩

/-- The window. -/
def winS (n : Nat) : Int := sinS (2 * n + 1)
theorem window (k : Nat) (hk : k < 16) : winS k = winS (31 - k) ∧ 0 < winS k ∧ (k ≠ 15 → winS k < winS (k + 1)) ∧ winS k * winS k + winS (k + 16) * winS (k + 16) - 1073741824 ≤ 262144 ∧ -262144 ≤ winS k * winS k + winS (k + 16) * winS (k + 16) - 1073741824 := by
  have h : ∀ k : Fin 16, winS k.val = winS (31 - k.val) ∧ 0 < winS k.val ∧ (k.val ≠ 15 → winS k.val < winS (k.val + 1)) ∧ winS k.val * winS k.val + winS (k.val + 16) * winS (k.val + 16) - 1073741824 ≤ 262144 ∧ -262144 ≤ winS k.val * winS k.val + winS (k.val + 16) * winS (k.val + 16) - 1073741824 := by decide +kernel
  exact h ⟨k, hk⟩

/-- Bounds of all that is made on the way, so that no number of 64 bits wraps. -/
theorem fineB (u : Int) (h0 : 0 ≤ u) (h1 : u ≤ 16) :
    (0 ≤ xS u ∧ xS u ≤ 1073741824) ∧ (0 ≤ yS u ∧ yS u ≤ 1073741824) ∧ (0 ≤ qS u ∧ qS u ≤ 1073741824) ∧ (0 ≤ fcS u ∧ fcS u ≤ 1099511627776) ∧ (0 ≤ fsS u ∧ fsS u ≤ 1099511627776) := by
  have h : ∀ k : Fin 17, (0 ≤ xS k.val ∧ xS k.val ≤ 1073741824) ∧ (0 ≤ yS k.val ∧ yS k.val ≤ 1073741824) ∧ (0 ≤ qS k.val ∧ qS k.val ≤ 1073741824) ∧ (0 ≤ fcS k.val ∧ fcS k.val ≤ 1099511627776) ∧ (0 ≤ fsS k.val ∧ fsS k.val ≤ 1099511627776) := by decide +kernel
  have := h ⟨u.toNat, by omega⟩
  simpa [show (u.toNat : Int) = u by omega] using this

theorem mulB (a b : Int) (h1 : 0 ≤ a) (h2 : a ≤ 1073741824) (h3 : 0 ≤ b) (h4 : b ≤ 1073741824) : 0 ≤ a * b ∧ a * b ≤ 1152921504606846976 := by
  refine ⟨Int.mul_nonneg h1 h3, ?_⟩
  have := Int.mul_le_mul h2 h4 h3 (by omega)
  simpa using this
end Go.Proofs.Ytfpmajlgbipbmaa.Ang
