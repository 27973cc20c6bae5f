/- Texts of the walk, one behind the other. -/
import Derived.ProofKit

section
/- The plain mathematics of layer 3: the cosines as whole numbers, what they add up to. -/
namespace Go.Proofs.YtfohinlldchdpaaGreatDoor.Ang

/-- The arc of u, its square, and the square's square, in fine parts. -/
def xS (u : Int) : Int := u * 105414357 / 2
def yS (u : Int) : Int := xS u * xS u / 1073741824
def qS (u : Int) : Int := yS u * yS u / 1073741824
def fcS (u : Int) : Int := 1073741824 - yS u / 2 + yS u * yS u / 25769803776 - qS u * yS u / 773094113280 + qS u * qS u / 43293270343680
def fsS (u : Int) : Int := xS u - xS u * yS u / 6442450944 + xS u * qS u / 128849018880 - xS u * (qS u * yS u / 1073741824) / 5411658792960
def near (x : Int) : Int := (x + 16384) / 32768

/-- The cosine up to a right angle. -/
def quS (u : Int) : Int := if u ≤ 16 then near (fcS u) else near (fsS (32 - u))
/-- The cosine from 0 to all round. -/
def c0 (u : Int) : Int :=
  if 64 < u then (if 32 < 128 - u then -quS (64 - (128 - u)) else quS (128 - u))
  else (if 32 < u then -quS (64 - u) else quS u)
/-- The cosine of an angle. -/
def cosS (u : Int) : Int := c0 (u % 128)
def sinS (u : Int) : Int := cosS (u - 32)

theorem cosS_add (u : Int) : cosS (u + 128) = cosS u := by unfold cosS; rw [show (u + 128) % 128 = u % 128 by omega]
theorem cosS_eq {u v : Int} (h : u % 128 = v % 128) : cosS u = cosS v := by unfold cosS; rw [h]

theorem all128 (P : Int → Prop) (h : ∀ k : Fin 128, P (k.val : Int)) (u : Int) : P (u % 128) := by
  have := h ⟨(u % 128).toNat, by omega⟩
  simpa [show ((u % 128).toNat : Int) = u % 128 by omega] using this

theorem cos_bd (u : Int) : -32768 ≤ cosS u ∧ cosS u ≤ 32768 :=
  all128 (fun v => -32768 ≤ c0 v ∧ c0 v ≤ 32768) (by decide +kernel) u

theorem cos_half (u : Int) : cosS (u + 64) = -cosS u := by
  have := all128 (fun v => c0 ((v + 64) % 128) = -c0 v) (by decide +kernel) u
  unfold cosS; rw [← this, show (u % 128 + 64) % 128 = (u + 64) % 128 by omega]
theorem cos_neg (u : Int) : cosS (-u) = cosS u := by
  have := all128 (fun v => c0 ((-v) % 128) = c0 v) (by decide +kernel) u
  unfold cosS; rw [← this, show (-(u % 128)) % 128 = (-u) % 128 by omega]
theorem cos_twice (u : Int) : cosS (2 * u) - (2 * cosS u * cosS u / 32768 - 32768) ≤ 8 ∧ -8 ≤ cosS (2 * u) - (2 * cosS u * cosS u / 32768 - 32768) := by
  have := all128 (fun v => c0 ((2 * v) % 128) - (2 * c0 v * c0 v / 32768 - 32768) ≤ 8 ∧ -8 ≤ c0 ((2 * v) % 128) - (2 * c0 v * c0 v / 32768 - 32768)) (by decide +kernel) u
  unfold cosS; rw [show (2 * u) % 128 = (2 * (u % 128)) % 128 by omega]; exact this
theorem sin_neg (u : Int) : sinS (-u) = -sinS u := by
  unfold sinS
  rw [← cos_half, show u - 32 + 64 = u + 32 by omega, ← cos_neg (u + 32), show -(u + 32) = -u - 32 by omega]
theorem sin_32 (u : Int) : sinS (u + 32) = cosS u := by unfold sinS; rw [show u + 32 - 32 = u by omega]
theorem cos_32 (u : Int) : cosS (u + 32) = -sinS u := by unfold sinS; rw [← cos_half, show u - 32 + 64 = u + 32 by omega]

theorem squares (k : Nat) (hk : k < 64) : cosS k * cosS k + sinS k * sinS k - 1073741824 ≤ 262144 ∧ -262144 ≤ cosS k * cosS k + sinS k * sinS k - 1073741824 ∧ cosS (k + 1) < cosS k := by
  have h : ∀ k : Fin 64, cosS k.val * cosS k.val + sinS k.val * sinS k.val - 1073741824 ≤ 262144 ∧ -262144 ≤ cosS k.val * cosS k.val + sinS k.val * sinS k.val - 1073741824 ∧ cosS (k.val + 1) < cosS k.val := by decide +kernel
  exact h ⟨k, hk⟩

/-- The window. -/
def winS (n : Nat) : Int := sinS (2 * n + 1)
theorem window (k : Nat) (hk : k < 16) : winS k = winS (31 - k) ∧ 0 < winS k ∧ (k ≠ 15 → winS k < winS (k + 1)) ∧ winS k * winS k + winS (k + 16) * winS (k + 16) - 1073741824 ≤ 262144 ∧ -262144 ≤ winS k * winS k + winS (k + 16) * winS (k + 16) - 1073741824 := by
  have h : ∀ k : Fin 16, winS k.val = winS (31 - k.val) ∧ 0 < winS k.val ∧ (k.val ≠ 15 → winS k.val < winS (k.val + 1)) ∧ winS k.val * winS k.val + winS (k.val + 16) * winS (k.val + 16) - 1073741824 ≤ 262144 ∧ -262144 ≤ winS k.val * winS k.val + winS (k.val + 16) * winS (k.val + 16) - 1073741824 := by decide +kernel
  exact h ⟨k, hk⟩

/-- Bounds of all that is made on the way, so that no number of 64 bits wraps. -/
theorem fineB (u : Int) (h0 : 0 ≤ u) (h1 : u ≤ 16) :
    (0 ≤ xS u ∧ xS u ≤ 1073741824) ∧ (0 ≤ yS u ∧ yS u ≤ 1073741824) ∧ (0 ≤ qS u ∧ qS u ≤ 1073741824) ∧ (0 ≤ fcS u ∧ fcS u ≤ 1099511627776) ∧ (0 ≤ fsS u ∧ fsS u ≤ 1099511627776) := by
  have h : ∀ k : Fin 17, (0 ≤ xS k.val ∧ xS k.val ≤ 1073741824) ∧ (0 ≤ yS k.val ∧ yS k.val ≤ 1073741824) ∧ (0 ≤ qS k.val ∧ qS k.val ≤ 1073741824) ∧ (0 ≤ fcS k.val ∧ fcS k.val ≤ 1099511627776) ∧ (0 ≤ fsS k.val ∧ fsS k.val ≤ 1099511627776) := by decide +kernel
  have := h ⟨u.toNat, by omega⟩
  simpa [show (u.toNat : Int) = u by omega] using this

theorem mulB (a b : Int) (h1 : 0 ≤ a) (h2 : a ≤ 1073741824) (h3 : 0 ≤ b) (h4 : b ≤ 1073741824) : 0 ≤ a * b ∧ a * b ≤ 1152921504606846976 := by
  refine ⟨Int.mul_nonneg h1 h3, ?_⟩
  have := Int.mul_le_mul h2 h4 h3 (by omega)
  simpa using this
end Go.Proofs.YtfohinlldchdpaaGreatDoor.Ang
end

section
/- The plain mathematics of layer 4: waves as sums of whole numbers, and what rounding leaves. -/
namespace Go.Proofs.YtfohinlldchdpaaGreatDoor.Md
open Go.Proofs.YtfohinlldchdpaaGreatDoor.Ang

/-- The sum of the first n of f. -/
def sum : Nat → (Nat → Int) → Int
  | 0, _ => 0
  | n + 1, f => sum n f + f n

theorem sum_congr {n : Nat} {f g : Nat → Int} (h : ∀ i, i < n → f i = g i) : sum n f = sum n g := by
  induction n with
  | zero => rfl
  | succ n ih => rw [sum, sum, ih (fun i hi => h i (by omega)), h n (by omega)]
theorem sum_add (n : Nat) (f g : Nat → Int) : sum n (fun i => f i + g i) = sum n f + sum n g := by
  induction n with
  | zero => rfl
  | succ n ih => rw [sum, sum, sum, ih]; omega
theorem sum_sub (n : Nat) (f g : Nat → Int) : sum n (fun i => f i - g i) = sum n f - sum n g := by
  induction n with
  | zero => rfl
  | succ n ih => rw [sum, sum, sum, ih]; omega
theorem sum_mul (n : Nat) (c : Int) (f : Nat → Int) : sum n (fun i => c * f i) = c * sum n f := by
  induction n with
  | zero => rw [sum, sum, Int.mul_zero]
  | succ n ih => rw [sum, sum, ih, Int.mul_add]
theorem sum_zero (n : Nat) : sum n (fun _ => 0) = 0 := by
  induction n with
  | zero => rfl
  | succ n ih => rw [sum, ih]; rfl
theorem sum_swap (n m : Nat) (f : Nat → Nat → Int) : sum n (fun i => sum m (fun j => f i j)) = sum m (fun j => sum n (fun i => f i j)) := by
  induction n with
  | zero => simp only [sum]; rw [sum_zero]
  | succ n ih => simp only [sum]; rw [ih, ← sum_add]
theorem sum_split (n m : Nat) (f : Nat → Int) : sum (n + m) f = sum n f + sum m (fun i => f (n + i)) := by
  induction m with
  | zero => simp only [Nat.add_zero, sum]; omega
  | succ m ih => rw [← Nat.add_assoc, sum, ih, sum]; omega

/-- A number without its sign. -/
def ab (z : Int) : Int := (z.natAbs : Int)
theorem ab_le {z b : Int} (h1 : -b ≤ z) (h2 : z ≤ b) : ab z ≤ b := by unfold ab; omega
theorem le_ab {z b : Int} (h : ab z ≤ b) : -b ≤ z ∧ z ≤ b := by unfold ab at h; omega
theorem ab_mul (a b : Int) : ab (a * b) = ab a * ab b := by unfold ab; rw [Int.natAbs_mul]; exact Int.natCast_mul _ _
theorem ab0 (z : Int) : 0 ≤ ab z := by unfold ab; omega
theorem ab_add (a b : Int) : ab (a + b) ≤ ab a + ab b := by unfold ab; omega
theorem ab_prod {a b x y : Int} (h1 : ab a ≤ x) (h2 : ab b ≤ y) : ab (a * b) ≤ x * y := by
  rw [ab_mul]
  exact Int.mul_le_mul h1 h2 (ab0 b) (Int.le_trans (ab0 a) h1)

theorem sum_ab (n : Nat) (f : Nat → Int) (B : Int) (h : ∀ i, i < n → ab (f i) ≤ B) : ab (sum n f) ≤ n * B := by
  induction n with
  | zero => simp [sum, ab]
  | succ n ih =>
    have h1 := ih (fun i hi => h i (by omega))
    have h2 := h n (by omega)
    have h3 := ab_add (sum n f) (f n)
    rw [sum, show ((n + 1 : Nat) : Int) * B = n * B + B by rw [Int.natCast_add, Int.add_mul]; simp]
    omega
theorem sum_wt (n : Nat) (f g : Nat → Int) (M : Int) (h : ∀ i, i < n → ab (f i) ≤ M) : ab (sum n (fun i => f i * g i)) ≤ M * sum n (fun i => ab (g i)) := by
  induction n with
  | zero => simp [sum, ab]
  | succ n ih =>
    have h1 := ih (fun i hi => h i (by omega))
    have h2 := ab_prod (h n (by omega)) (Int.le_refl (ab (g n)))
    have h3 := ab_add (sum n (fun i => f i * g i)) (f n * g n)
    rw [sum, sum, Int.mul_add]
    omega

/-- The nearest whole number, by 2^16 and by 2^17 (near: by 2^15). -/
def nr16 (x : Int) : Int := (x + 32768) / 65536
def nr17 (x : Int) : Int := (x + 65536) / 131072
theorem near_e (x : Int) : ab (32768 * near x - x) ≤ 16384 := by unfold near ab; omega
theorem nr16_e (x : Int) : ab (65536 * nr16 x - x) ≤ 32768 := by unfold nr16 ab; omega
theorem nr17_e (x : Int) : ab (131072 * nr17 x - x) ≤ 65536 := by unfold nr17 ab; omega

/-- The cosine of the n-th number in the k-th wave. -/
def cS (n k : Nat) : Int := cosS (((2 * n + 17) * (2 * k + 1) % 128 : Nat) : Int)
theorem c_bd (n k : Nat) : ab (cS n k) ≤ 32768 := by
  have := cos_bd (((2 * n + 17) * (2 * k + 1) % 128 : Nat) : Int)
  unfold cS; exact ab_le this.1 this.2
theorem win_bd (n : Nat) : ab (winS n) ≤ 32768 := by
  have := cos_bd (2 * n + 1 - 32)
  unfold winS sinS; exact ab_le this.1 this.2

/-- Two frames, one behind the other. -/
def xs2 (a b : Nat → Int) (n : Nat) : Int := if n < 16 then a n else b (n - 16)
def pS (a b : Nat → Int) (n : Nat) : Int := near (xs2 a b n * winS n)
/-- The sum of a wave, its first m. -/
def vS (a b : Nat → Int) (k m : Nat) : Int := sum m fun n => pS a b n * cS n k
def wS (a b : Nat → Int) (k : Nat) : Int := nr17 (vS a b k 32)
/-- The sum of a number on the way back, its first m. -/
def uS (w : Nat → Int) (n m : Nat) : Int := sum m fun k => w k * cS n k
def gS (w : Nat → Int) (n : Nat) : Int := near (uS w n 16)
def bS (w : Nat → Int) (n : Nat) : Int := nr16 (gS w n * winS n)

def Le (M : Int) (f : Nat → Int) : Prop := ∀ i, i < 16 → ab (f i) ≤ M

theorem xs2_bd {M : Int} {a b : Nat → Int} (ha : Le M a) (hb : Le M b) (n : Nat) (hn : n < 32) : ab (xs2 a b n) ≤ M := by
  unfold xs2
  by_cases h : n < 16
  · rw [if_pos h]; exact ha n h
  · rw [if_neg h]; exact hb (n - 16) (by omega)

theorem near_bd {x M : Int} (h : ab x ≤ M * 32768) : ab (near x) ≤ M := by
  unfold near
  unfold ab at *
  omega

theorem p_bd {M : Int} {a b : Nat → Int} (ha : Le M a) (hb : Le M b) (n : Nat) (hn : n < 32) : ab (pS a b n) ≤ M :=
  near_bd (ab_prod (xs2_bd ha hb n hn) (win_bd n))

theorem v_bd {M : Int} {a b : Nat → Int} (ha : Le M a) (hb : Le M b) (k m : Nat) (hm : m ≤ 32) : ab (vS a b k m) ≤ m * (M * 32768) :=
  sum_ab m _ _ fun i hi => ab_prod (p_bd ha hb i (by omega)) (c_bd i k)

theorem u_bd {M : Int} {w : Nat → Int} (hw : Le M w) (n m : Nat) (hm : m ≤ 16) : ab (uS w n m) ≤ m * (M * 32768) :=
  sum_ab m _ _ fun i hi => ab_prod (hw i (by omega)) (c_bd n i)

/-- What a wave is, but for what rounding leaves. -/
theorem w_e (a b : Nat → Int) (k : Nat) : ab (4294967296 * wS a b k - sum 32 (fun n => xs2 a b n * (winS n * cS n k))) ≤ 19327352832 := by
  have e : ab (32768 * vS a b k 32 - sum 32 (fun n => xs2 a b n * (winS n * cS n k))) ≤ 17179869184 := by
    unfold vS
    rw [← sum_mul, ← sum_sub]
    have := sum_ab 32 (fun n => 32768 * (pS a b n * cS n k) - xs2 a b n * (winS n * cS n k)) (16384 * 32768) fun i _ => by
      have h := ab_prod (near_e (xs2 a b i * winS i)) (c_bd i k)
      rw [Int.sub_mul, Int.mul_assoc, Int.mul_assoc] at h
      exact h
    simpa using this
  have h := nr17_e (vS a b k 32)
  unfold wS
  generalize nr17 (vS a b k 32) = W at *
  generalize vS a b k 32 = V at *
  unfold ab at *
  omega

theorem w_small {M : Int} {a b : Nat → Int} (ha : Le M a) (hb : Le M b) (k : Nat) : ab (wS a b k) ≤ 8 * M + 8 := by
  have h := w_e a b k
  have h2 := sum_ab 32 (fun n => xs2 a b n * (winS n * cS n k)) (M * (32768 * 32768)) fun i hi => ab_prod (xs2_bd ha hb i hi) (ab_prod (win_bd i) (c_bd i k))
  generalize wS a b k = W at *
  generalize sum 32 (fun n => xs2 a b n * (winS n * cS n k)) = S at *
  unfold ab at *
  omega

theorem w_adds (a b c d : Nat → Int) (k : Nat) : ab (wS (fun i => a i + c i) (fun i => b i + d i) k - wS a b k - wS c d k) ≤ 32 := by
  have h1 := w_e a b k
  have h2 := w_e c d k
  have h3 := w_e (fun i => a i + c i) (fun i => b i + d i) k
  have e : sum 32 (fun n => xs2 (fun i => a i + c i) (fun i => b i + d i) n * (winS n * cS n k)) = sum 32 (fun n => xs2 a b n * (winS n * cS n k)) + sum 32 (fun n => xs2 c d n * (winS n * cS n k)) := by
    rw [← sum_add]
    refine sum_congr fun i _ => ?_
    unfold xs2
    by_cases h : i < 16
    · rw [if_pos h, if_pos h, if_pos h, Int.add_mul]
    · rw [if_neg h, if_neg h, if_neg h, Int.add_mul]
  rw [e] at h3
  generalize sum 32 (fun n => xs2 a b n * (winS n * cS n k)) = S at *
  generalize sum 32 (fun n => xs2 c d n * (winS n * cS n k)) = T at *
  generalize wS (fun i => a i + c i) (fun i => b i + d i) k = R at *
  generalize wS a b k = P at *
  generalize wS c d k = Q at *
  unfold ab at *
  omega
end Go.Proofs.YtfohinlldchdpaaGreatDoor.Md
end
