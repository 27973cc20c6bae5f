/- The mathematics of pulses that are found: one by one, each to the wave of the greatest quotient; sums; waves twice as great. -/
namespace Go.Proofs.YtfohinlldchdpaaGreatDoor.Sh

def S (f : Nat → Nat) : Nat → Nat
  | 0 => 0
  | n + 1 => S f n + f n

theorem S_congr {f g : Nat → Nat} : ∀ {n : Nat}, (∀ i, i < n → f i = g i) → S f n = S g n
  | 0, _ => rfl
  | n + 1, h => by rw [S, S, S_congr fun i hi => h i (by omega), h n (by omega)]
theorem S_zero : ∀ n, S (fun _ => 0) n = 0
  | 0 => rfl
  | n + 1 => by rw [S, S_zero n]
theorem S_le {f g : Nat → Nat} : ∀ {n : Nat}, (∀ i, i < n → f i ≤ g i) → S f n ≤ S g n
  | 0, _ => Nat.le_refl _
  | n + 1, h => by
    have h1 := S_le (n := n) fun i hi => h i (by omega)
    have h2 := h n (by omega)
    rw [S, S]; omega
/-- One place changed. -/
theorem S_put {f g : Nat → Nat} {b : Nat} : ∀ {n : Nat}, b < n → (∀ i, i < n → i ≠ b → g i = f i) → S g n + f b = S f n + g b
  | 0, h, _ => absurd h (Nat.not_lt_zero b)
  | n + 1, hb, h => by
    rw [S, S]
    by_cases e : b = n
    · subst e
      rw [S_congr (n := b) (f := g) (g := f) fun i hi => h i (by omega) (by omega)]; omega
    · have := S_put (n := n) (show b < n by omega) fun i hi => h i (by omega)
      have := h n (by omega) (by omega)
      omega
theorem S_add (f g : Nat → Nat) : ∀ n, S (fun i => f i + g i) n = S f n + S g n
  | 0 => rfl
  | n + 1 => by rw [S, S, S, S_add f g n]; omega

theorem S_bd {f : Nat → Nat} {M : Nat} : ∀ {n : Nat}, (∀ i, i < n → f i ≤ M) → S f n ≤ n * M
  | 0, _ => Nat.zero_le _
  | n + 1, h => by
    have h1 := S_bd (n := n) fun i hi => h i (by omega)
    have h2 := h n (by omega)
    rw [S, Nat.add_mul, Nat.one_mul]; omega

/-- Whether the wave i has a greater quotient than the wave j. -/
def bt (u y : Nat → Nat) (a q i j : Nat) : Bool := decide ((a + u j) * (a + u j) * (q + 2 * y i + 1) < (a + u i) * (a + u i) * (q + 2 * y j + 1))
/-- The first of the greatest among the first n. -/
def bst (u y : Nat → Nat) (a q : Nat) : Nat → Nat
  | 0 => 0
  | i + 1 => if bt u y a q i (bst u y a q i) = true then i else bst u y a q i
theorem bst_le (u y : Nat → Nat) (a q : Nat) : ∀ n, bst u y a q n ≤ n - 1
  | 0 => Nat.le_refl _
  | n + 1 => by
    have := bst_le u y a q n
    rw [bst]; split <;> omega
theorem bst_lt {u y : Nat → Nat} {a q i n : Nat} (hi : i ≤ n) (hn : 0 < n) : bst u y a q i < n := by
  have := bst_le u y a q i
  omega
theorem bst_next (u y : Nat → Nat) (a q i : Nat) : bst u y a q (i + 1) = if bt u y a q i (bst u y a q i) = true then i else bst u y a q i := rfl
theorem bst_congr {u u' y y' : Nat → Nat} {a a' q q' : Nat} : ∀ {n : Nat}, (∀ i j, i < n → j < n → bt u y a q i j = bt u' y' a' q' i j) → bst u y a q n = bst u' y' a' q' n
  | 0, _ => rfl
  | n + 1, h => by
    have e := bst_congr (n := n) fun i j hi hj => h i j (by omega) (by omega)
    rw [bst_next, bst_next, e, h n _ (by omega) (bst_lt (by omega) (by omega))]

/-- Pulses, a and q behind k pulses. -/
structure Pf where
  y : Nat → Nat
  a : Nat
  q : Nat
def fnd (u : Nat → Nat) (n : Nat) : Nat → Pf
  | 0 => ⟨fun _ => 0, 0, 0⟩
  | k + 1 =>
    let s := fnd u n k
    let b := bst u s.y s.a s.q n
    ⟨fun i => if i = b then s.y i + 1 else s.y i, s.a + u b, s.q + 2 * s.y b + 1⟩
def yS (u : Nat → Nat) (n k : Nat) : Nat → Nat := (fnd u n k).y
def aS (u : Nat → Nat) (n k : Nat) : Nat := (fnd u n k).a
def qS (u : Nat → Nat) (n k : Nat) : Nat := (fnd u n k).q
def bS (u : Nat → Nat) (n k i : Nat) : Nat := bst u (yS u n k) (aS u n k) (qS u n k) i
theorem y_zero (u : Nat → Nat) (n i : Nat) : yS u n 0 i = 0 := rfl
theorem a_zero (u : Nat → Nat) (n : Nat) : aS u n 0 = 0 := rfl
theorem q_zero (u : Nat → Nat) (n : Nat) : qS u n 0 = 0 := rfl
theorem y_next (u : Nat → Nat) (n k i : Nat) : yS u n (k + 1) i = if i = bS u n k n then yS u n k i + 1 else yS u n k i := rfl
theorem a_next (u : Nat → Nat) (n k : Nat) : aS u n (k + 1) = aS u n k + u (bS u n k n) := rfl
theorem q_next (u : Nat → Nat) (n k : Nat) : qS u n (k + 1) = qS u n k + 2 * yS u n k (bS u n k n) + 1 := rfl
theorem b_next (u : Nat → Nat) (n k i : Nat) : bS u n k (i + 1) = if bt u (yS u n k) (aS u n k) (qS u n k) i (bS u n k i) = true then i else bS u n k i := rfl
theorem b_lt {u : Nat → Nat} {n k i : Nat} (hi : i ≤ n) (hn : 0 < n) : bS u n k i < n := bst_lt hi hn

theorem y_le (u : Nat → Nat) (n : Nat) : ∀ k i, yS u n k i ≤ k
  | 0, i => Nat.le_refl _
  | k + 1, i => by
    have := y_le u n k i
    rw [y_next]; split <;> omega
theorem y_sum {u : Nat → Nat} {n : Nat} (hn : 0 < n) : ∀ k, S (yS u n k) n = k
  | 0 => S_zero n
  | k + 1 => by
    have h := S_put (f := yS u n k) (g := yS u n (k + 1)) (b_lt (u := u) (k := k) (Nat.le_refl n) hn) fun i _ hi => by rw [y_next, if_neg hi]
    have e := y_sum (u := u) hn k
    rw [y_next, if_pos rfl] at h
    omega
theorem a_sum {u : Nat → Nat} {n : Nat} (hn : 0 < n) : ∀ k, S (fun i => u i * yS u n k i) n = aS u n k
  | 0 => (S_congr fun i _ => Nat.mul_zero _).trans (S_zero n)
  | k + 1 => by
    have h := S_put (f := fun i => u i * yS u n k i) (g := fun i => u i * yS u n (k + 1) i) (b_lt (u := u) (k := k) (Nat.le_refl n) hn) fun i _ hi => by show u i * _ = u i * _; rw [y_next, if_neg hi]
    have e := a_sum (u := u) hn k
    have h2 : S (fun i => u i * yS u n (k + 1) i) n + u (bS u n k n) * yS u n k (bS u n k n) = S (fun i => u i * yS u n k i) n + u (bS u n k n) * yS u n (k + 1) (bS u n k n) := h
    rw [y_next u n k (bS u n k n), if_pos rfl, Nat.mul_add, Nat.mul_one] at h2
    rw [a_next]
    omega
theorem q_sum {u : Nat → Nat} {n : Nat} (hn : 0 < n) : ∀ k, S (fun i => yS u n k i * yS u n k i) n = qS u n k
  | 0 => S_zero n
  | k + 1 => by
    have h := S_put (f := fun i => yS u n k i * yS u n k i) (g := fun i => yS u n (k + 1) i * yS u n (k + 1) i) (b_lt (u := u) (k := k) (Nat.le_refl n) hn) fun i _ hi => by show _ * _ = _ * _; rw [y_next, if_neg hi]
    have e := q_sum (u := u) hn k
    have h2 : S (fun i => yS u n (k + 1) i * yS u n (k + 1) i) n + yS u n k (bS u n k n) * yS u n k (bS u n k n) = S (fun i => yS u n k i * yS u n k i) n + yS u n (k + 1) (bS u n k n) * yS u n (k + 1) (bS u n k n) := h
    rw [y_next u n k (bS u n k n), if_pos rfl, Nat.mul_add, Nat.add_mul] at h2
    rw [q_next]
    omega
theorem q_ge (u : Nat → Nat) (n : Nat) : ∀ k, k ≤ qS u n k
  | 0 => Nat.le_refl _
  | k + 1 => by have := q_ge u n k; rw [q_next]; omega
theorem q_le (u : Nat → Nat) (n : Nat) : ∀ k, qS u n k ≤ k * k
  | 0 => Nat.le_refl _
  | k + 1 => by
    have h1 := q_le u n k
    have h2 := y_le u n k (bS u n k n)
    have h3 : (k + 1) * (k + 1) = k * k + 2 * k + 1 := by rw [Nat.mul_add, Nat.add_mul]; omega
    rw [q_next, h3]; omega
theorem a_le {u : Nat → Nat} {n U : Nat} (hn : 0 < n) (h : ∀ i, i < n → u i ≤ U) : ∀ k, aS u n k ≤ k * U
  | 0 => Nat.zero_le _
  | k + 1 => by
    have h1 := a_le hn h k
    have h2 := h _ (b_lt (u := u) (k := k) (Nat.le_refl n) hn)
    rw [a_next, Nat.add_mul, Nat.one_mul]; omega

/-- What comes of it hangs on the first n waves only. -/
theorem fnd_congr {u u' : Nat → Nat} {n : Nat} (hn : 0 < n) (h : ∀ i, i < n → u i = u' i) : ∀ k, yS u n k = yS u' n k ∧ aS u n k = aS u' n k ∧ qS u n k = qS u' n k
  | 0 => ⟨rfl, rfl, rfl⟩
  | k + 1 => by
    obtain ⟨e1, e2, e3⟩ := fnd_congr hn h k
    have eb : bS u n k n = bS u' n k n := by
      unfold bS
      rw [e1, e2, e3]
      exact bst_congr fun i j hi hj => by unfold bt; rw [h i hi, h j hj]
    refine ⟨funext fun i => by rw [y_next, y_next, eb, e1], ?_, ?_⟩
    · rw [a_next, a_next, eb, e2, h _ (b_lt (Nat.le_refl n) hn)]
    · rw [q_next, q_next, eb, e1, e3]
/-- Waves all twice as great have the same pulses. -/
theorem fnd_two {u : Nat → Nat} {n : Nat} : ∀ k, yS (fun i => 2 * u i) n k = yS u n k ∧ aS (fun i => 2 * u i) n k = 2 * aS u n k ∧ qS (fun i => 2 * u i) n k = qS u n k
  | 0 => ⟨rfl, rfl, rfl⟩
  | k + 1 => by
    obtain ⟨e1, e2, e3⟩ := fnd_two (u := u) (n := n) k
    have eb : bS (fun i => 2 * u i) n k n = bS u n k n := by
      unfold bS
      rw [e1, e2, e3]
      refine bst_congr fun i j hi hj => ?_
      have key : ∀ a x r : Nat, (2 * a + 2 * x) * (2 * a + 2 * x) * r = 4 * ((a + x) * (a + x) * r) := fun a x r => by
        rw [← Nat.mul_add, show 2 * (a + x) * (2 * (a + x)) = 4 * ((a + x) * (a + x)) by rw [Nat.mul_mul_mul_comm], Nat.mul_assoc]
      unfold bt
      rw [key, key, decide_eq_decide]
      omega
    refine ⟨funext fun i => by rw [y_next, y_next, eb, e1], ?_, ?_⟩
    · rw [a_next, a_next, eb, e2]; show _ + 2 * u _ = _; omega
    · rw [q_next, q_next, eb, e1, e3]
theorem bt_one (u : Nat → Nat) (n i j : Nat) : bt u (yS u n 0) (aS u n 0) (qS u n 0) i j = decide (u j < u i) := by
  unfold bt
  simp only [a_zero, q_zero, y_zero, Nat.zero_add, Nat.mul_zero, Nat.mul_one]
  rw [decide_eq_decide]
  exact ⟨fun h => Nat.lt_of_not_le fun hle => absurd (Nat.mul_le_mul hle hle) (by omega), fun h => Nat.mul_self_lt_mul_self h⟩

/-- The pulses with the waves' signs. -/
def sg (c : Nat → Int) (y : Nat → Nat) (i : Nat) : Int := if c i < 0 then -(y i : Int) else y i
theorem sg_abs (c : Nat → Int) (y : Nat → Nat) (i : Nat) : (sg c y i).natAbs = y i := by unfold sg; split <;> omega
/-- The waves' sizes. -/
def sz (c : Nat → Int) (i : Nat) : Nat := (c i).natAbs
/-- The pulses that are found. -/
def fS (c : Nat → Int) (n k : Nat) : Nat → Int := sg c (yS (sz c) n k)
theorem f_abs (c : Nat → Int) (n k i : Nat) : (fS c n k i).natAbs = yS (sz c) n k i := sg_abs _ _ _
theorem f_bd (c : Nat → Int) (n k i : Nat) : -(k : Int) ≤ fS c n k i ∧ fS c n k i ≤ k := by
  have h1 := f_abs c n k i
  have h2 := y_le (sz c) n k i
  omega
theorem f_sign (c : Nat → Int) (n k i : Nat) : ¬ (c i < 0 ∧ 0 < fS c n k i) ∧ ¬ (0 < c i ∧ fS c n k i < 0) := by
  unfold fS sg
  constructor <;> split <;> omega

/-- a and q of pulses. -/
def aI (c y : Nat → Int) : Nat → Int
  | 0 => 0
  | n + 1 => aI c y n + c n * y n
def qI (y : Nat → Int) : Nat → Int
  | 0 => 0
  | n + 1 => qI y n + y n * y n
theorem aI_nat {c y : Nat → Int} {u z : Nat → Nat} : ∀ {n : Nat}, (∀ i, i < n → c i * y i = (u i : Int) * z i) → aI c y n = (S (fun i => u i * z i) n : Nat)
  | 0, _ => rfl
  | n + 1, h => by
    rw [aI, aI_nat fun i hi => h i (by omega), h n (by omega), S, Int.natCast_add, Int.natCast_mul]
theorem qI_nat {y : Nat → Int} {z : Nat → Nat} : ∀ {n : Nat}, (∀ i, i < n → y i * y i = (z i : Int) * z i) → qI y n = (S (fun i => z i * z i) n : Nat)
  | 0, _ => rfl
  | n + 1, h => by
    rw [qI, qI_nat fun i hi => h i (by omega), h n (by omega), S, Int.natCast_add, Int.natCast_mul]
theorem f_mul (c : Nat → Int) (n k i : Nat) : c i * fS c n k i = (sz c i : Int) * yS (sz c) n k i := by
  unfold fS sg
  generalize yS (sz c) n k i = z
  unfold sz
  split
  · rw [Int.mul_neg, ← Int.neg_mul, show ((c i).natAbs : Int) = -c i by omega]
  · rw [show ((c i).natAbs : Int) = c i by omega]
theorem f_sq (c : Nat → Int) (n k i : Nat) : fS c n k i * fS c n k i = (yS (sz c) n k i : Int) * yS (sz c) n k i := by
  unfold fS sg
  split
  · rw [Int.neg_mul_neg]
  · rfl
theorem f_a {c : Nat → Int} {n : Nat} (hn : 0 < n) (k : Nat) : aI c (fS c n k) n = aS (sz c) n k := by
  rw [aI_nat fun i _ => f_mul c n k i, a_sum hn]
theorem f_q {c : Nat → Int} {n : Nat} (hn : 0 < n) (k : Nat) : qI (fS c n k) n = qS (sz c) n k := by
  rw [qI_nat fun i _ => f_sq c n k i, q_sum hn]
theorem aI_bd {c y : Nat → Int} : ∀ {n : Nat}, (∀ i, i < n → -8388608 ≤ c i * y i ∧ c i * y i ≤ 8388608) → -(8388608 * (n : Int)) ≤ aI c y n ∧ aI c y n ≤ 8388608 * (n : Int)
  | 0, _ => by constructor <;> exact Int.le_refl _
  | n + 1, h => by
    have h1 := aI_bd (n := n) fun i hi => h i (by omega)
    have h2 := h n (by omega)
    rw [aI]; omega
theorem qI_bd {y : Nat → Int} : ∀ {n : Nat}, (∀ i, i < n → 0 ≤ y i * y i ∧ y i * y i ≤ 64) → 0 ≤ qI y n ∧ qI y n ≤ 64 * (n : Int)
  | 0, _ => by constructor <;> exact Int.le_refl _
  | n + 1, h => by
    have h1 := qI_bd (n := n) fun i hi => h i (by omega)
    have h2 := h n (by omega)
    rw [qI]; omega
/-- Products' bounds. -/
theorem mul_bd {x y X Y : Int} (h1 : -X ≤ x) (h2 : x ≤ X) (h3 : -Y ≤ y) (h4 : y ≤ Y) : -(X * Y) ≤ x * y ∧ x * y ≤ X * Y := by
  have hx : x.natAbs ≤ X.natAbs := by omega
  have hy : y.natAbs ≤ Y.natAbs := by omega
  have h := Nat.mul_le_mul hx hy
  rw [← Int.natAbs_mul, ← Int.natAbs_mul] at h
  have : 0 ≤ X * Y := Int.mul_nonneg (by omega) (by omega)
  omega
end Go.Proofs.YtfohinlldchdpaaGreatDoor.Sh
