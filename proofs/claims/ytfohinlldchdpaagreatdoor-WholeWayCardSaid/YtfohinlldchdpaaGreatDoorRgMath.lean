/- Plain mathematics of a range coder: a coder's state after cells, how the cells lie in one another, what a decoder's code is all along. -/
namespace Go.Proofs.YtfohinlldchdpaaGreatDoor.Rg

/-- A cell. -/
structure Cl where
  s : Nat
  w : Nat
  t : Nat
def Cl.ok (c : Cl) : Prop := 1 ≤ c.t ∧ c.t ≤ 32768 ∧ 1 ≤ c.w ∧ c.s + c.w ≤ c.t

/-- A coder: low as a whole number of 4 + g bytes, the range, how many bytes it has gone. -/
structure St where
  L : Nat
  r : Nat
  g : Nat
/-- How many times a range is taken 256 times. -/
def sh (q : Nat) : Nat := if 16777216 ≤ q then 0 else if 65536 ≤ q then 1 else if 256 ≤ q then 2 else 3
def St.put (x : St) (c : Cl) : St := ⟨(x.L + x.r / c.t * c.s) * 256 ^ sh (x.r / c.t * c.w), x.r / c.t * c.w * 256 ^ sh (x.r / c.t * c.w), x.g + sh (x.r / c.t * c.w)⟩
def St.run (x : St) (l : List Cl) : St := l.foldl St.put x
def St.new : St := ⟨0, 4294967295, 0⟩
/-- What holds of a coder all along. -/
def St.ok (x : St) : Prop := 16777216 ≤ x.r ∧ x.r ≤ 4294967295 ∧ x.L + x.r < 4294967296 * 256 ^ x.g

theorem sh_spec {q : Nat} (h : 1 ≤ q) (h2 : q ≤ 4294967295) : 16777216 ≤ q * 256 ^ sh q ∧ q * 256 ^ sh q ≤ 4294967295 := by
  unfold sh
  by_cases h1 : 16777216 ≤ q
  · rw [if_pos h1]; omega
  · rw [if_neg h1]
    by_cases h2 : 65536 ≤ q
    · rw [if_pos h2]; omega
    · rw [if_neg h2]
      by_cases h3 : 256 ≤ q
      · rw [if_pos h3]; omega
      · rw [if_neg h3]; omega
theorem sh_le (q : Nat) : sh q ≤ 3 := by unfold sh; split <;> (try split) <;> (try split) <;> omega

/-- The step, and that a cell's end is no further than the range. -/
theorem step_bd {x : St} {c : Cl} (hx : x.ok) (hc : c.ok) : 512 ≤ x.r / c.t ∧ x.r / c.t * c.s + x.r / c.t * c.w ≤ x.r ∧ 1 ≤ x.r / c.t * c.w ∧ x.r / c.t * c.w ≤ 4294967295 := by
  obtain ⟨h1, h2, _⟩ := hx
  obtain ⟨t1, t2, w1, e⟩ := hc
  have s1 : 512 ≤ x.r / c.t := by
    rw [Nat.le_div_iff_mul_le t1]
    omega
  have s2 : x.r / c.t * (c.s + c.w) ≤ x.r := Nat.le_trans (Nat.mul_le_mul_left _ e) (Nat.div_mul_le_self _ _)
  rw [Nat.mul_add] at s2
  have s3 : 1 ≤ x.r / c.t * c.w := Nat.mul_pos (by omega) w1
  omega

theorem put_ok {x : St} {c : Cl} (hx : x.ok) (hc : c.ok) : (x.put c).ok := by
  obtain ⟨b1, b2, b3, b4⟩ := step_bd hx hc
  obtain ⟨q1, q2⟩ := sh_spec b3 b4
  refine ⟨q1, q2, ?_⟩
  unfold St.put
  dsimp only
  rw [← Nat.add_mul, Nat.pow_add, ← Nat.mul_assoc]
  exact Nat.mul_lt_mul_of_pos_right (by have := hx.2.2; omega) (Nat.pow_pos (by omega))
theorem new_ok : St.new.ok := by unfold St.ok St.new; dsimp only; omega
theorem run_ok : ∀ {l : List Cl} {x : St}, x.ok → (∀ c ∈ l, c.ok) → (x.run l).ok
  | [], _, hx, _ => hx
  | c :: l, x, hx, hl => run_ok (l := l) (x := x.put c) (put_ok hx (hl c (by simp))) fun d hd => hl d (by simp [hd])
theorem run_g : ∀ (l : List Cl) (x : St), x.g ≤ (x.run l).g
  | [], _ => Nat.le_refl _
  | c :: l, x => Nat.le_trans (show x.g ≤ (x.put c).g by unfold St.put; dsimp only; omega) (run_g l (x.put c))

/-- A later coder's low lies in the cell of an earlier one. -/
theorem nest : ∀ {l : List Cl} {x : St}, x.ok → (∀ c ∈ l, c.ok) → x.L * 256 ^ ((x.run l).g - x.g) ≤ (x.run l).L ∧ (x.run l).L + (x.run l).r ≤ (x.L + x.r) * 256 ^ ((x.run l).g - x.g)
  | [], x, _, _ => by
    have e : (x.run []) = x := rfl
    rw [e, Nat.sub_self, Nat.pow_zero, Nat.mul_one, Nat.mul_one]
    exact ⟨Nat.le_refl _, Nat.le_refl _⟩
  | c :: l, x, hx, hl => by
    have hc := hl c (by simp)
    obtain ⟨b1, b2, b3, b4⟩ := step_bd hx hc
    obtain ⟨n1, n2⟩ := nest (l := l) (x := x.put c) (put_ok hx hc) fun d hd => hl d (by simp [hd])
    have e : (x.run (c :: l)) = (x.put c).run l := rfl
    rw [e]
    have hg := run_g l (x.put c)
    have eg : (x.put c).g = x.g + sh (x.r / c.t * c.w) := rfl
    have eL : (x.put c).L = (x.L + x.r / c.t * c.s) * 256 ^ sh (x.r / c.t * c.w) := rfl
    have er : (x.put c).r = x.r / c.t * c.w * 256 ^ sh (x.r / c.t * c.w) := rfl
    rw [show ((x.put c).run l).g - x.g = sh (x.r / c.t * c.w) + (((x.put c).run l).g - (x.put c).g) by omega, Nat.pow_add]
    rw [eL] at n1
    rw [eL, er, ← Nat.add_mul] at n2
    generalize 256 ^ sh (x.r / c.t * c.w) = A at *
    generalize 256 ^ (((x.put c).run l).g - (x.put c).g) = B at *
    refine ⟨Nat.le_trans ?_ n1, Nat.le_trans n2 ?_⟩
    · rw [← Nat.mul_assoc]
      exact Nat.mul_le_mul_right _ (Nat.mul_le_mul_right _ (by omega))
    · rw [← Nat.mul_assoc]
      exact Nat.mul_le_mul_right _ (Nat.mul_le_mul_right _ (by omega))

/-- What a decoder of the number N of 4 + G bytes has as its code where the coder is x. -/
def code (N G : Nat) (x : St) : Nat := N / 256 ^ (G - x.g) - x.L
/-- N lies in x's cell. -/
def In (N G : Nat) (x : St) : Prop := x.g ≤ G ∧ x.L ≤ N / 256 ^ (G - x.g) ∧ N / 256 ^ (G - x.g) < x.L + x.r

theorem in_of {l : List Cl} {x : St} (hx : x.ok) (hl : ∀ c ∈ l, c.ok) : In (x.run l).L (x.run l).g x := by
  obtain ⟨n1, n2⟩ := nest hx hl
  have hr := (run_ok hx hl).1
  have hp : 0 < 256 ^ ((x.run l).g - x.g) := Nat.pow_pos (by omega)
  refine ⟨run_g l x, (Nat.le_div_iff_mul_le hp).2 n1, (Nat.div_lt_iff_lt_mul hp).2 (by omega)⟩

/-- The place lies in the cell that was put. -/
theorem place_in {N G : Nat} {x : St} {c : Cl} (hx : x.ok) (hc : c.ok) (h : In N G (x.put c)) :
    x.r / c.t * c.s ≤ code N G x ∧ code N G x < x.r / c.t * (c.s + c.w) ∧ x.L ≤ N / 256 ^ (G - x.g) := by
  obtain ⟨h1, h2, h3⟩ := h
  obtain ⟨b1, b2, b3, b4⟩ := step_bd hx hc
  have eg : (x.put c).g = x.g + sh (x.r / c.t * c.w) := rfl
  have eL : (x.put c).L = (x.L + x.r / c.t * c.s) * 256 ^ sh (x.r / c.t * c.w) := rfl
  have er : (x.put c).r = x.r / c.t * c.w * 256 ^ sh (x.r / c.t * c.w) := rfl
  have hp : 0 < 256 ^ sh (x.r / c.t * c.w) := Nat.pow_pos (by omega)
  have e : N / 256 ^ (G - x.g) = N / 256 ^ (G - (x.put c).g) / 256 ^ sh (x.r / c.t * c.w) := by
    rw [Nat.div_div_eq_div_mul, ← Nat.pow_add, show G - (x.put c).g + sh (x.r / c.t * c.w) = G - x.g by omega]
  rw [eL] at h2
  rw [eL, er, ← Nat.add_mul] at h3
  have k1 : x.L + x.r / c.t * c.s ≤ N / 256 ^ (G - x.g) := by rw [e]; exact (Nat.le_div_iff_mul_le hp).2 h2
  have k2 : N / 256 ^ (G - x.g) < x.L + x.r / c.t * c.s + x.r / c.t * c.w := by rw [e]; exact (Nat.div_lt_iff_lt_mul hp).2 h3
  unfold code
  rw [Nat.mul_add]
  omega
theorem place_of {u p s w t : Nat} (h0 : 0 < u) (h1 : u * s ≤ p) (h2 : p < u * (s + w)) (ht : s + w ≤ t) : s ≤ min (p / u) (t - 1) ∧ min (p / u) (t - 1) < s + w := by
  have a : s ≤ p / u := (Nat.le_div_iff_mul_le h0).2 (by rw [Nat.mul_comm]; exact h1)
  have b : p / u < s + w := (Nat.div_lt_iff_lt_mul h0).2 (by rw [Nat.mul_comm (s + w)]; exact h2)
  omega

/-- The byte number i of the number N of 4 + G bytes, and 0 behind its end. -/
def digit (N G i : Nat) : Nat := if i < 4 + G then N / 256 ^ (3 + G - i) % 256 else 0
theorem digit_lt (N G i : Nat) : digit N G i < 256 := by unfold digit; split <;> omega

/-- A code that is taken 256 times, with the next byte. -/
theorem code_next {N G g : Nat} (h : g < G) : N / 256 ^ (G - (g + 1)) = N / 256 ^ (G - g) * 256 + digit N G (4 + g) := by
  unfold digit
  rw [if_pos (by omega), show 3 + G - (4 + g) = G - (g + 1) by omega, show G - g = (G - (g + 1)) + 1 by omega, Nat.pow_succ, ← Nat.div_div_eq_div_mul]
  generalize N / 256 ^ (G - (g + 1)) = z
  omega
/-- The first four bytes. -/
theorem code_first (N G : Nat) (h : N < 4294967296 * 256 ^ G) : N / 256 ^ G = ((digit N G 0 * 256 + digit N G 1) * 256 + digit N G 2) * 256 + digit N G 3 := by
  unfold digit
  rw [if_pos (by omega), if_pos (by omega), if_pos (by omega), if_pos (by omega), show 3 + G - 3 = G by omega, show 3 + G - 2 = G + 1 by omega, show 3 + G - 1 = G + 1 + 1 by omega, show 3 + G - 0 = G + 1 + 1 + 1 by omega]
  simp only [Nat.pow_succ, ← Nat.div_div_eq_div_mul]
  have hz : N / 256 ^ G < 4294967296 := (Nat.div_lt_iff_lt_mul (Nat.pow_pos (by omega))).2 h
  generalize N / 256 ^ G = z at *
  omega

/-- What a decoder does to its code behind a cell: k times, from the byte number at on. -/
def nextC (N G at' : Nat) : Nat → Nat → Nat
  | 0, c => c
  | k + 1, c => nextC N G (at' + 1) k (c * 256 + digit N G at')
theorem nextC_code {N G : Nat} : ∀ (k g L : Nat), g + k ≤ G → L ≤ N / 256 ^ (G - g) → nextC N G (4 + g) k (N / 256 ^ (G - g) - L) = N / 256 ^ (G - (g + k)) - L * 256 ^ k
  | 0, g, L, _, _ => by simp [nextC]
  | k + 1, g, L, hg, hL => by
    have hn := code_next (N := N) (G := G) (g := g) (by omega)
    have ih := nextC_code (N := N) (G := G) k (g + 1) (L * 256) (by omega) (by omega)
    rw [nextC, show (N / 256 ^ (G - g) - L) * 256 + digit N G (4 + g) = N / 256 ^ (G - (g + 1)) - L * 256 by rw [hn, Nat.sub_mul]; have := Nat.mul_le_mul_right 256 hL; omega]
    rw [show 4 + g + 1 = 4 + (g + 1) by omega, ih, show g + 1 + k = g + (k + 1) by omega, Nat.pow_succ, Nat.mul_assoc, Nat.mul_comm 256]
/-- Behind the cell that was put the decoder's code is again the coder's. -/
theorem take_code {N G : Nat} {x : St} {c : Cl} (hx : x.ok) (hc : c.ok) (h : In N G (x.put c)) :
    nextC N G (4 + x.g) (sh (x.r / c.t * c.w)) (code N G x - x.r / c.t * c.s) = code N G (x.put c) := by
  obtain ⟨p1, p2, p3⟩ := place_in hx hc h
  have hg : x.g + sh (x.r / c.t * c.w) ≤ G := h.1
  unfold code at *
  rw [show N / 256 ^ (G - x.g) - x.L - x.r / c.t * c.s = N / 256 ^ (G - x.g) - (x.L + x.r / c.t * c.s) by omega]
  exact nextC_code _ _ _ hg (by omega)
/-- A code stays below the range. -/
theorem code_lt {N G : Nat} {x : St} (h : In N G x) : code N G x < x.r := by
  obtain ⟨_, h2, h3⟩ := h
  unfold code
  omega
end Go.Proofs.YtfohinlldchdpaaGreatDoor.Rg
