/- Texts of the walk, one behind the other. -/

section
/- The plain mathematics of the tilt: parts, cuts, what is lifted and laid down. -/
namespace Go.Proofs.YtfohinlldchdpaaGreatDoor.Tl

def ct22 (x : Int) : Int := max (-2097152) (min x 2097151)
def ct16 (x : Int) : Int := max (-32768) (min x 32767)
/-- 27853 times it, by 2^15, rounded toward 0. -/
def prt (x : Int) : Int := (27853 * x).tdiv 32768

theorem prt_pos {x : Int} (h : 0 ≤ x) : prt x = 27853 * x / 32768 := by
  unfold prt
  exact Int.tdiv_eq_ediv_of_nonneg (by omega)
theorem prt_neg (x : Int) : prt (-x) = -prt x := by
  unfold prt
  rw [show 27853 * -x = -(27853 * x) by omega, Int.neg_tdiv]
theorem prt_zero : prt 0 = 0 := by decide
theorem ct22_bd (x : Int) : -2097152 ≤ ct22 x ∧ ct22 x ≤ 2097151 := by unfold ct22; omega
theorem ct22_in {x : Int} (h1 : -2097152 ≤ x) (h2 : x ≤ 2097151) : ct22 x = x := by unfold ct22; omega
theorem ct22_ct22 (x : Int) : ct22 (ct22 x) = ct22 x := by unfold ct22; omega
/-- A part is no greater, and has the number's sign. -/
theorem prt_bd {x b : Int} (h1 : -b ≤ x) (h2 : x ≤ b) : -b ≤ prt x ∧ prt x ≤ b := by
  rcases Int.le_total 0 x with h | h
  · rw [prt_pos h]; omega
  · have := prt_neg (-x)
    rw [Int.neg_neg] at this
    rw [this, prt_pos (by omega)]; omega
/-- What stands ahead of sample k, to be lifted. -/
def ahS (last : Int) (f : Nat → Int) : Nat → Int
  | 0 => ct22 last
  | k + 1 => ct22 (f k)
def liS (last : Int) (f : Nat → Int) (k : Nat) : Int := ct22 (f k) - prt (ahS last f k)
/-- What came out ahead of sample k, laid down. -/
def outS (last : Int) (f : Nat → Int) : Nat → Int
  | 0 => ct22 last
  | k + 1 => ct22 (ct22 (f k) + prt (outS last f k))
def laS (last : Int) (f : Nat → Int) (k : Nat) : Int := outS last f (k + 1)

theorem ah_bd (last : Int) (f : Nat → Int) (k : Nat) : -2097152 ≤ ahS last f k ∧ ahS last f k ≤ 2097151 := by cases k <;> exact ct22_bd _
theorem out_bd (last : Int) (f : Nat → Int) (k : Nat) : -2097152 ≤ outS last f k ∧ outS last f k ≤ 2097151 := by cases k <;> exact ct22_bd _

theorem li_ext {last : Int} {f g : Nat → Int} {n : Nat} (h : ∀ k, k < n → f k = g k) : ∀ k, k < n → liS last f k = liS last g k := fun k hk => by
  unfold liS
  rw [h k hk]
  cases k with
  | zero => rfl
  | succ k => show _ - prt (ct22 (f k)) = _ - prt (ct22 (g k)); rw [h k (by omega)]
theorem out_ext {last : Int} {f g : Nat → Int} {n : Nat} (h : ∀ k, k < n → f k = g k) : ∀ k, k ≤ n → outS last f k = outS last g k
  | 0, _ => rfl
  | k + 1, hk => by
    show ct22 (ct22 (f k) + prt (outS last f k)) = ct22 (ct22 (g k) + prt (outS last g k))
    rw [h k (by omega), out_ext h k (by omega)]

/-- What was lifted, and laid down behind the same number, is as it was. -/
theorem back {last : Int} {f : Nat → Int} (hl : -32768 ≤ last ∧ last ≤ 32767) (hf : ∀ k, -32768 ≤ f k ∧ f k ≤ 32767) : ∀ k, outS last (liS last f) k = ahS last f k
  | 0 => rfl
  | k + 1 => by
    show ct22 (ct22 (liS last f k) + prt (outS last (liS last f) k)) = ct22 (f k)
    rw [back hl hf k]
    unfold liS
    have h1 : -32768 ≤ ahS last f k ∧ ahS last f k ≤ 32767 := by
      cases k with
      | zero => show -32768 ≤ ct22 last ∧ ct22 last ≤ 32767; unfold ct22; omega
      | succ k => show -32768 ≤ ct22 (f k) ∧ ct22 (f k) ≤ 32767; have := hf k; unfold ct22; omega
    have h2 := prt_bd (b := 32768) (by omega) (show ahS last f k ≤ 32768 by omega)
    have h3 := hf k
    generalize prt (ahS last f k) = p at *
    generalize f k = x at *
    unfold ct22
    omega

/-- The same samples from k on, behind the one ahead of them. -/
theorem parts {last from' : Int} {f t : Nat → Int} {k : Nat} (hfrom : ct22 from' = ahS last f k) (ht : ∀ i, i + k < 16 → t i = f (i + k)) (i : Nat) (hi : i + k < 16) : liS from' t i = liS last f (i + k) := by
  unfold liS
  rw [ht i hi]
  cases i with
  | zero => rw [Nat.zero_add]; show _ - prt (ct22 from') = _; rw [hfrom]
  | succ i =>
    rw [show i + 1 + k = i + k + 1 by omega]
    show _ - prt (ct22 (t i)) = _ - prt (ct22 (f (i + k)))
    rw [ht i (by omega)]

/-- Of nothing, laid down: part of part .. -/
def dieS (n : Int) : Nat → Int
  | 0 => n
  | k + 1 => prt (dieS n k)
theorem die_bd {n : Int} (h : -2097152 ≤ n ∧ n ≤ 2097151) : ∀ k, -2097152 ≤ dieS n k ∧ dieS n k ≤ 2097151
  | 0 => h
  | k + 1 => by
    have := die_bd h k
    show -2097152 ≤ prt (dieS n k) ∧ prt (dieS n k) ≤ 2097151
    rcases Int.le_total 0 (dieS n k) with h' | h'
    · have := prt_pos h'; omega
    · have h2 := prt_neg (-dieS n k)
      rw [Int.neg_neg] at h2
      have := prt_pos (show 0 ≤ -dieS n k by omega)
      omega
theorem out_zero {n : Int} (h : -2097152 ≤ n ∧ n ≤ 2097151) : ∀ k, outS n (fun _ => 0) k = dieS n k
  | 0 => ct22_in h.1 h.2
  | k + 1 => by
    show ct22 (ct22 0 + prt (outS n (fun _ => 0) k)) = prt (dieS n k)
    rw [out_zero h k]
    have := die_bd h (k + 1)
    have e : dieS n (k + 1) = prt (dieS n k) := rfl
    rw [e] at this
    rw [show ct22 0 = 0 by decide, Int.zero_add]
    exact ct22_in this.1 this.2
def dieB : Nat → Nat
  | 0 => 2097152
  | k + 1 => 27853 * dieB k / 32768
theorem die_le {n : Int} (h : -2097152 ≤ n ∧ n ≤ 2097151) : ∀ k, -(dieB k : Int) ≤ dieS n k ∧ dieS n k ≤ (dieB k : Int)
  | 0 => by show -((2097152 : Nat) : Int) ≤ n ∧ n ≤ ((2097152 : Nat) : Int); omega
  | k + 1 => by
    have := die_le h k
    show -((27853 * dieB k / 32768 : Nat) : Int) ≤ prt (dieS n k) ∧ prt (dieS n k) ≤ ((27853 * dieB k / 32768 : Nat) : Int)
    rcases Int.le_total 0 (dieS n k) with h' | h'
    · rw [prt_pos h']; omega
    · have h2 := prt_neg (-dieS n k)
      rw [Int.neg_neg] at h2
      rw [h2, prt_pos (show 0 ≤ -dieS n k by omega)]
      omega
theorem dies {n : Int} (h : -2097152 ≤ n ∧ n ≤ 2097151) : dieS n 320 = 0 := by
  have h1 := die_le h 320
  have h2 : dieB 320 = 0 := by decide +kernel
  rw [h2] at h1
  omega
end Go.Proofs.YtfohinlldchdpaaGreatDoor.Tl
end

section
/- The mathematics of pulses that are found: one by one, each to the wave of the greatest quotient; sums; waves twice as great. -/
namespace Go.Proofs.YtfohinlldchdpaaGreatDoor.Sh

def S (f : Nat → Nat) : Nat → Nat
  | 0 => 0
  | n + 1 => S f n + f n

theorem S_congr {f g : Nat → Nat} : ∀ {n : Nat}, (∀ i, i < n → f i = g i) → S f n = S g n
  | 0, _ => rfl
  | n + 1, h => by rw [S, S, S_congr fun i hi => h i (by omega), h n (by omega)]
theorem S_zero : ∀ n, S (fun _ => 0) n = 0
  | 0 => rfl
  | n + 1 => by rw [S, S_zero n]
theorem S_le {f g : Nat → Nat} : ∀ {n : Nat}, (∀ i, i < n → f i ≤ g i) → S f n ≤ S g n
  | 0, _ => Nat.le_refl _
  | n + 1, h => by
    have h1 := S_le (n := n) fun i hi => h i (by omega)
    have h2 := h n (by omega)
    rw [S, S]; omega
/-- One place changed. -/
theorem S_put {f g : Nat → Nat} {b : Nat} : ∀ {n : Nat}, b < n → (∀ i, i < n → i ≠ b → g i = f i) → S g n + f b = S f n + g b
  | 0, h, _ => absurd h (Nat.not_lt_zero b)
  | n + 1, hb, h => by
    rw [S, S]
    by_cases e : b = n
    · subst e
      rw [S_congr (n := b) (f := g) (g := f) fun i hi => h i (by omega) (by omega)]; omega
    · have := S_put (n := n) (show b < n by omega) fun i hi => h i (by omega)
      have := h n (by omega) (by omega)
      omega
theorem S_bd {f : Nat → Nat} {M : Nat} : ∀ {n : Nat}, (∀ i, i < n → f i ≤ M) → S f n ≤ n * M
  | 0, _ => Nat.zero_le _
  | n + 1, h => by
    have h1 := S_bd (n := n) fun i hi => h i (by omega)
    have h2 := h n (by omega)
    rw [S, Nat.add_mul, Nat.one_mul]; omega

/-- Whether the wave i has a greater quotient than the wave j. -/
def bt (u y : Nat → Nat) (a q i j : Nat) : Bool := decide ((a + u j) * (a + u j) * (q + 2 * y i + 1) < (a + u i) * (a + u i) * (q + 2 * y j + 1))
/-- The first of the greatest among the first n. -/
def bst (u y : Nat → Nat) (a q : Nat) : Nat → Nat
  | 0 => 0
  | i + 1 => if bt u y a q i (bst u y a q i) = true then i else bst u y a q i
theorem bst_le (u y : Nat → Nat) (a q : Nat) : ∀ n, bst u y a q n ≤ n - 1
  | 0 => Nat.le_refl _
  | n + 1 => by
    have := bst_le u y a q n
    rw [bst]; split <;> omega
theorem bst_lt {u y : Nat → Nat} {a q i n : Nat} (hi : i ≤ n) (hn : 0 < n) : bst u y a q i < n := by
  have := bst_le u y a q i
  omega
/-- Pulses, a and q behind k pulses. -/
structure Pf where
  y : Nat → Nat
  a : Nat
  q : Nat
def fnd (u : Nat → Nat) (n : Nat) : Nat → Pf
  | 0 => ⟨fun _ => 0, 0, 0⟩
  | k + 1 =>
    let s := fnd u n k
    let b := bst u s.y s.a s.q n
    ⟨fun i => if i = b then s.y i + 1 else s.y i, s.a + u b, s.q + 2 * s.y b + 1⟩
def yS (u : Nat → Nat) (n k : Nat) : Nat → Nat := (fnd u n k).y
def aS (u : Nat → Nat) (n k : Nat) : Nat := (fnd u n k).a
def qS (u : Nat → Nat) (n k : Nat) : Nat := (fnd u n k).q
def bS (u : Nat → Nat) (n k i : Nat) : Nat := bst u (yS u n k) (aS u n k) (qS u n k) i
theorem y_next (u : Nat → Nat) (n k i : Nat) : yS u n (k + 1) i = if i = bS u n k n then yS u n k i + 1 else yS u n k i := rfl
theorem a_next (u : Nat → Nat) (n k : Nat) : aS u n (k + 1) = aS u n k + u (bS u n k n) := rfl
theorem q_next (u : Nat → Nat) (n k : Nat) : qS u n (k + 1) = qS u n k + 2 * yS u n k (bS u n k n) + 1 := rfl
theorem b_next (u : Nat → Nat) (n k i : Nat) : bS u n k (i + 1) = if bt u (yS u n k) (aS u n k) (qS u n k) i (bS u n k i) = true then i else bS u n k i := rfl
theorem b_lt {u : Nat → Nat} {n k i : Nat} (hi : i ≤ n) (hn : 0 < n) : bS u n k i < n := bst_lt hi hn

theorem y_le (u : Nat → Nat) (n : Nat) : ∀ k i, yS u n k i ≤ k
  | 0, i => Nat.le_refl _
  | k + 1, i => by
    have := y_le u n k i
    rw [y_next]; split <;> omega
theorem y_sum {u : Nat → Nat} {n : Nat} (hn : 0 < n) : ∀ k, S (yS u n k) n = k
  | 0 => S_zero n
  | k + 1 => by
    have h := S_put (f := yS u n k) (g := yS u n (k + 1)) (b_lt (u := u) (k := k) (Nat.le_refl n) hn) fun i _ hi => by rw [y_next, if_neg hi]
    have e := y_sum (u := u) hn k
    rw [y_next, if_pos rfl] at h
    omega
theorem a_sum {u : Nat → Nat} {n : Nat} (hn : 0 < n) : ∀ k, S (fun i => u i * yS u n k i) n = aS u n k
  | 0 => (S_congr fun i _ => Nat.mul_zero _).trans (S_zero n)
  | k + 1 => by
    have h := S_put (f := fun i => u i * yS u n k i) (g := fun i => u i * yS u n (k + 1) i) (b_lt (u := u) (k := k) (Nat.le_refl n) hn) fun i _ hi => by show u i * _ = u i * _; rw [y_next, if_neg hi]
    have e := a_sum (u := u) hn k
    have h2 : S (fun i => u i * yS u n (k + 1) i) n + u (bS u n k n) * yS u n k (bS u n k n) = S (fun i => u i * yS u n k i) n + u (bS u n k n) * yS u n (k + 1) (bS u n k n) := h
    rw [y_next u n k (bS u n k n), if_pos rfl, Nat.mul_add, Nat.mul_one] at h2
    rw [a_next]
    omega
theorem q_sum {u : Nat → Nat} {n : Nat} (hn : 0 < n) : ∀ k, S (fun i => yS u n k i * yS u n k i) n = qS u n k
  | 0 => S_zero n
  | k + 1 => by
    have h := S_put (f := fun i => yS u n k i * yS u n k i) (g := fun i => yS u n (k + 1) i * yS u n (k + 1) i) (b_lt (u := u) (k := k) (Nat.le_refl n) hn) fun i _ hi => by show _ * _ = _ * _; rw [y_next, if_neg hi]
    have e := q_sum (u := u) hn k
    have h2 : S (fun i => yS u n (k + 1) i * yS u n (k + 1) i) n + yS u n k (bS u n k n) * yS u n k (bS u n k n) = S (fun i => yS u n k i * yS u n k i) n + yS u n (k + 1) (bS u n k n) * yS u n (k + 1) (bS u n k n) := h
    rw [y_next u n k (bS u n k n), if_pos rfl, Nat.mul_add, Nat.add_mul] at h2
    rw [q_next]
    omega
theorem q_le (u : Nat → Nat) (n : Nat) : ∀ k, qS u n k ≤ k * k
  | 0 => Nat.le_refl _
  | k + 1 => by
    have h1 := q_le u n k
    have h2 := y_le u n k (bS u n k n)
    have h3 : (k + 1) * (k + 1) = k * k + 2 * k + 1 := by rw [Nat.mul_add, Nat.add_mul]; omega
    rw [q_next, h3]; omega
theorem a_le {u : Nat → Nat} {n U : Nat} (hn : 0 < n) (h : ∀ i, i < n → u i ≤ U) : ∀ k, aS u n k ≤ k * U
  | 0 => Nat.zero_le _
  | k + 1 => by
    have h1 := a_le hn h k
    have h2 := h _ (b_lt (u := u) (k := k) (Nat.le_refl n) hn)
    rw [a_next, Nat.add_mul, Nat.one_mul]; omega

/-- The pulses with the waves' signs. -/
def sg (c : Nat → Int) (y : Nat → Nat) (i : Nat) : Int := if c i < 0 then -(y i : Int) else y i
theorem sg_abs (c : Nat → Int) (y : Nat → Nat) (i : Nat) : (sg c y i).natAbs = y i := by unfold sg; split <;> omega
/-- The waves' sizes. -/
def sz (c : Nat → Int) (i : Nat) : Nat := (c i).natAbs
/-- The pulses that are found. -/
def fS (c : Nat → Int) (n k : Nat) : Nat → Int := sg c (yS (sz c) n k)
theorem f_abs (c : Nat → Int) (n k i : Nat) : (fS c n k i).natAbs = yS (sz c) n k i := sg_abs _ _ _
/-- Products' bounds. -/
theorem mul_bd {x y X Y : Int} (h1 : -X ≤ x) (h2 : x ≤ X) (h3 : -Y ≤ y) (h4 : y ≤ Y) : -(X * Y) ≤ x * y ∧ x * y ≤ X * Y := by
  have hx : x.natAbs ≤ X.natAbs := by omega
  have hy : y.natAbs ≤ Y.natAbs := by omega
  have h := Nat.mul_le_mul hx hy
  rw [← Int.natAbs_mul, ← Int.natAbs_mul] at h
  have : 0 ≤ X * Y := Int.mul_nonneg (by omega) (by omega)
  omega
end Go.Proofs.YtfohinlldchdpaaGreatDoor.Sh
end

section
/- Plain mathematics of a range coder: a coder's state after cells, how the cells lie in one another, what a decoder's code is all along. -/
namespace Go.Proofs.YtfohinlldchdpaaGreatDoor.Rg

/-- A cell. -/
structure Cl where
  s : Nat
  w : Nat
  t : Nat
def Cl.ok (c : Cl) : Prop := 1 ≤ c.t ∧ c.t ≤ 32768 ∧ 1 ≤ c.w ∧ c.s + c.w ≤ c.t

/-- A coder: low as a whole number of 4 + g bytes, the range, how many bytes it has gone. -/
structure St where
  L : Nat
  r : Nat
  g : Nat
/-- How many times a range is taken 256 times. -/
def sh (q : Nat) : Nat := if 16777216 ≤ q then 0 else if 65536 ≤ q then 1 else if 256 ≤ q then 2 else 3
def St.put (x : St) (c : Cl) : St := ⟨(x.L + x.r / c.t * c.s) * 256 ^ sh (x.r / c.t * c.w), x.r / c.t * c.w * 256 ^ sh (x.r / c.t * c.w), x.g + sh (x.r / c.t * c.w)⟩
def St.run (x : St) (l : List Cl) : St := l.foldl St.put x
def St.new : St := ⟨0, 4294967295, 0⟩
/-- What holds of a coder all along. -/
def St.ok (x : St) : Prop := 16777216 ≤ x.r ∧ x.r ≤ 4294967295 ∧ x.L + x.r < 4294967296 * 256 ^ x.g

theorem sh_spec {q : Nat} (h : 1 ≤ q) (h2 : q ≤ 4294967295) : 16777216 ≤ q * 256 ^ sh q ∧ q * 256 ^ sh q ≤ 4294967295 := by
  unfold sh
  by_cases h1 : 16777216 ≤ q
  · rw [if_pos h1]; omega
  · rw [if_neg h1]
    by_cases h2 : 65536 ≤ q
    · rw [if_pos h2]; omega
    · rw [if_neg h2]
      by_cases h3 : 256 ≤ q
      · rw [if_pos h3]; omega
      · rw [if_neg h3]; omega
theorem sh_le (q : Nat) : sh q ≤ 3 := by unfold sh; split <;> (try split) <;> (try split) <;> omega

/-- The step, and that a cell's end is no further than the range. -/
theorem step_bd {x : St} {c : Cl} (hx : x.ok) (hc : c.ok) : 512 ≤ x.r / c.t ∧ x.r / c.t * c.s + x.r / c.t * c.w ≤ x.r ∧ 1 ≤ x.r / c.t * c.w ∧ x.r / c.t * c.w ≤ 4294967295 := by
  obtain ⟨h1, h2, _⟩ := hx
  obtain ⟨t1, t2, w1, e⟩ := hc
  have s1 : 512 ≤ x.r / c.t := by
    rw [Nat.le_div_iff_mul_le t1]
    omega
  have s2 : x.r / c.t * (c.s + c.w) ≤ x.r := Nat.le_trans (Nat.mul_le_mul_left _ e) (Nat.div_mul_le_self _ _)
  rw [Nat.mul_add] at s2
  have s3 : 1 ≤ x.r / c.t * c.w := Nat.mul_pos (by omega) w1
  omega

theorem put_ok {x : St} {c : Cl} (hx : x.ok) (hc : c.ok) : (x.put c).ok := by
  obtain ⟨b1, b2, b3, b4⟩ := step_bd hx hc
  obtain ⟨q1, q2⟩ := sh_spec b3 b4
  refine ⟨q1, q2, ?_⟩
  unfold St.put
  dsimp only
  rw [← Nat.add_mul, Nat.pow_add, ← Nat.mul_assoc]
  exact Nat.mul_lt_mul_of_pos_right (by have := hx.2.2; omega) (Nat.pow_pos (by omega))
theorem new_ok : St.new.ok := by unfold St.ok St.new; dsimp only; omega
theorem run_ok : ∀ {l : List Cl} {x : St}, x.ok → (∀ c ∈ l, c.ok) → (x.run l).ok
  | [], _, hx, _ => hx
  | c :: l, x, hx, hl => run_ok (l := l) (x := x.put c) (put_ok hx (hl c (by simp))) fun d hd => hl d (by simp [hd])
theorem run_g : ∀ (l : List Cl) (x : St), x.g ≤ (x.run l).g
  | [], _ => Nat.le_refl _
  | c :: l, x => Nat.le_trans (show x.g ≤ (x.put c).g by unfold St.put; dsimp only; omega) (run_g l (x.put c))

/-- A later coder's low lies in the cell of an earlier one. -/
theorem nest : ∀ {l : List Cl} {x : St}, x.ok → (∀ c ∈ l, c.ok) → x.L * 256 ^ ((x.run l).g - x.g) ≤ (x.run l).L ∧ (x.run l).L + (x.run l).r ≤ (x.L + x.r) * 256 ^ ((x.run l).g - x.g)
  | [], x, _, _ => by
    have e : (x.run []) = x := rfl
    rw [e, Nat.sub_self, Nat.pow_zero, Nat.mul_one, Nat.mul_one]
    exact ⟨Nat.le_refl _, Nat.le_refl _⟩
  | c :: l, x, hx, hl => by
    have hc := hl c (by simp)
    obtain ⟨b1, b2, b3, b4⟩ := step_bd hx hc
    obtain ⟨n1, n2⟩ := nest (l := l) (x := x.put c) (put_ok hx hc) fun d hd => hl d (by simp [hd])
    have e : (x.run (c :: l)) = (x.put c).run l := rfl
    rw [e]
    have hg := run_g l (x.put c)
    have eg : (x.put c).g = x.g + sh (x.r / c.t * c.w) := rfl
    have eL : (x.put c).L = (x.L + x.r / c.t * c.s) * 256 ^ sh (x.r / c.t * c.w) := rfl
    have er : (x.put c).r = x.r / c.t * c.w * 256 ^ sh (x.r / c.t * c.w) := rfl
    rw [show ((x.put c).run l).g - x.g = sh (x.r / c.t * c.w) + (((x.put c).run l).g - (x.put c).g) by omega, Nat.pow_add]
    rw [eL] at n1
    rw [eL, er, ← Nat.add_mul] at n2
    generalize 256 ^ sh (x.r / c.t * c.w) = A at *
    generalize 256 ^ (((x.put c).run l).g - (x.put c).g) = B at *
    refine ⟨Nat.le_trans ?_ n1, Nat.le_trans n2 ?_⟩
    · rw [← Nat.mul_assoc]
      exact Nat.mul_le_mul_right _ (Nat.mul_le_mul_right _ (by omega))
    · rw [← Nat.mul_assoc]
      exact Nat.mul_le_mul_right _ (Nat.mul_le_mul_right _ (by omega))

/-- What a decoder of the number N of 4 + G bytes has as its code where the coder is x. -/
def code (N G : Nat) (x : St) : Nat := N / 256 ^ (G - x.g) - x.L
/-- N lies in x's cell. -/
def In (N G : Nat) (x : St) : Prop := x.g ≤ G ∧ x.L ≤ N / 256 ^ (G - x.g) ∧ N / 256 ^ (G - x.g) < x.L + x.r

theorem in_of {l : List Cl} {x : St} (hx : x.ok) (hl : ∀ c ∈ l, c.ok) : In (x.run l).L (x.run l).g x := by
  obtain ⟨n1, n2⟩ := nest hx hl
  have hr := (run_ok hx hl).1
  have hp : 0 < 256 ^ ((x.run l).g - x.g) := Nat.pow_pos (by omega)
  refine ⟨run_g l x, (Nat.le_div_iff_mul_le hp).2 n1, (Nat.div_lt_iff_lt_mul hp).2 (by omega)⟩

/-- The place lies in the cell that was put. -/
theorem place_in {N G : Nat} {x : St} {c : Cl} (hx : x.ok) (hc : c.ok) (h : In N G (x.put c)) :
    x.r / c.t * c.s ≤ code N G x ∧ code N G x < x.r / c.t * (c.s + c.w) ∧ x.L ≤ N / 256 ^ (G - x.g) := by
  obtain ⟨h1, h2, h3⟩ := h
  obtain ⟨b1, b2, b3, b4⟩ := step_bd hx hc
  have eg : (x.put c).g = x.g + sh (x.r / c.t * c.w) := rfl
  have eL : (x.put c).L = (x.L + x.r / c.t * c.s) * 256 ^ sh (x.r / c.t * c.w) := rfl
  have er : (x.put c).r = x.r / c.t * c.w * 256 ^ sh (x.r / c.t * c.w) := rfl
  have hp : 0 < 256 ^ sh (x.r / c.t * c.w) := Nat.pow_pos (by omega)
  have e : N / 256 ^ (G - x.g) = N / 256 ^ (G - (x.put c).g) / 256 ^ sh (x.r / c.t * c.w) := by
    rw [Nat.div_div_eq_div_mul, ← Nat.pow_add, show G - (x.put c).g + sh (x.r / c.t * c.w) = G - x.g by omega]
  rw [eL] at h2
  rw [eL, er, ← Nat.add_mul] at h3
  have k1 : x.L + x.r / c.t * c.s ≤ N / 256 ^ (G - x.g) := by rw [e]; exact (Nat.le_div_iff_mul_le hp).2 h2
  have k2 : N / 256 ^ (G - x.g) < x.L + x.r / c.t * c.s + x.r / c.t * c.w := by rw [e]; exact (Nat.div_lt_iff_lt_mul hp).2 h3
  unfold code
  rw [Nat.mul_add]
  omega
theorem place_of {u p s w t : Nat} (h0 : 0 < u) (h1 : u * s ≤ p) (h2 : p < u * (s + w)) (ht : s + w ≤ t) : s ≤ min (p / u) (t - 1) ∧ min (p / u) (t - 1) < s + w := by
  have a : s ≤ p / u := (Nat.le_div_iff_mul_le h0).2 (by rw [Nat.mul_comm]; exact h1)
  have b : p / u < s + w := (Nat.div_lt_iff_lt_mul h0).2 (by rw [Nat.mul_comm (s + w)]; exact h2)
  omega

/-- The byte number i of the number N of 4 + G bytes, and 0 behind its end. -/
def digit (N G i : Nat) : Nat := if i < 4 + G then N / 256 ^ (3 + G - i) % 256 else 0
theorem digit_lt (N G i : Nat) : digit N G i < 256 := by unfold digit; split <;> omega

/-- A code that is taken 256 times, with the next byte. -/
theorem code_next {N G g : Nat} (h : g < G) : N / 256 ^ (G - (g + 1)) = N / 256 ^ (G - g) * 256 + digit N G (4 + g) := by
  unfold digit
  rw [if_pos (by omega), show 3 + G - (4 + g) = G - (g + 1) by omega, show G - g = (G - (g + 1)) + 1 by omega, Nat.pow_succ, ← Nat.div_div_eq_div_mul]
  generalize N / 256 ^ (G - (g + 1)) = z
  omega
/-- The first four bytes. -/
theorem code_first (N G : Nat) (h : N < 4294967296 * 256 ^ G) : N / 256 ^ G = ((digit N G 0 * 256 + digit N G 1) * 256 + digit N G 2) * 256 + digit N G 3 := by
  unfold digit
  rw [if_pos (by omega), if_pos (by omega), if_pos (by omega), if_pos (by omega), show 3 + G - 3 = G by omega, show 3 + G - 2 = G + 1 by omega, show 3 + G - 1 = G + 1 + 1 by omega, show 3 + G - 0 = G + 1 + 1 + 1 by omega]
  simp only [Nat.pow_succ, ← Nat.div_div_eq_div_mul]
  have hz : N / 256 ^ G < 4294967296 := (Nat.div_lt_iff_lt_mul (Nat.pow_pos (by omega))).2 h
  generalize N / 256 ^ G = z at *
  omega

/-- What a decoder does to its code behind a cell: k times, from the byte number at on. -/
def nextC (N G at' : Nat) : Nat → Nat → Nat
  | 0, c => c
  | k + 1, c => nextC N G (at' + 1) k (c * 256 + digit N G at')
theorem nextC_code {N G : Nat} : ∀ (k g L : Nat), g + k ≤ G → L ≤ N / 256 ^ (G - g) → nextC N G (4 + g) k (N / 256 ^ (G - g) - L) = N / 256 ^ (G - (g + k)) - L * 256 ^ k
  | 0, g, L, _, _ => by simp [nextC]
  | k + 1, g, L, hg, hL => by
    have hn := code_next (N := N) (G := G) (g := g) (by omega)
    have ih := nextC_code (N := N) (G := G) k (g + 1) (L * 256) (by omega) (by omega)
    rw [nextC, show (N / 256 ^ (G - g) - L) * 256 + digit N G (4 + g) = N / 256 ^ (G - (g + 1)) - L * 256 by rw [hn, Nat.sub_mul]; have := Nat.mul_le_mul_right 256 hL; omega]
    rw [show 4 + g + 1 = 4 + (g + 1) by omega, ih, show g + 1 + k = g + (k + 1) by omega, Nat.pow_succ, Nat.mul_assoc, Nat.mul_comm 256]
/-- Behind the cell that was put the decoder's code is again the coder's. -/
theorem take_code {N G : Nat} {x : St} {c : Cl} (hx : x.ok) (hc : c.ok) (h : In N G (x.put c)) :
    nextC N G (4 + x.g) (sh (x.r / c.t * c.w)) (code N G x - x.r / c.t * c.s) = code N G (x.put c) := by
  obtain ⟨p1, p2, p3⟩ := place_in hx hc h
  have hg : x.g + sh (x.r / c.t * c.w) ≤ G := h.1
  unfold code at *
  rw [show N / 256 ^ (G - x.g) - x.L - x.r / c.t * c.s = N / 256 ^ (G - x.g) - (x.L + x.r / c.t * c.s) by omega]
  exact nextC_code _ _ _ hg (by omega)
end Go.Proofs.YtfohinlldchdpaaGreatDoor.Rg
end
