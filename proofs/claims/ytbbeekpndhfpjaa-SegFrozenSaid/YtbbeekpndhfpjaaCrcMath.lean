/- The plain mathematics of the sum: a step of one bit on natural numbers, its linearity, rows of steps, the number of a text. -/
namespace Go.Proofs.Ytbbeekpndhfpjaa.Crc

/-- What r is made one with. -/
def MX : Nat := 2197175160

/-- One bit falls out of r. -/
def T (r : Nat) : Nat := r / 2 ^^^ (r % 2 * MX)

/-- n bits fall out. -/
def Tn : Nat → Nat → Nat
  | 0, r => r
  | n + 1, r => Tn n (T r)

theorem xor_mod2 (a b : Nat) : (a ^^^ b) % 2 = (a % 2 + b % 2) % 2 := by
  have h := Nat.xor_mod_two_pow (a := a) (b := b) (n := 1)
  rw [Nat.pow_one] at h
  rw [h]
  rcases Nat.mod_two_eq_zero_or_one a with h1 | h1 <;> rcases Nat.mod_two_eq_zero_or_one b with h2 | h2 <;> rw [h1, h2] <;> rfl

theorem xor_div2 (a b : Nat) : (a ^^^ b) / 2 = a / 2 ^^^ b / 2 := by
  have h := Nat.xor_div_two_pow (a := a) (b := b) (n := 1)
  rwa [Nat.pow_one] at h

theorem bit_mul (a b M : Nat) : ((a % 2 + b % 2) % 2 * M) = (a % 2 * M) ^^^ (b % 2 * M) := by
  rcases Nat.mod_two_eq_zero_or_one a with h1 | h1 <;> rcases Nat.mod_two_eq_zero_or_one b with h2 | h2 <;> rw [h1, h2] <;> simp

theorem xor4 (a b c d : Nat) : (a ^^^ b) ^^^ (c ^^^ d) = (a ^^^ c) ^^^ (b ^^^ d) := by
  rw [Nat.xor_assoc, Nat.xor_assoc, ← Nat.xor_assoc b, ← Nat.xor_assoc c, Nat.xor_comm b c]

theorem T_xor (a b : Nat) : T (a ^^^ b) = T a ^^^ T b := by
  unfold T
  rw [xor_div2, xor_mod2, bit_mul, xor4]

theorem Tn_xor : ∀ (n a b : Nat), Tn n (a ^^^ b) = Tn n a ^^^ Tn n b
  | 0, _, _ => rfl
  | n + 1, a, b => by simp only [Tn]; rw [T_xor, Tn_xor n]

theorem Tn_zero : ∀ n, Tn n 0 = 0
  | 0 => rfl
  | n + 1 => by simp only [Tn]; rw [show T 0 = 0 from by decide]; exact Tn_zero n

theorem Tn_add : ∀ (m n r : Nat), Tn (m + n) r = Tn n (Tn m r)
  | 0, n, r => by rw [Nat.zero_add]; rfl
  | m + 1, n, r => by rw [Nat.add_right_comm]; simp only [Tn]; exact Tn_add m n (T r)

theorem T_even (r : Nat) : T (2 * r) = r := by
  unfold T
  rw [Nat.mul_mod_right, Nat.zero_mul, Nat.xor_zero]
  omega

theorem Tn_shift : ∀ (n r : Nat), Tn n (2 ^ n * r) = r
  | 0, r => by simp [Tn]
  | n + 1, r => by
    simp only [Tn]
    rw [Nat.pow_succ, Nat.mul_comm (2 ^ n) 2, Nat.mul_assoc, T_even]
    exact Tn_shift n r

theorem T_lt (r : Nat) (h : r < 4294967296) : T r < 4294967296 := by
  unfold T
  have h1 : r / 2 < 2 ^ 32 := by omega
  have h2 : r % 2 * MX < 2 ^ 32 := by
    unfold MX
    rcases Nat.mod_two_eq_zero_or_one r with h1 | h1 <;> rw [h1] <;> decide
  exact Nat.xor_lt_two_pow h1 h2

theorem Tn_lt : ∀ (n r : Nat), r < 4294967296 → Tn n r < 4294967296
  | 0, _, h => h
  | n + 1, r, h => by simp only [Tn]; exact Tn_lt n (T r) (T_lt r h)

theorem eq_of_xor {a b : Nat} (h : a ^^^ b = 0) : a = b := by
  have e := congrArg (fun x => x ^^^ b) h
  simp only [Nat.xor_assoc, Nat.xor_self, Nat.xor_zero, Nat.zero_xor] at e
  exact e

theorem T_ne (r : Nat) (h : r < 4294967296) (h0 : r ≠ 0) : T r ≠ 0 := by
  unfold T
  intro e
  have e1 := eq_of_xor e
  unfold MX at e1
  omega

theorem Tn_ne : ∀ (n r : Nat), r < 4294967296 → r ≠ 0 → Tn n r ≠ 0
  | 0, _, _, h0 => h0
  | n + 1, r, h, h0 => by simp only [Tn]; exact Tn_ne n (T r) (T_lt r h) (T_ne r h h0)

/-- A number is its upper part and its lowest bits, made one. -/
theorem split_low (k r : Nat) : r = (2 ^ k * (r / 2 ^ k)) ^^^ (r % 2 ^ k) := by
  have h1 : r % 2 ^ k < 2 ^ k := Nat.mod_lt _ (Nat.two_pow_pos k)
  have e := Nat.div_add_mod r (2 ^ k)
  have o := Nat.two_pow_add_eq_or_of_lt h1 (r / 2 ^ k)
  apply Nat.eq_of_testBit_eq
  intro i
  rw [Nat.testBit_xor, Nat.testBit_two_pow_mul, Nat.testBit_div_two_pow, Nat.testBit_mod_two_pow]
  by_cases hi : i < k
  · simp [hi, Nat.not_le.2 hi]
  · have hk : k ≤ i := Nat.le_of_not_lt hi
    simp [hi, hk, Nat.sub_add_cancel hk]

theorem Tn_low (k r : Nat) : Tn k r = r / 2 ^ k ^^^ Tn k (r % 2 ^ k) := by
  have h := congrArg (Tn k) (split_low k r)
  rw [Tn_xor, Tn_shift] at h
  exact h

theorem step4 (r : Nat) : r / 16 ^^^ Tn 4 (r % 16) = Tn 4 r := (Tn_low 4 r).symm

/-- One byte of a text. -/
def byteStep (r c : Nat) : Nat := Tn 8 (r ^^^ c)

/-- A text. -/
def run (r : Nat) (l : List UInt8) : Nat := l.foldl (fun r c => byteStep r c.toNat) r

theorem step44 (r : Nat) : Tn 4 (Tn 4 r) = Tn 8 r := (Tn_add 4 4 r).symm

theorem byte_lt (c : UInt8) : c.toNat < 256 := c.toNat_lt

theorem xor_lt32 {a b : Nat} (ha : a < 4294967296) (hb : b < 4294967296) : a ^^^ b < 4294967296 := Nat.xor_lt_two_pow (n := 32) ha hb

theorem byteStep_lt (r : Nat) (c : UInt8) (h : r < 4294967296) : byteStep r c.toNat < 4294967296 :=
  Tn_lt 8 _ (xor_lt32 h (by have := byte_lt c; omega))

theorem run_lt : ∀ (l : List UInt8) (r : Nat), r < 4294967296 → run r l < 4294967296
  | [], _, h => h
  | c :: l, r, h => by unfold run; rw [List.foldl_cons]; exact run_lt l _ (byteStep_lt r c h)

theorem run_snoc (r : Nat) (l : List UInt8) (c : UInt8) : run r (l ++ [c]) = byteStep (run r l) c.toNat := by
  unfold run; rw [List.foldl_append]; rfl

theorem run_append (r : Nat) (l m : List UInt8) : run r (l ++ m) = run (run r l) m := by
  unfold run; rw [List.foldl_append]

/-- All ones. -/
def ON : Nat := 4294967295

theorem xor_ones (r : Nat) (h : r < 4294967296) : ON ^^^ r = 4294967295 - r := by
  apply Nat.eq_of_testBit_eq
  intro i
  rw [Nat.testBit_xor, show (4294967295 - r : Nat) = 2 ^ 32 - (r + 1) from by omega, Nat.testBit_two_pow_sub_succ h, show ON = 2 ^ 32 - 1 from rfl, Nat.testBit_two_pow_sub_one]
  by_cases hi : i < 32
  · simp [hi]
  · have : r.testBit i = false := Nat.testBit_lt_two_pow (Nat.lt_of_lt_of_le h (Nat.pow_le_pow_right (n := 2) (by omega) (Nat.le_of_not_lt hi) : 2 ^ 32 ≤ 2 ^ i))
    simp [hi, this]

/-- More. -/
def moreS (x : Nat) (l : List UInt8) : Nat := 4294967295 - run (4294967295 - x) l

theorem moreS_lt (x : Nat) (l : List UInt8) : moreS x l < 4294967296 := by unfold moreS; omega

theorem moreS_append (x : Nat) (l m : List UInt8) : moreS (moreS x l) m = moreS x (l ++ m) := by
  unfold moreS
  have h := run_lt l (4294967295 - x) (by omega)
  rw [run_append, show 4294967295 - (4294967295 - run (4294967295 - x) l) = run (4294967295 - x) l from by omega]

theorem moreS_nil (x : Nat) (h : x < 4294967296) : moreS x [] = x := by
  unfold moreS; show 4294967295 - (4294967295 - x) = x; omega

/-- Two texts, byte by byte made one. -/
def xors (l m : List UInt8) : List UInt8 := List.zipWith (fun a b => a ^^^ b) l m

theorem run_xor : ∀ (l m : List UInt8) (r q : Nat), l.length = m.length → run r l ^^^ run q m = run (r ^^^ q) (xors l m)
  | [], [], _, _, _ => rfl
  | a :: l, b :: m, r, q, h => by
    have e : byteStep r a.toNat ^^^ byteStep q b.toNat = byteStep (r ^^^ q) (a ^^^ b).toNat := by
      unfold byteStep
      rw [← Tn_xor, UInt8.toNat_xor, xor4]
    have hr := run_xor l m (byteStep r a.toNat) (byteStep q b.toNat) (by simpa using h)
    rw [e] at hr
    exact hr

theorem line (l m n : List UInt8) (h1 : l.length = m.length) (h2 : m.length = n.length) :
    moreS 0 l ^^^ moreS 0 m ^^^ moreS 0 n = moreS 0 (xors (xors l m) n) := by
  have k1 := run_lt l 4294967295 (by omega)
  have k2 := run_lt m 4294967295 (by omega)
  have k3 := run_lt n 4294967295 (by omega)
  have k4 := run_lt (xors (xors l m) n) 4294967295 (by omega)
  unfold moreS
  rw [Nat.sub_zero, ← xor_ones _ k1, ← xor_ones _ k2, ← xor_ones _ k3, ← xor_ones _ k4]
  have e1 := run_xor l m 4294967295 4294967295 h1
  have e2 := run_xor (xors l m) n (4294967295 ^^^ 4294967295) 4294967295 (by unfold xors; rw [List.length_zipWith]; omega)
  rw [Nat.xor_self, Nat.zero_xor, ← Nat.xor_self 4294967295, ← e1] at e2
  rw [← e2]
  generalize run 4294967295 l = a
  generalize run 4294967295 m = b
  generalize run 4294967295 n = c
  rw [xor4 ON a ON b, Nat.xor_self, Nat.zero_xor, ← Nat.xor_assoc, Nat.xor_comm (a ^^^ b) ON, Nat.xor_assoc]

/-- A text's number, the first byte the lowest. -/
def num : List UInt8 → Nat
  | [] => 0
  | c :: l => c.toNat ^^^ (2 ^ 8 * num l)

theorem run_num : ∀ (l : List UInt8) (r : Nat), run r l = Tn (8 * l.length) (r ^^^ num l)
  | [], r => by simp [run, num, Tn]
  | c :: l, r => by
    have e := run_num l (byteStep r c.toNat)
    have e1 : byteStep r c.toNat ^^^ num l = Tn 8 (r ^^^ num (c :: l)) := by
      show Tn 8 (r ^^^ c.toNat) ^^^ num l = Tn 8 (r ^^^ (c.toNat ^^^ 2 ^ 8 * num l))
      rw [← Nat.xor_assoc, Tn_xor 8 (r ^^^ c.toNat), Tn_shift]
    rw [e1, ← Tn_add] at e
    rw [List.length_cons, Nat.mul_succ, Nat.add_comm]
    exact e

theorem num_inj : ∀ (l m : List UInt8), l.length = m.length → num l = num m → l = m
  | [], [], _, _ => rfl
  | a :: l, b :: m, h, e => by
    unfold num at e
    have d (c : UInt8) (x : Nat) : (c.toNat ^^^ (2 ^ 8 * x)) % 2 ^ 8 = c.toNat ∧ (c.toNat ^^^ (2 ^ 8 * x)) / 2 ^ 8 = x := by
      have hc := byte_lt c
      rw [Nat.xor_mod_two_pow, Nat.xor_div_two_pow, Nat.mul_mod_right, Nat.xor_zero, Nat.mul_div_cancel_left _ (by decide), Nat.div_eq_of_lt hc, Nat.zero_xor]
      exact ⟨Nat.mod_eq_of_lt hc, rfl⟩
    have ea : a.toNat = b.toNat := by rw [← (d a (num l)).1, e, (d b (num m)).1]
    have el : num l = num m := by rw [← (d a (num l)).2, e, (d b (num m)).2]
    rw [UInt8.toNat_inj.1 ea, num_inj l m (by simpa using h) el]

/-- One bit of a text is turned. -/
theorem num_flip : ∀ (l : List UInt8) (k j : Nat) (hk : k < l.length), j < 8 → ∀ c : UInt8, c.toNat = l[k].toNat ^^^ 2 ^ j →
    num (l.set k c) = num l ^^^ 2 ^ (8 * k + j)
  | a :: l, 0, j, hk, hj, c, hc => by
    simp only [List.getElem_cons_zero] at hc
    simp only [List.set_cons_zero, num]
    rw [hc, Nat.xor_assoc, Nat.xor_assoc, Nat.xor_comm (2 ^ j)]; simp
  | a :: l, k + 1, j, hk, hj, c, hc => by
    have hk' : k < l.length := by simpa using hk
    simp only [List.getElem_cons_succ] at hc
    have e := num_flip l k j hk' hj c hc
    simp only [List.set_cons_succ, num]
    rw [e, Nat.xor_assoc, show 8 * (k + 1) + j = 8 + (8 * k + j) from by omega, Nat.pow_add 2 8]
    congr 1
    have := Nat.shiftLeft_xor_distrib (a := num l) (b := 2 ^ (8 * k + j)) (i := 8)
    simp only [Nat.shiftLeft_eq] at this
    rw [Nat.mul_comm, this, Nat.mul_comm (num l), Nat.mul_comm (2 ^ (8 * k + j))]

/-- A text l of which up to 32 bits from the bit f on are turned: m. -/
def Turned (l m : List UInt8) (f i : Nat) : Prop := m.length = l.length ∧ ∃ d, d < 2 ^ i ∧ num m = num l ^^^ 2 ^ f * d

theorem turned_zero (l : List UInt8) (f : Nat) : Turned l l f 0 := ⟨rfl, 0, by decide, by simp⟩

theorem turned_skip {l m : List UInt8} {f i : Nat} (h : Turned l m f i) : Turned l m f (i + 1) := by
  obtain ⟨h1, d, hd, e⟩ := h
  exact ⟨h1, d, by rw [Nat.pow_succ]; omega, e⟩

theorem turned_flip {l m : List UInt8} {f i : Nat} (h : Turned l m f i) (hk : (f + i) / 8 < m.length) (c : UInt8)
    (hc : c.toNat = m[(f + i) / 8].toNat ^^^ 2 ^ ((f + i) % 8)) : Turned l (m.set ((f + i) / 8) c) f (i + 1) := by
  obtain ⟨h1, d, hd, e⟩ := h
  refine ⟨by rw [List.length_set]; exact h1, d ^^^ 2 ^ i, ?_, ?_⟩
  · exact Nat.xor_lt_two_pow (by rw [Nat.pow_succ]; omega) (Nat.pow_lt_pow_right (by omega) (by omega))
  · rw [num_flip m _ _ hk (Nat.mod_lt _ (by omega)) c hc, Nat.div_add_mod, e, Nat.xor_assoc]
    congr 1
    have := Nat.shiftLeft_xor_distrib (a := d) (b := 2 ^ i) (i := f)
    simp only [Nat.shiftLeft_eq] at this
    rw [Nat.mul_comm _ (d ^^^ 2 ^ i), this, Nat.mul_comm d, Nat.mul_comm (2 ^ i), Nat.pow_add]

/-- Turned texts have unlike sums, if they are unlike. -/
theorem burst {l m : List UInt8} {f : Nat} (h : Turned l m f 32) (hf : f ≤ 8 * l.length) : (moreS 0 m = moreS 0 l) ↔ m = l := by
  obtain ⟨h1, d, hd, e⟩ := h
  constructor
  · intro hs
    have k1 := run_lt l 4294967295 (by omega)
    have k2 := run_lt m 4294967295 (by omega)
    unfold moreS at hs
    have hr : run 4294967295 m = run 4294967295 l := by rw [Nat.sub_zero] at hs; omega
    rw [run_num, run_num, h1, e, ← Nat.xor_assoc, Tn_xor (8 * l.length) (4294967295 ^^^ num l)] at hr
    have hz : Tn (8 * l.length) (2 ^ f * d) = 0 := by
      have := congrArg (fun x => Tn (8 * l.length) (4294967295 ^^^ num l) ^^^ x) hr
      simp only [← Nat.xor_assoc, Nat.xor_self, Nat.zero_xor] at this
      exact this
    have hz2 : Tn (8 * l.length - f) d = 0 := by
      rw [show 8 * l.length = f + (8 * l.length - f) from by omega, Tn_add, Tn_shift] at hz
      exact hz
    have hd0 : d = 0 := Classical.byContradiction fun hn => Tn_ne _ d (by omega) hn hz2
    rw [hd0, Nat.mul_zero, Nat.xor_zero] at e
    exact num_inj m l h1 e
  · rintro rfl; rfl

/-- The document's bit: r and what is left of the byte. -/
def refBit (r b : Nat) : Nat := r / 2 ^^^ ((r % 2 + b % 2) % 2 * MX)

/-- n of the document's bits. -/
def refBits : Nat → Nat → Nat → Nat
  | 0, r, _ => r
  | n + 1, r, b => refBits n (refBit r b) (b / 2)

theorem refBits_eq : ∀ (n r b : Nat), refBits n r b ^^^ b / 2 ^ n = Tn n (r ^^^ b)
  | 0, r, b => by simp [refBits, Tn]
  | n + 1, r, b => by
    have e := refBits_eq n (refBit r b) (b / 2)
    have e1 : refBit r b ^^^ b / 2 = T (r ^^^ b) := by
      unfold refBit T
      rw [xor_div2, xor_mod2, Nat.xor_assoc, Nat.xor_comm (_ * MX), ← Nat.xor_assoc]
    rw [e1, Nat.div_div_eq_div_mul, ← Nat.pow_succ'] at e
    exact e

theorem refBits_byte (r : Nat) (c : UInt8) : refBits 8 r c.toNat = byteStep r c.toNat := by
  have e := refBits_eq 8 r c.toNat
  rw [Nat.div_eq_of_lt (byte_lt c), Nat.xor_zero] at e
  exact e

theorem refBits_snoc : ∀ (n r b : Nat), refBits (n + 1) r b = refBit (refBits n r b) (b / 2 ^ n)
  | 0, r, b => by simp [refBits]
  | n + 1, r, b => by
    have e := refBits_snoc n (refBit r b) (b / 2)
    rw [Nat.div_div_eq_div_mul, ← Nat.pow_succ'] at e
    exact e

theorem refBit_lt (r b : Nat) (h : r < 4294967296) : refBit r b < 4294967296 := by
  unfold refBit
  have h1 : r / 2 < 2 ^ 32 := by omega
  have h2 : (r % 2 + b % 2) % 2 * MX < 2 ^ 32 := by
    unfold MX
    rcases Nat.mod_two_eq_zero_or_one (r % 2 + b % 2) with h1 | h1 <;> rw [h1] <;> decide
  exact Nat.xor_lt_two_pow h1 h2

theorem refBits_lt : ∀ (n r b : Nat), r < 4294967296 → refBits n r b < 4294967296
  | 0, _, _, h => h
  | n + 1, r, b, h => by simp only [refBits]; exact refBits_lt n _ _ (refBit_lt r b h)

end Go.Proofs.Ytbbeekpndhfpjaa.Crc
