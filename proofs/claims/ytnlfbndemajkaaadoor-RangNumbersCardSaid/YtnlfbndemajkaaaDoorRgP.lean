/- Numbers that are put in bits are met again: mathematics; a coder and a decoder side by side in a law's world. -/
import Derived.Test.YtnlfbndemajkaaaDoorRgO
set_option maxRecDepth 100000
set_option linter.unusedVariables false
namespace Go.Proofs.YtnlfbndemajkaaaDoor.Rg
open Go.RowKit Go.Proofs.YtnlfbndemajkaaaDoor.Row

theorem in_back {N G : Nat} {x : St} {C : Cl} (hx : x.ok) (hC : C.ok) (h : In N G (x.put C)) : In N G x := by
  obtain ⟨p1, p2, p3⟩ := place_in hx hC h
  obtain ⟨b1, b2, b3, b4⟩ := step_bd hx hC
  have hg : (x.put C).g = x.g + sh (x.r / C.t * C.w) := rfl
  have h1 := h.1
  refine ⟨by omega, p3, ?_⟩
  unfold code at p2
  rw [Nat.mul_add] at p2
  omega
theorem in_run {N G : Nat} : ∀ {l : List Cl} {x : St}, x.ok → (∀ C ∈ l, C.ok) → In N G (x.run l) → In N G x
  | [], _, _, _, h => h
  | C :: l, x, hx, hl, h => in_back hx (hl C (by simp)) (in_run (l := l) (x := x.put C) (put_ok hx (hl C (by simp))) (fun D hD => hl D (by simp [hD])) h)

theorem bits_met {N G : Nat} : ∀ (k n X : Nat) {x : St}, x.ok → n ≤ 8 * k → X < 2 ^ n → In N G (x.run (bitsC k X n)) → decB (digit N G) k n (dtOf N G x) = (X, dtOf N G (x.run (bitsC k X n)))
  | 0, n, X, x, _, hn, hX, _ => by
    obtain rfl : n = 0 := by omega
    obtain rfl : X = 0 := by simp at hX; omega
    rfl
  | k + 1, n, X, x, hx, hn, hX, h => by
    by_cases h0 : n = 0
    · subst h0
      obtain rfl : X = 0 := by simp at hX; omega
      rw [decB_zero, bitsC_zero]; rfl
    · have hC := bitCl_ok X n
      rw [bitsC, if_neg h0] at h ⊢
      have h' : In N G ((x.put ⟨X % 2 ^ min n 8, 1, 2 ^ min n 8⟩).run (bitsC k (X / 2 ^ min n 8) (n - min n 8))) := h
      have hin := in_run (put_ok hx hC) (bitsC_ok _ _ _) h'
      obtain ⟨q1, q2, q3⟩ := in_step hx hC hin
      have hp : (dtOf N G x).place (2 ^ min n 8) = X % 2 ^ min n 8 := by dsimp only at q1 q2; omega
      have hlt : X / 2 ^ min n 8 < 2 ^ (n - min n 8) := by
        rw [Nat.div_lt_iff_lt_mul (Nat.pow_pos (by omega)), ← Nat.pow_add, show n - min n 8 + min n 8 = n by omega]
        exact hX
      rw [decB, if_neg h0, hp, q3, bits_met k (n - min n 8) (X / 2 ^ min n 8) (put_ok hx hC) (by omega) hlt h']
      have e : X % 2 ^ min n 8 + 256 * (X / 2 ^ min n 8) = X := by
        by_cases h8 : n ≤ 8
        · have e1 : min n 8 = n := by omega
          rw [e1, Nat.div_eq_of_lt hX, Nat.mod_eq_of_lt hX]
          omega
        · have e1 : min n 8 = 8 := by omega
          rw [e1]
          have h256 : (2 : Nat) ^ 8 = 256 := rfl
          omega
      exact Prod.ext e rfl

/-- The cells of the first j numbers. -/
def numsC (xs : Nat → Nat × Nat) : Nat → List Cl
  | 0 => []
  | j + 1 => numsC xs j ++ bitsC 3 (xs j).1 (xs j).2
theorem numsC_ok (xs : Nat → Nat × Nat) : ∀ j, ∀ C ∈ numsC xs j, C.ok
  | 0, C, h => by cases h
  | j + 1, C, h => by
    rcases List.mem_append.1 h with h | h
    · exact numsC_ok xs j C h
    · exact bitsC_ok _ _ _ C h
/-- The coder behind the first j numbers. -/
def nSt (xs : Nat → Nat × Nat) (j : Nat) : St := St.new.run (numsC xs j)
theorem nSt_next (xs : Nat → Nat × Nat) (j : Nat) : nSt xs (j + 1) = (nSt xs j).run (bitsC 3 (xs j).1 (xs j).2) := run_append _ _ _
theorem nSt_ok (xs : Nat → Nat × Nat) (j : Nat) : (nSt xs j).ok := run_ok new_ok (numsC_ok xs j)
theorem numsC_len (xs : Nat → Nat × Nat) : ∀ j, (numsC xs j).length ≤ 3 * j
  | 0 => Nat.le_refl _
  | j + 1 => by
    have h1 := numsC_len xs j
    have h2 := bitsC_len 3 (xs j).1 (xs j).2
    unfold numsC
    rw [List.length_append]
    omega
theorem nSt_g (xs : Nat → Nat × Nat) (j : Nat) : (nSt xs j).g ≤ 6 * j := by
  have h1 := run_g_le new_ok (numsC_ok xs j)
  have h2 := numsC_len xs j
  have h3 : St.new.g = 0 := rfl
  unfold nSt
  omega
theorem nSt_in (xs : Nat → Nat × Nat) {N G : Nat} (j : Nat) : ∀ d, In N G (nSt xs (j + d)) → In N G (nSt xs j)
  | 0, h => h
  | d + 1, h => nSt_in xs j d (in_run (nSt_ok xs _) (bitsC_ok _ _ _) (nSt_next xs (j + d) ▸ h))
theorem nSt_end (xs : Nat → Nat × Nat) {j m : Nat} (h : j ≤ m) : In (nSt xs m).L (nSt xs m).g (nSt xs j) := by
  obtain ⟨d, rfl⟩ : ∃ d, m = j + d := ⟨m - j, by omega⟩
  exact nSt_in xs j d (in_of (l := []) (x := nSt xs (j + d)) (nSt_ok xs _) fun _ h => by cases h)
/-- The next number, met by a decoder in step. -/
theorem nSt_met (xs : Nat → Nat × Nat) {j m : Nat} (h : j < m) (h24 : (xs j).2 ≤ 24) (hx : (xs j).1 < 2 ^ (xs j).2) :
    decB (digit (nSt xs m).L (nSt xs m).g) 3 (xs j).2 (dtOf (nSt xs m).L (nSt xs m).g (nSt xs j)) = ((xs j).1, dtOf (nSt xs m).L (nSt xs m).g (nSt xs (j + 1))) := by
  have h2 := nSt_end xs (show j + 1 ≤ m by omega)
  rw [nSt_next] at h2 ⊢
  exact bits_met 3 _ _ (nSt_ok xs j) (by omega) hx h2

theorem bits_on (w0 w : World) (b : Nat) (size : Nat) (y : St) (x n : Nat) (X K : Int) (hX : (x : Int) = X) (hK : (n : Int) = K) (h : EncOn w0 b size y w) (hy : y.ok) (hsz : size ≤ 4096) (hg : y.g ≤ 90000) (hn : n ≤ 24) (hx : x < 2 ^ n) :
    Calls Tryd.prog 19 #[.pointer (some ⟨b, 0, none⟩), .int .i64 X, .int .i64 K] w fun e w' => e = .returned (.int .i64 0) ∧ EncOn w0 b size (y.run (bitsC 3 x n)) w' := by
  subst hX hK
  obtain ⟨T, h1, h2, h3⟩ := h
  exact (encBits_as w b T size y x n h1 hy hsz hg hn hx).mono fun e w' ⟨he, hg⟩ => ⟨he, EncOn.go (x := y) h2 h3 hg⟩

/-- A coder and a decoder of a law that began in W. -/
def Both (W : World) (b : Nat) (x : St) (bd : Nat) (t : List UInt8) (d : Dt) (w' : World) : Prop :=
  ∃ T U, EncIs w' b T 1000 x ∧ DecIs w' bd U t d ∧ (∀ k, T k → W.heap.size ≤ k ∧ ¬ U k) ∧ (∀ k, U k → W.heap.size ≤ k) ∧ Below W.heap.size W w'
theorem Both.below {W w w' : World} {b bd : Nat} {x : St} {t : List UInt8} {d : Dt} (h : Both W b x bd t d w) (hb : Below w.heap.size w w') : Both W b x bd t d w' := by
  obtain ⟨T, U, h1, h2, h3, h4, h5⟩ := h
  exact ⟨T, U, h1.below hb, h2.below hb, h3, h4, below_trans h5 hb h5.size⟩
theorem Both.out {W w : World} {b bd : Nat} {x : St} {t : List UInt8} {d : Dt} (h : Both W b x bd t d w) : Below W.heap.size W w := by
  obtain ⟨T, U, h1, h2, h3, h4, h5⟩ := h
  exact h5
theorem Both.new {W w w' : World} {b bd : Nat} {x : St} {t : List UInt8} {d : Dt} {U : Nat → Prop} (h : EncOn W b 1000 x w) (hd : DecIs w' bd U t d) (hU : ∀ k, U k → w.heap.size ≤ k) (hb : Below w.heap.size w w') : Both W b x bd t d w' := by
  obtain ⟨T, h1, h2, h3⟩ := h
  obtain ⟨T0, h4, h5⟩ := h1.tight
  exact ⟨T0, U, h4.below hb, hd, fun k hk => ⟨h2 k (h5 k hk).1, fun hu => by have := hU k hu; have := (h5 k hk).2; omega⟩, fun k hk => Nat.le_trans h3.size (hU k hk), below_trans h3 hb h3.size⟩

theorem bits_both (W w : World) (b bd : Nat) (x : St) (t : List UInt8) (d d' : Dt) (n y : Nat) (K : Int) (hK : (n : Int) = K) (h : Both W b x bd t d w) (hd : d.ok) (hg : d.g ≤ 90000) (hn : n ≤ 24) (hs : t.length ≤ 9223372036854775800) (hx : decB (byteF t) 3 n d = (y, d')) :
    Calls Tryd.prog 21 #[.pointer (some ⟨bd, 0, none⟩), .int .i64 K] w fun e w' => e = .returned (.tuple #[.int .i64 y, .int .i64 0]) ∧ Both W b x bd t d' w' := by
  subst hK
  obtain ⟨T, U, h1, h2, h3, h4, h5⟩ := h
  refine (decBits_as w bd U t d n y h2 hd hg hn hs (by rw [hx])).mono fun e w' ⟨he, h6, h7⟩ => ⟨he, T, U, h1.fr h7 fun k hk => (h3 k hk).2, by rw [hx] at h6; exact h6, h3, h4, h5.trans (h7.below h5.size h4)⟩
theorem decUsed_both (W w : World) (b bd : Nat) (x : St) (t : List UInt8) (d : Dt) (u : Int) (h : Both W b x bd t d w) (hd : d.ok) (hg : d.g ≤ 1000000000) (hu : d.used = u) :
    Calls Tryd.prog 18 #[.pointer (some ⟨bd, 0, none⟩)] w fun e w' => e = .returned (.int .i64 u) ∧ Both W b x bd t d w' := by
  obtain ⟨T, U, h1, h2, h3, h4, h5⟩ := id h
  exact (decUsed_as w bd U t d u h2 hd hg hu).mono fun e w' ⟨he, hb⟩ => ⟨he, h.below hb⟩
theorem encUsed_both (W w : World) (b bd : Nat) (x : St) (t : List UInt8) (d : Dt) (u : Int) (h : Both W b x bd t d w) (hr : x.r ≤ 4294967295) (hg : x.g ≤ 1000000000) (hu : x.used = u) :
    Calls Tryd.prog 13 #[.pointer (some ⟨b, 0, none⟩)] w fun e w' => e = .returned (.int .i64 u) ∧ Both W b x bd t d w' := by
  obtain ⟨T, U, h1, h2, h3, h4, h5⟩ := id h
  exact (encUsed_as w b T 1000 x u h1 hr hg hu).mono fun e w' ⟨he, hb⟩ => ⟨he, h.below hb⟩

/-- The law's numbers: what is put, in how many bits. -/
def numP (f0 f1 : Nat → Int) (i : Nat) : Nat × Nat := ((f0 i).toNat % 2 ^ ((f1 i).toNat % 25), (f1 i).toNat % 25)
theorem numP_bits (f0 f1 : Nat → Int) (i : Nat) : (numP f0 f1 i).2 ≤ 24 ∧ (numP f0 f1 i).1 < 2 ^ (numP f0 f1 i).2 := by
  have := Nat.mod_lt (f1 i).toNat (show 25 > 0 by omega)
  exact ⟨by show (f1 i).toNat % 25 ≤ 24; omega, Nat.mod_lt _ (Nat.pow_pos (by omega))⟩
/-- What a round of the law reckons. -/
theorem numP_reckon (f0 f1 : Nat → Int) (i : Nat) (h0 : 0 ≤ f0 i) (h1 : 0 ≤ f1 i) : ∃ K P X : Int, (f1 i).tmod 25 = K ∧ (2 : Int) ^ K.toNat = P ∧ (f0 i).tmod P = X ∧ ((numP f0 f1 i).1 : Int) = X ∧ ((numP f0 f1 i).2 : Int) = K ∧ 0 ≤ K ∧ K ≤ 24 ∧ 1 ≤ P ∧ P ≤ 16777216 := by
  obtain ⟨a, ha⟩ := Int.eq_ofNat_of_zero_le h0
  obtain ⟨c, hc⟩ := Int.eq_ofNat_of_zero_le h1
  obtain ⟨p1, p2⟩ := Ref01.pow_bd (show c % 25 ≤ 24 by omega)
  simp only [Int.reducePow] at p2
  refine ⟨((c % 25 : Nat) : Int), 2 ^ (c % 25), ((a % 2 ^ (c % 25) : Nat) : Int), ?_, ?_, ?_, ?_, ?_, by omega, by omega, p1, by omega⟩
  · rw [hc, Int.tmod_eq_emod_of_nonneg (by omega)]; omega
  · rw [Int.toNat_natCast]
  · rw [ha, Int.tmod_eq_emod_of_nonneg (by omega), Int.natCast_emod, Int.natCast_pow]; rfl
  · unfold numP; rw [ha, hc]; rfl
  · unfold numP; rw [hc]; rfl
end Go.Proofs.YtnlfbndemajkaaaDoor.Rg
