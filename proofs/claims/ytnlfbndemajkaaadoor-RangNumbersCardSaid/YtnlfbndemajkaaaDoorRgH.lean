/- Contracts of rang's Bits (of a coder, of a decoder). -/
import Derived.Test.YtnlfbndemajkaaaDoorRgG
import Derived.Test.YtnlfbndemajkaaaDoorCPow
set_option maxRecDepth 100000
set_option linter.unusedVariables false
namespace Go.Proofs.YtnlfbndemajkaaaDoor.Rg
open Go.RowKit Go.Proofs.YtnlfbndemajkaaaDoor.Row

/-- A number's cells: k times eight bits at most. -/
def bitsC : Nat → Nat → Nat → List Cl
  | 0, _, _ => []
  | k + 1, x, n => if n = 0 then [] else ⟨x % 2 ^ min n 8, 1, 2 ^ min n 8⟩ :: bitsC k (x / 2 ^ min n 8) (n - min n 8)
theorem pow8 (n : Nat) : 1 ≤ 2 ^ min n 8 ∧ 2 ^ min n 8 ≤ 256 := by
  have h1 := Nat.pow_le_pow_right (n := 2) (by omega) (Nat.min_le_right n 8)
  have h2 : 1 ≤ 2 ^ min n 8 := Nat.one_le_two_pow
  exact ⟨h2, h1⟩
theorem bitCl_ok (x n : Nat) : (Cl.mk (x % 2 ^ min n 8) 1 (2 ^ min n 8)).ok := by
  have h := pow8 n
  have := Nat.mod_lt x (show 2 ^ min n 8 > 0 by omega)
  exact ⟨h.1, by show 2 ^ min n 8 ≤ 32768; omega, Nat.le_refl _, by show x % 2 ^ min n 8 + 1 ≤ 2 ^ min n 8; omega⟩
theorem bitsC_ok : ∀ (k x n : Nat), ∀ C ∈ bitsC k x n, C.ok
  | 0, _, _, C, h => by cases h
  | k + 1, x, n, C, h => by
    unfold bitsC at h
    split at h
    · cases h
    · rcases List.mem_cons.1 h with rfl | h
      · exact bitCl_ok x n
      · exact bitsC_ok k _ _ C h
theorem bitsC_zero (k x : Nat) : bitsC k x 0 = [] := by cases k <;> rfl
theorem bitsC_len : ∀ (k x n : Nat), (bitsC k x n).length ≤ k
  | 0, _, _ => Nat.le_refl _
  | k + 1, x, n => by
    unfold bitsC
    split
    · exact Nat.zero_le _
    · have := bitsC_len k (x / 2 ^ min n 8) (n - min n 8)
      simp; omega

/-- A coder of other bytes, in the same blocks or new ones, nothing else changed. -/
def EncGo (w : World) (b : Nat) (T : Nat → Prop) (size : Nat) (y : St) (w' : World) : Prop := ∃ T', EncIs w' b T' size y ∧ Fr T w w' ∧ ∀ k, T' k → T k ∨ w.heap.size ≤ k
theorem PutS.go {w w' : World} {b : Nat} {T : Nat → Prop} {size : Nat} {y : St} (h : PutS w b T size y.r y.g y w') : EncGo w b T size y w' := by
  obtain ⟨T', low, bs, rest, h1, h2, h3, h4⟩ := h
  exact ⟨T', ⟨low, bs, rest, h1, h2⟩, h3, h4⟩
theorem EncGo.start {w : World} {b : Nat} {T : Nat → Prop} {size : Nat} {y : St} (h : EncIs w b T size y) : EncGo w b T size y w := ⟨T, h, Fr.refl _ _, fun _ h => .inl h⟩
theorem EncGo.next {w w1 w2 : World} {b : Nat} {T T1 : Nat → Prop} {size : Nat} {y : St} (hF : Fr T w w1) (hT : ∀ k, T1 k → T k ∨ w.heap.size ≤ k) (h : EncGo w1 b T1 size y w2) : EncGo w b T size y w2 := by
  obtain ⟨T2, h1, h2, h3⟩ := h
  refine ⟨T2, h1, hF.trans h2 fun i hi hu => (hT i hu).elim id fun h => absurd h (by omega), fun k hk => ?_⟩
  rcases h3 k hk with h3 | h3
  · exact hT k h3
  · exact .inr (Nat.le_trans hF.size h3)

theorem put_at (w : World) (b : Nat) (T : Nat → Prop) (size : Nat) (x : St) (C : Cl) (s v t : Int) (h : EncIs w b T size x) (hx : x.ok) (hC : C.ok) (hs : (C.s : Int) = s) (hv : (C.w : Int) = v) (ht : (C.t : Int) = t) (hsz : size ≤ 4096) (hg : x.g ≤ 100000) :
    Calls Tryd.prog 12 #[.pointer (some ⟨b, 0, none⟩), .int .i64 s, .int .i64 v, .int .i64 t] w fun e w' => e = .returned (.int .i64 0) ∧ EncGo w b T size (x.put C) w' := by
  subst hs hv ht
  exact (put_as w b T size x C.s C.w C.t h hx hC hsz hg).mono fun e w' ⟨he, hp⟩ => ⟨he, hp.go⟩

theorem encBits_no (w : World) (p : Option Addr) (x n : Int) (h : p = none ∨ ¬ (0 ≤ n ∧ n ≤ 24) ∨ x < 0 ∨ 2 ^ n.toNat ≤ x) :
    Calls Tryd.prog 19 #[.pointer p, .int .i64 x, .int .i64 n] w fun e w' => e = .returned (.int .i64 1) ∧ w = w' := by
  cases p with
  | none =>
    go_enter Tryd.func19, Tryd.ntmps19
    go_wp2
    go_ret
    exact ⟨rfl, rfl⟩
  | some a =>
    have h := h.resolve_left (by simp)
    by_cases hn : 0 ≤ n ∧ n ≤ 24
    · have h := h.resolve_left (fun hh => hh hn)
      obtain ⟨n1, n2⟩ := hn
      by_cases hx : x < 0
      · clear h
        go_enter Tryd.func19, Tryd.ntmps19
        go_wp2_with (go_at_call 40; (with_reducible refine (isCount_yes n _ n1 n2).mono ?_); rintro e w' ⟨rfl, rfl⟩)
        go_ret
        exact ⟨rfl, rfl⟩
      · have hx2 := h.resolve_left hx
        obtain ⟨p1, p2⟩ := Ref01.pow_bd (show n.toNat ≤ 24 by omega)
        obtain ⟨P, hP⟩ : ∃ P : Int, (2 : Int) ^ n.toNat = P := ⟨_, rfl⟩
        rw [hP] at p1 p2 hx2
        simp only [Int.reducePow] at p2
        have hx0 : 0 ≤ x := by omega
        clear h hx
        go_enter Tryd.func19, Tryd.ntmps19
        go_wp2_with (go_at_call 40; (with_reducible refine (isCount_yes n _ n1 n2).mono ?_); rintro e w' ⟨rfl, rfl⟩)
        go_ret
        exact ⟨rfl, rfl⟩
    · clear h
      have HN := Lib.hid hn
      clear hn
      go_enter Tryd.func19, Tryd.ntmps19
      go_wp2_with (go_at_call 40; (with_reducible refine (isCount_no n _ HN.out).mono ?_); rintro e w' ⟨rfl, rfl⟩)
      go_ret
      exact ⟨rfl, rfl⟩

set_option maxHeartbeats 2000000 in
theorem encBits_as (w : World) (b : Nat) (T : Nat → Prop) (size : Nat) (y : St) (x n : Nat) (h : EncIs w b T size y) (hy : y.ok) (hsz : size ≤ 4096) (hg : y.g ≤ 90000) (hn : n ≤ 24) (hx : x < 2 ^ n) :
    Calls Tryd.prog 19 #[.pointer (some ⟨b, 0, none⟩), .int .i64 x, .int .i64 n] w fun e w' => e = .returned (.int .i64 0) ∧ EncGo w b T size (y.run (bitsC 3 x n)) w' := by
  have G0 := Lib.hid (EncGo.start h)
  obtain ⟨P, hP⟩ : ∃ P : Int, (2 : Int) ^ n = P := ⟨_, rfl⟩
  have hxP : (x : Int) < P := by rw [← hP]; exact_mod_cast hx
  have hPb : P ≤ 16777216 := by
    have := (Ref01.pow_bd hn).2
    rw [hP] at this
    simpa using this
  have H24 := Lib.hid (show x < 2 ^ n from hx)
  clear h hx
  go_enter Tryd.func19, Tryd.ntmps19
  go_wp2_with (go_at_call 40; (with_reducible refine (isCount_yes n _ (by omega) (by omega)).mono ?_); rintro e w' ⟨rfl, rfl⟩)
  go_loopw [1, 2] (fun a c w' => ∃ (f x' n' : Nat) (z : St), a = .int .i64 x' ∧ c = .int .i64 n' ∧ n' ≤ 8 * f ∧ n' ≤ 24 ∧ x' < 2 ^ 24 ∧ z.ok ∧ z.g + 2 * f ≤ 100000 ∧ f ≤ 3 ∧ Hid (z.run (bitsC f x' n') = y.run (bitsC 3 x n)) ∧ EncGo w b T size z w') (fun _ c _ => (intOf c).toNat)
  case atStart => exact ⟨3, x, n, y, rfl, rfl, by omega, hn, by omega, hy, by omega, by omega, Lib.hid rfl, G0.out⟩
  case round =>
    obtain ⟨f, x', n', z, rfl, rfl, hnf, hn24, hx24, hz, hzg, hf3, HZ, hgo⟩ := hrel
    have HG := Lib.hid hgo
    clear hgo G0 hxP hPb hP hy hg hn
    by_cases h0 : 0 < n'
    · obtain ⟨f, rfl⟩ : ∃ f', f = f' + 1 := ⟨f - 1, by omega⟩
      have HB := Lib.hid (show bitsC (f + 1) x' n' = ⟨x' % 2 ^ min n' 8, 1, 2 ^ min n' 8⟩ :: bitsC f (x' / 2 ^ min n' 8) (n' - min n' 8) by rw [bitsC, if_neg (by omega)])
      have HC := Lib.hid (bitCl_ok x' n')
      obtain ⟨q1, q2⟩ := pow8 n'
      have hdiv := Nat.div_le_self x' (2 ^ min n' 8)
      have hmod := Nat.mod_lt x' (show 2 ^ min n' 8 > 0 by omega)
      obtain ⟨m, hm⟩ : ∃ m, min n' 8 = m := ⟨_, rfl⟩
      have hmin : ∀ W, (Builtin.min_ #[3, 3] 3 #[.int .i64 n', .int .i64 8]).run Tryd.prog W = .ok (.int .i64 m) W := fun W => by
        rw [← hm]
        simp [Builtin.min_, Builtin.min2]
        split <;> omega
      have hm8 : m ≤ 8 := by omega
      have hm1 : 1 ≤ m := by omega
      have hmn : m ≤ n' := by omega
      have hnm : n' - m ≤ 8 * f := by omega
      rw [hm] at HB HC q1 q2 hdiv hmod
      obtain ⟨P, hP⟩ : ∃ P : Int, (2 : Int) ^ m = P := ⟨_, rfl⟩
      have hPn : ((2 ^ m : Nat) : Int) = P := by rw [← hP]; exact Int.natCast_pow 2 m
      have P1 : 1 ≤ P := by omega
      have P0 : ¬ P = 0 := by omega
      have hwp : IntKind.i64.wrap P = P := IntWalk.i64_in _ (by omega)
      have P00 : (P == 0) = false := by rw [beq_eq_false_iff_ne]; exact P0
      have hrem : (x' : Int).tmod P = (x' : Int) % P := Int.tmod_eq_emod_of_nonneg (by omega)
      have P2 : P ≤ 256 := by omega
      have HE1 := Lib.hid (show ((x' % 2 ^ m : Nat) : Int) = (x' : Int) % P by rw [← hPn]; exact Int.natCast_emod _ _)
      have HE2 := Lib.hid (show ((x' / 2 ^ m : Nat) : Int) = (x' : Int) / P by rw [← hPn]; exact Int.natCast_ediv _ _)
      have HPn := Lib.hid hPn
      have HD := Lib.hid (show x' / 2 ^ m < 2 ^ 24 by omega)
      obtain ⟨T1, hE, hF, hT⟩ := HG.out
      have HE := Lib.hid hE
      have HF := Lib.hid hF
      have HT := Lib.hid hT
      have HZ1 := Lib.hid (put_ok hz HC.out)
      have HZG := Lib.hid (put_g hz HC.out)
      have hx63 : (x' : Int) ≤ 16777216 := by omega
      clear hm hPn hE hF hT hdiv hmod q1 q2
      go_wp2_with fail
      go_region_with ((go_at_call 12; refine (put_at _ b T1 size z ⟨x' % 2 ^ m, 1, 2 ^ m⟩ _ _ _ (by exact HE.out) hz HC.out HE1.out rfl HPn.out hsz (by omega)).mono ?_; rintro e w1 ⟨rfl, hg1⟩; have HG1 := Lib.hid hg1; clear hg1))
      have HG2 := Lib.hid (show EncGo w b T size (z.put ⟨x' % 2 ^ m, 1, 2 ^ m⟩) w1 from EncGo.next (HF.out.drew) HT.out HG1.out)
      clear hwp hrem P00 P0
      go_wp2
      go_roundw
      case rel =>
        refine ⟨f, x' / 2 ^ m, n' - m, z.put ⟨x' % 2 ^ m, 1, 2 ^ m⟩, by rw [HE2.out], by rw [Int.natCast_sub hmn], by omega, by omega, HD.out, HZ1.out, by have := HZG.out; omega, by omega, ?_, HG2.out⟩
        exact Lib.hid (by rw [← HZ.out, HB.out]; rfl)
      case measure => simp [intOf]; omega
    · obtain rfl : n' = 0 := by omega
      have HQ := Lib.hid (show z = y.run (bitsC 3 x n) by rw [← HZ.out, bitsC_zero]; rfl)
      go_wp2
      go_ret
      exact ⟨rfl, by rw [← HQ.out]; exact HG.out⟩
end Go.Proofs.YtnlfbndemajkaaaDoor.Rg
