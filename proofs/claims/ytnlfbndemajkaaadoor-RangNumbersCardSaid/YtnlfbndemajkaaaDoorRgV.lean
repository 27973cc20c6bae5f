/- Contract of the document's cells of a number. -/
import Derived.Test.YtnlfbndemajkaaaDoorRgU
import Derived.Test.YtnlfbndemajkaaaDoorRgM
set_option maxRecDepth 100000
set_option linter.unusedVariables false
namespace Go.Proofs.YtnlfbndemajkaaaDoor.Rg
open Go.RowKit Go.Proofs.YtnlfbndemajkaaaDoor.Row

theorem one_cell (w : World) (C : Cl) (s t : Int) (h : (C.s : Int) = s ∧ C.w = 1 ∧ (C.t : Int) = t) :
    At (w.alloc (.cells #[.int .i64 s, .int .i64 1, .int .i64 t] 32)) w.heap.size #[.int .i64 C.s, .int .i64 C.w, .int .i64 C.t] 32 := by
  obtain ⟨rfl, h1, rfl⟩ := h
  rw [h1]
  exact At.new w #[.int .i64 C.s, .int .i64 1, .int .i64 C.t] 32

set_option maxHeartbeats 2000000 in
theorem refBits_as (x n : Nat) (w : World) (hn : n ≤ 24) (hx : x < 2 ^ 24) :
    Calls Tryd.prog 27 #[.int .i64 x, .int .i64 n] w fun e w' => RetCls w (bitsC 3 x n) e w' := by
  go_enter Tryd.func27, Tryd.ntmps27
  go_wp2
  go_loopw [0, 1, 5] (fun a c v w' => ∃ (f x' n' k : Nat) (P : List Cl) (ao : Option Addr) (cc : Nat), a = .int .i64 x' ∧ c = .int .i64 n' ∧ n' ≤ 8 * f ∧ n' ≤ 24 ∧ x' < 2 ^ 24 ∧ k + f ≤ 3 ∧ Hid (P ++ bitsC f x' n' = bitsC 3 x n) ∧ v = .slice ao k cc ∧ Cls w' w.heap.size ao k cc P ∧ Below w.heap.size w w') (fun _ c _ _ => (intOf c).toNat)
  case atStart => exact ⟨3, x, n, 0, [], none, 0, rfl, rfl, by omega, hn, hx, by omega, Lib.hid rfl, rfl, Cls.nil _ _, Below.refl _ _⟩
  case round =>
    obtain ⟨f, x', n', k, P, ao, cc, rfl, rfl, hnf, hn24, hx24, hkf, HZ, rfl, hC, hB⟩ := hrel
    have HC0 := Lib.hid hC
    have HB0 := Lib.hid hB
    clear hC hB hn hx
    by_cases h0 : 0 < n'
    · obtain ⟨f, rfl⟩ : ∃ f', f = f' + 1 := ⟨f - 1, by omega⟩
      have HB := Lib.hid (show bitsC (f + 1) x' n' = ⟨x' % 2 ^ min n' 8, 1, 2 ^ min n' 8⟩ :: bitsC f (x' / 2 ^ min n' 8) (n' - min n' 8) by rw [bitsC, if_neg (by omega)])
      obtain ⟨q1, q2⟩ := pow8 n'
      have hdiv := Nat.div_le_self x' (2 ^ min n' 8)
      obtain ⟨m, hm⟩ : ∃ m, min n' 8 = m := ⟨_, rfl⟩
      have hmin : ∀ W, (Builtin.min_ #[3, 3] 3 #[.int .i64 n', .int .i64 8]).run Tryd.prog W = .ok (.int .i64 m) W := fun W => by
        rw [← hm]
        simp [Builtin.min_, Builtin.min2]
        split <;> omega
      have hm8 : m ≤ 8 := by omega
      have hm1 : 1 ≤ m := by omega
      have hmn : m ≤ n' := by omega
      have hnm : n' - m ≤ 8 * f := by omega
      rw [hm] at HB q1 q2 hdiv
      obtain ⟨Q, hQ⟩ : ∃ Q : Int, (2 : Int) ^ m = Q := ⟨_, rfl⟩
      have hQn : ((2 ^ m : Nat) : Int) = Q := by rw [← hQ]; exact Int.natCast_pow 2 m
      have P1 : 1 ≤ Q := by omega
      have P0 : ¬ Q = 0 := by omega
      have P00 : (Q == 0) = false := by rw [beq_eq_false_iff_ne]; exact P0
      have hrem : (x' : Int).tmod Q = (x' : Int) % Q := Int.tmod_eq_emod_of_nonneg (by omega)
      obtain ⟨Z, hZq⟩ : ∃ Z : Int, (x' : Int) / Q = Z := ⟨_, rfl⟩
      have hquo : (x' : Int).tdiv Q = Z := by rw [← hZq]; exact Int.tdiv_eq_ediv_of_nonneg (by omega)
      have P2 : Q ≤ 256 := by omega
      have HE1 := Lib.hid (show ((x' % 2 ^ m : Nat) : Int) = (x' : Int) % Q by rw [← hQn]; exact Int.natCast_emod _ _)
      have he2 : ((x' / 2 ^ m : Nat) : Int) = Z := by rw [← hZq, ← hQn]; exact Int.natCast_ediv _ _
      have z1 : 0 ≤ Z := he2 ▸ Int.natCast_nonneg _
      have z2 : Z ≤ x' := by rw [← he2]; exact Int.ofNat_le.2 hdiv
      have HE2 := Lib.hid he2
      have HQn := Lib.hid hQn
      have HQ := Lib.hid (show (2 : Int) ^ (m : Int).toNat = Q by rw [Int.toNat_natCast]; exact hQ)
      have HD := Lib.hid (show x' / 2 ^ m < 2 ^ 24 by omega)
      have hx63 : (x' : Int) ≤ 16777216 := by omega
      clear hm hQn hQ hdiv q1 q2 he2 hZq
      go_wp2_with (first
        | (go_at_call 20; (with_reducible refine (Ref01.pow_as (m : Int) Q _ (by omega) (by omega) HQ.out).mono ?_); rintro e w' ⟨rfl, rfl⟩)
        | (at_builtin; refine wpList_append_cell rfl _ _ rfl w.heap.size P ⟨x' % 2 ^ m, 1, 2 ^ m⟩ ao k cc rfl (HC0.out.below ((Below.refl _ _).alloc (Nat.le_refl _) _)) wr.heap.size rfl (one_cell _ _ _ _ ⟨HE1.out, rfl, HQn.out⟩) (by omega) (by have := HB0.out.size; simp; omega) ?_))
      intro a9 c9 w9 hC2 hB2 _
      have HC2 := Lib.hid hC2
      have HB2 := Lib.hid ((below_trans HB0.out ((Below.refl _ _).alloc (Nat.le_refl _) (.cells #[.int .i64 ((x' : Int) % Q), .int .i64 1, .int .i64 Q] 32)) HB0.out.size).trans hB2)
      clear hC2 hB2
      go_wp2
      go_roundw
      case rel =>
        refine ⟨f, x' / 2 ^ m, n' - m, k + 1, P ++ [⟨x' % 2 ^ m, 1, 2 ^ m⟩], a9, c9, by rw [HE2.out], by rw [Int.natCast_sub hmn], by omega, by omega, HD.out, by omega, ?_, rfl, HC2.out, HB2.out⟩
        exact Lib.hid (by rw [← HZ.out, HB.out, List.append_assoc]; rfl)
      case measure => simp [intOf]; omega
    · obtain rfl : n' = 0 := by omega
      have HQ := Lib.hid (show P = bitsC 3 x n by rw [← HZ.out, bitsC_zero, List.append_nil])
      have HR : Hid (RetCls w (bitsC 3 x n) (.returned (.slice ao k cc)) wr) := by
        have e : (bitsC 3 x n).length = k := by rw [← HQ.out]; exact HC0.out.1
        exact ⟨ao, cc, by rw [e], by rw [e, ← HQ.out]; exact HC0.out, HB0.out⟩
      go_wp2
      go_ret
      exact HR
end Go.Proofs.YtnlfbndemajkaaaDoor.Rg
