/- Texts of the walk, one behind the other. -/
import Derived.Test.YtimhemcoflpmcaaGreatDoorDecPlaysM6
import Derived.Test.YtimhemcoflpmcaaGreatDoorDecPlaysM5

section
/- Contract of rang's Bits (of a decoder). -/
set_option maxRecDepth 100000
set_option linter.unusedVariables false
namespace Go.Proofs.YtimhemcoflpmcaaGreatDoor.Rg
open Go.RowKit Go.Proofs.YtimhemcoflpmcaaGreatDoor.Row

theorem pow8 (n : Nat) : 1 ≤ 2 ^ min n 8 ∧ 2 ^ min n 8 ≤ 256 := by
  have h1 := Nat.pow_le_pow_right (n := 2) (by omega) (Nat.min_le_right n 8)
  have h2 : 1 ≤ 2 ^ min n 8 := Nat.one_le_two_pow
  exact ⟨h2, h1⟩

/-- A number of n bits, taken: the number, and the decoder then. -/
def decB (f : Nat → Nat) : Nat → Nat → Dt → Nat × Dt
  | 0, _, d => (0, d)
  | k + 1, n, d => if n = 0 then (0, d) else
    (d.place (2 ^ min n 8) + 256 * (decB f k (n - min n 8) (d.take f ⟨d.place (2 ^ min n 8), 1, 2 ^ min n 8⟩)).1, (decB f k (n - min n 8) (d.take f ⟨d.place (2 ^ min n 8), 1, 2 ^ min n 8⟩)).2)

theorem decB_zero (f : Nat → Nat) (k : Nat) (d : Dt) : decB f k 0 d = (0, d) := by cases k <;> rfl

theorem placeCl_ok (d : Dt) (n : Nat) : (Cl.mk (d.place (2 ^ min n 8)) 1 (2 ^ min n 8)).ok := by
  have h := pow8 n
  have := place_lt d h.1
  exact ⟨h.1, by show 2 ^ min n 8 ≤ 32768; omega, Nat.le_refl _, by show d.place (2 ^ min n 8) + 1 ≤ 2 ^ min n 8; omega⟩

theorem decB_ok {f : Nat → Nat} : ∀ (k n : Nat) {d : Dt}, d.ok → (decB f k n d).2.ok ∧ (decB f k n d).2.g ≤ d.g + 2 * k
  | 0, _, _, h => ⟨h, Nat.le_refl _⟩
  | k + 1, n, d, h => by
    unfold decB
    split
    · exact ⟨h, Nat.le_add_right _ _⟩
    · have h1 := take_dt (f := f) h (placeCl_ok d n)
      have h2 := take_g (f := f) h (placeCl_ok d n)
      obtain ⟨h3, h4⟩ := decB_ok (f := f) k (n - min n 8) h1
      exact ⟨h3, by dsimp only; omega⟩

theorem decB_lt {f : Nat → Nat} : ∀ (k n : Nat) {d : Dt}, n ≤ 8 * k → (decB f k n d).1 < 2 ^ n
  | 0, n, _, h => by
    obtain rfl : n = 0 := by omega
    show 0 < 1
    omega
  | k + 1, n, d, h => by
    unfold decB
    split
    · subst n; show 0 < 1; omega
    · dsimp only
      have ih := decB_lt (f := f) k (n - min n 8) (d := d.take f ⟨d.place (2 ^ min n 8), 1, 2 ^ min n 8⟩) (by omega)
      have hp := place_lt d (pow8 n).1
      by_cases h8 : n ≤ 8
      · have e : min n 8 = n := by omega
        rw [e] at ih hp ⊢
        rw [Nat.sub_self] at ih ⊢
        rw [decB_zero]
        simpa using hp
      · have e : min n 8 = 8 := by omega
        rw [e] at ih hp ⊢
        generalize (decB f k (n - 8) (d.take f ⟨d.place (2 ^ 8), 1, 2 ^ 8⟩)).1 = v at *
        have e2 : 2 ^ n = 256 * 2 ^ (n - 8) := by rw [show (256 : Nat) = 2 ^ 8 by rfl, ← Nat.pow_add]; congr 1; omega
        rw [e2]
        have h256 : (2 : Nat) ^ 8 = 256 := rfl
        omega

theorem decBits_no (w : World) (p : Option Addr) (n : Int) (h : p = none ∨ ¬ (0 ≤ n ∧ n ≤ 24)) :
    Calls Tryz.prog 20 #[.pointer p, .int .i64 n] w fun e w' => e = .returned (.tuple #[.int .i64 0, .int .i64 1]) ∧ w = w' := by
  cases p with
  | none =>
    go_enter Tryz.func20, Tryz.ntmps20
    go_wp2
    go_ret2
    exact ⟨rfl, rfl⟩
  | some a =>
    have H := Lib.hid (h.resolve_left (by simp))
    clear h
    go_enter Tryz.func20, Tryz.ntmps20
    go_wp2_with (go_at_call 52; (with_reducible refine (isCount_no n _ H.out).mono ?_); rintro e w' ⟨rfl, rfl⟩)
    go_ret2
    exact ⟨rfl, rfl⟩

theorem or_bits (h : Nat) (x p : Nat) (hx : x < 2 ^ h) (hp : p < 256) (hh : h ≤ 16) : bits .or .i64 (x : Int) ((p : Int) * 2 ^ h) = ((x + p * 2 ^ h : Nat) : Int) := by
  have hw : ∀ n : Int, 0 ≤ n → n < 2 ^ 62 → IntKind.i64.wrap n = n := fun n h0 h1 => IntWalk.i64_in _ (by omega)
  have b1 : (2 : Nat) ^ h ≤ 65536 := Nat.pow_le_pow_right (by omega) hh
  have b2 : p * 2 ^ h ≤ 255 * 65536 := Nat.mul_le_mul (by omega) b1
  have e1 : ((p : Int) * 2 ^ h) = ((p * 2 ^ h : Nat) : Int) := by rw [Int.natCast_mul, Int.natCast_pow]; rfl
  have e := bits_join_low .i64 62 (by decide) hw h x ((p : Int) * 2 ^ h) (by omega) (by exact_mod_cast hx) (by omega) (by rw [e1]; omega) (by exact Int.mul_emod_left _ _) (by rw [e1]; omega)
  rw [e, e1]
  omega

theorem bits_next {F : Nat → Nat} {f n x h y p m Y K : Nat} {z E : Dt} (hz : z.ok) (hC : (Cl.mk p 1 (2 ^ m)).ok) (hB : decB F (f + 1) (n - h) z = (p + 256 * (decB F f (n - h - m) (z.take F ⟨p, 1, 2 ^ m⟩)).1, (decB F f (n - h - m) (z.take F ⟨p, 1, 2 ^ m⟩)).2))
    (hM : n - h - m = n - (h + 8)) (hZ : y + 2 ^ h * (decB F (f + 1) (n - h) z).1 = x ∧ (decB F (f + 1) (n - h) z).2 = E) (hY : y + p * 2 ^ h = Y) (hK : h + 8 = K) (hp : p < 256) (hy : y < 2 ^ h) (hn : n ≤ h + 8 * (f + 1)) (hf : h + 8 * (f + 1) = 24) (hg : z.g + 2 * (f + 1) ≤ 100000) (hf3 : f + 1 ≤ 3) :
    n ≤ K + 8 * f ∧ K + 8 * f = 24 ∧ Y < 2 ^ K ∧ (z.take F ⟨p, 1, 2 ^ m⟩).ok ∧ (z.take F ⟨p, 1, 2 ^ m⟩).g + 2 * f ≤ 100000 ∧ f ≤ 3 ∧ Hid (Y + 2 ^ K * (decB F f (n - K) (z.take F ⟨p, 1, 2 ^ m⟩)).1 = x ∧ (decB F f (n - K) (z.take F ⟨p, 1, 2 ^ m⟩)).2 = E) := by
  subst hY hK
  have h1 := take_g (f := F) hz hC
  have e : 2 ^ (h + 8) = 2 ^ h * 256 := by rw [Nat.pow_add]
  refine ⟨by omega, by omega, ?_, take_dt hz hC, by omega, by omega, Lib.hid ?_⟩
  · rw [e]
    have : p * 2 ^ h ≤ 255 * 2 ^ h := Nat.mul_le_mul_right _ (by omega)
    omega
  · rw [hB, hM] at hZ
    obtain ⟨z1, z2⟩ := hZ
    refine ⟨?_, z2⟩
    rw [← z1, e]
    dsimp only
    rw [Nat.mul_add, Nat.mul_comm p, Nat.mul_assoc, Nat.add_assoc]

set_option maxHeartbeats 2000000 in
theorem decBits_as (w : World) (b : Nat) (T : Nat → Prop) (s : List UInt8) (d : Dt) (n x : Nat) (h : DecIs w b T s d) (hd : d.ok) (hg : d.g ≤ 90000) (hn : n ≤ 24) (hs : s.length ≤ 9223372036854775800) (hx : (decB (byteF s) 3 n d).1 = x) :
    Calls Tryz.prog 20 #[.pointer (some ⟨b, 0, none⟩), .int .i64 n] w fun e w' => e = .returned (.tuple #[.int .i64 x, .int .i64 0]) ∧ DecIs w' b T s (decB (byteF s) 3 n d).2 ∧ Fr T w w' := by
  have H := Lib.hid h
  have HX := Lib.hid hx
  clear h hx
  go_enter Tryz.func20, Tryz.ntmps20
  go_wp2_with (go_at_call 52; (with_reducible refine (isCount_yes n _ (by omega) (by omega)).mono ?_); rintro e w' ⟨rfl, rfl⟩)
  go_loopw [6, 7] (fun a c w' => ∃ (f h y : Nat) (z : Dt), a = .int .i64 y ∧ c = .int .i64 h ∧ n ≤ h + 8 * f ∧ h + 8 * f = 24 ∧ y < 2 ^ h ∧ z.ok ∧ z.g + 2 * f ≤ 100000 ∧ f ≤ 3 ∧ Hid (y + 2 ^ h * (decB (byteF s) f (n - h) z).1 = x ∧ (decB (byteF s) f (n - h) z).2 = (decB (byteF s) 3 n d).2) ∧ DecIs w' b T s z ∧ Fr T w w') (fun _ c _ => (24 - intOf c).toNat)
  case atStart => exact ⟨3, 0, 0, d, rfl, rfl, by omega, by omega, by omega, hd, by omega, by omega, Lib.hid ⟨by rw [← HX.out]; simp, rfl⟩, H.out, Fr.refl _ _⟩
  case round =>
    obtain ⟨f, h, y, z, rfl, rfl, hnf, hf24, hy, hz, hzg, hf3, HZ, hD, hF⟩ := hrel
    have HD := Lib.hid hD
    have HF := Lib.hid hF
    clear hD hF H
    by_cases h0 : h < n
    · obtain ⟨f, rfl⟩ : ∃ f', f = f' + 1 := ⟨f - 1, by omega⟩
      have HB := Lib.hid (show decB (byteF s) (f + 1) (n - h) z = (z.place (2 ^ min (n - h) 8) + 256 * (decB (byteF s) f (n - h - min (n - h) 8) (z.take (byteF s) ⟨z.place (2 ^ min (n - h) 8), 1, 2 ^ min (n - h) 8⟩)).1, (decB (byteF s) f (n - h - min (n - h) 8) (z.take (byteF s) ⟨z.place (2 ^ min (n - h) 8), 1, 2 ^ min (n - h) 8⟩)).2) by rw [decB, if_neg (by omega)])
      have HC := Lib.hid (placeCl_ok z (n - h))
      obtain ⟨q1, q2⟩ := pow8 (n - h)
      obtain ⟨m, hm⟩ : ∃ m, min (n - h) 8 = m := ⟨_, rfl⟩
      have HMI := Lib.hid (show min ((n : Int) - h) 8 = (m : Int) by omega)
      have hm8 : m ≤ 8 := by omega
      have HM := Lib.hid (show n - h - m = n - (h + 8) by omega)
      rw [hm] at HB HC q1 q2
      obtain ⟨P, hP⟩ : ∃ P : Int, (2 : Int) ^ m = P := ⟨_, rfl⟩
      have hPn : ((2 ^ m : Nat) : Int) = P := by rw [← hP]; exact Int.natCast_pow 2 m
      have P1 : 1 ≤ P := by omega
      have P2 : P ≤ 256 := by omega
      have HPn := Lib.hid hPn
      obtain ⟨p, hp⟩ : ∃ p, z.place (2 ^ m) = p := ⟨_, rfl⟩
      have hp256 : p < 256 := by have := place_lt z q1; omega
      have HPP := Lib.hid hp
      rw [hp] at HB HC
      obtain ⟨Y, hY⟩ : ∃ Y, y + p * 2 ^ h = Y := ⟨_, rfl⟩
      have HOR := Lib.hid (show bits .or .i64 (y : Int) ((p : Int) * 2 ^ h) = (Y : Int) by rw [← hY]; exact or_bits h y p hy hp256 (by omega))
      obtain ⟨K, hK⟩ : ∃ K, h + 8 = K := ⟨_, rfl⟩
      have HK := Lib.hid hK
      have HNX := Lib.hid (bits_next (f := f) (x := x) hz HC.out HB.out HM.out HZ.out hY hK hp256 hy hnf hf24 hzg hf3)
      have hhv : h = 0 ∨ h = 8 ∨ h = 16 := by omega
      clear hm hPn hp
      rcases hhv with rfl | rfl | rfl
      all_goals
        have hmi := HMI.out
        simp only [Int.cast_ofNat_Int, Int.sub_zero] at hmi
        go_wp2_with fail
        refine (at_at _ b T s z P (2 ^ m) p HD.out hz HPn.out q1 (by omega) HPP.out).mono ?_
        rintro e w1 ⟨rfl, hb1⟩
        have HB1 := Lib.hid hb1
        clear hb1
        go_wp2_with fail
        refine (take_at _ b T s z ⟨p, 1, 2 ^ m⟩ _ _ _ (HD.out.below HB1.out) hz HC.out rfl rfl HPn.out (by omega) hs).mono ?_
        rintro e w2 ⟨rfl, hD2, hF2⟩
        have HD2 := Lib.hid hD2
        have HF2 := Lib.hid ((HF.out.below_trans HB1.out).same hF2)
        clear hD2 hF2
        go_wp2
        go_roundw
        case rel =>
          obtain ⟨n1, n2, n3, n4, n5, n6, n7⟩ := HNX.out
          exact ⟨f, K, Y, _, congrArg (Value.int .i64) (by have := HOR.out; simpa using this), by rw [← HK.out]; rfl, n1, n2, n3, n4, n5, n6, n7, HD2.out, HF2.out⟩
        case measure => simp [intOf]
    · have e0 : n - h = 0 := by omega
      have HQ := Lib.hid (show y = x ∧ z = (decB (byteF s) 3 n d).2 by have := HZ.out; rw [e0, decB_zero] at this; exact ⟨by simpa using this.1, this.2⟩)
      clear e0
      go_wp2
      go_ret2
      exact ⟨by rw [HQ.out.1]; rfl, by rw [← HQ.out.2]; exact HD.out, HF.out⟩
end Go.Proofs.YtimhemcoflpmcaaGreatDoor.Rg
end
