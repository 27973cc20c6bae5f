/- Contracts of rang's NewEnc, Put, Used (of a coder). -/
import Derived.Test.YtidbagkkkpfkbaaDoorRgC
set_option maxRecDepth 100000
set_option linter.unusedVariables false
namespace Go.Proofs.YtidbagkkkpfkbaaDoor.Rg
open Go.RowKit Go.Proofs.YtidbagkkkpfkbaaDoor.Row

/-- A coder that has range and bytes gone as told, and whose bytes are x's, in T's blocks or new ones, nothing else changed. -/
def PutS (w : World) (b : Nat) (T : Nat → Prop) (size r g : Nat) (x : St) (w' : World) : Prop :=
  ∃ (T' : Nat → Prop) (low : Nat) (bs : List UInt8) (rest : Nat), EncMem w' b T' size r g low bs rest ∧ Rep size x low bs rest ∧ Fr T w w' ∧ ∀ k, T' k → T k ∨ w.heap.size ≤ k
/-- A coder at block b, in T's blocks: x. -/
def EncIs (w : World) (b : Nat) (T : Nat → Prop) (size : Nat) (x : St) : Prop :=
  ∃ (low : Nat) (bs : List UInt8) (rest : Nat), EncMem w b T size x.r x.g low bs rest ∧ Rep size x low bs rest

theorem EncMem.lowed {w : World} {b size r g low rest : Nat} {T : Nat → Prop} {bs : List UInt8} (h : EncMem w b T size r g low bs rest) (M : Nat) : EncMem (w.setCell ⟨b, 3, none⟩ (.int .u32 M)) b T size r g M bs rest := by
  obtain ⟨h1, a, c, hA, hO, hK⟩ := h
  exact ⟨h1, a, c, hA.setCell, Fr.owns (T := Just b) ((Fr.refl _ _).setCell (.inl (Just.self b)) _) hO fun i hi e => (hK i hi).2 e, hK⟩
theorem EncMem.drewN {w : World} {b size r g low rest : Nat} {T : Nat → Prop} {bs : List UInt8} (h : EncMem w b T size r g low bs rest) (n : Nat) : EncMem (w.drewN n) b T size r g low bs rest := h
theorem EncMem.scaled {w w' : World} {b size r g low rest r' g' c : Nat} {a : Option Addr} {T : Nat → Prop} {bs : List UInt8} (h : EncMem w b T size r g low bs rest)
    (hO : w.ownsRow 0 5 1 (.slice a bs.length c) bs.length (Lib.byteCells bs)) (hK : ∀ k, (Value.slice a bs.length c).ownBlock = some k → T k ∧ k ≠ b)
    (hF : Fr (Just b) w w') (hA' : At w' b (scSet (encRow size r g low rest a bs.length c) 1 r' g') 47) : EncMem w' b T size r' g' low bs rest :=
  ⟨h.1, a, c, hA', hF.owns hO fun i hi e => (hK i hi).2 e, hK⟩
theorem encSc (size r g low rest n c : Nat) (a : Option Addr) : Sc (encRow size r g low rest a n c) 1 r g := ⟨rfl, rfl⟩

/-- One byte further. -/
theorem PutS.step {w w1 w' : World} {b size r g low rest : Nat} {T T1 : Nat → Prop} {bs : List UInt8} {x : St} (hR : Rep size x low bs rest) (hF : Fr T w w1) (hT : ∀ k, T1 k → T k ∨ w.heap.size ≤ k)
    (h : EncTo w1 b T1 size r g (low * 256 % 4294967296) (if bs.length < size then bs ++ [UInt8.ofNat (low / 16777216)] else bs) (if bs.length < size then rest else withR rest (low / 16777216)) w') : PutS w b T size r g ⟨x.L * 256, x.r * 256, x.g + 1⟩ w' := by
  obtain ⟨T2, h1, h2, h3⟩ := h
  refine ⟨T2, _, _, _, h1, rep_shift hR, hF.trans h2 fun i hi hu => (hT i hu).elim id fun h => absurd h (by omega), fun k hk => ?_⟩
  rcases h3 k hk with h3 | h3
  · exact hT k h3
  · exact .inr (Nat.le_trans hF.size h3)
theorem Rep.len {size low rest : Nat} {bs : List UInt8} {x : St} (h : Rep size x low bs rest) : bs.length ≤ size := by rw [h.bs, dgs_length]; omega
theorem Rep.low_le {size low rest : Nat} {bs : List UInt8} {x : St} (h : Rep size x low bs rest) : low ≤ 4294967295 := by rw [h.low]; omega

/-- Behind a carry, or none. -/
def MidS (w : World) (b : Nat) (T : Nat → Prop) (size r g low : Nat) (y : St) (M : Nat) (w1 : World) : Prop :=
  ∃ (T1 : Nat → Prop) (bs : List UInt8) (rest : Nat), EncMem w1 b T1 size r g low bs rest ∧ Rep size y M bs rest ∧ Fr T w w1 ∧ ∀ k, T1 k → T k ∨ w.heap.size ≤ k
theorem MidS.from {w w1 : World} {b : Nat} {T : Nat → Prop} {size r g low M n : Nat} {y : St} (h : MidS (w.drewN n) b T size r g low y M w1) : MidS w b T size r g low y M w1 := by
  obtain ⟨T1, bs, rest, h1, h2, h3, h4⟩ := h
  exact ⟨T1, bs, rest, h1, h2, ((Fr.refl T w).drewN n).same h3, h4⟩
theorem MidS.cells {w w1 : World} {b : Nat} {T : Nat → Prop} {size r g low M : Nat} {y : St} (h : MidS w b T size r g low y M w1) : w1.cell? ⟨b, 3, none⟩ = some (.int .u32 low) ∧ w1.frozen? ⟨b, 3, none⟩ = false := by
  obtain ⟨T1, bs, rest, h1, _⟩ := h
  obtain ⟨a, c, hA, hO, hK, c0, c1, c2, c3, c4, c5, f3, f4, f5⟩ := h1.start
  exact ⟨c3, f3⟩
theorem carry_as (w : World) (b : Nat) (T : Nat → Prop) (size low A q M : Nat) (x : St) (bs : List UInt8) (rest : Nat) (h : EncMem w b T size x.r x.g low bs rest) (hR : Rep size x low bs rest) (hA : A + q ≤ x.r) (q1 : 1 ≤ q) (hr : x.r ≤ 4294967295) (hc : ¬ low + A < 4294967296)
    (hM : (low + A) % 4294967296 = M) (hsz : size ≤ 4096) :
    Calls Tryd.prog 27 #[.pointer (some ⟨b, 0, none⟩)] w fun e w' => e = .returned (.tuple #[]) ∧ MidS w b T size x.r x.g low ⟨x.L + A, q, x.g⟩ M w' := by
  have hl := hR.low_le
  have hlen := hR.len
  obtain rfl : low + A - 4294967296 = M := by omega
  have h3 := restOk_le hR.rest
  by_cases hr2 : rest = 1 ∨ rest = 3
  · refine (carry_stop_as w b T size x.r x.g low bs rest h hr2).mono fun e w' ⟨he, T1, h1, h2, h3⟩ => ⟨he, T1, bs, 3, h1, carry_stop hR hl (by omega) hA q1 hr (by omega) hr2, h2, h3⟩
  · obtain ⟨P, n, hn, hb, hR'⟩ := carry_goes (q := q) hR hl (by omega) (show 4294967296 ≤ low + A by omega) (by omega)
    refine (carry_goes_as w b T size x.r x.g low bs rest P n h (by omega) hn hb (by omega)).mono fun e w' ⟨he, T1, h1, h2, h3⟩ => ⟨he, T1, _, _, h1, hR', h2, h3⟩

theorem put_no (w : World) (p : Option Addr) (s v t : Int) (hs : s ≤ 9223372036854775807) (h : p = none ∨ ¬ (1 ≤ t ∧ t ≤ 32768 ∧ 0 ≤ s ∧ 1 ≤ v ∧ s + v ≤ t)) :
    Calls Tryd.prog 14 #[.pointer p, .int .i64 s, .int .i64 v, .int .i64 t] w fun e w' => e = .returned (.int .i64 1) ∧ w = w' := by
  cases p with
  | none =>
    go_enter Tryd.func14, Tryd.ntmps14
    go_wp2
    go_ret
    exact ⟨rfl, rfl⟩
  | some a =>
    have H := Lib.hid (h.resolve_left (by simp))
    clear h
    go_enter Tryd.func14, Tryd.ntmps14
    go_wp2_with (go_at_call 25; (with_reducible refine (isCell_no s v t _ hs H.out).mono ?_); rintro e w' ⟨rfl, rfl⟩)
    go_ret
    exact ⟨rfl, rfl⟩

set_option maxHeartbeats 2000000 in
theorem put_as (w : World) (b : Nat) (T : Nat → Prop) (size : Nat) (x : St) (s v t : Nat) (h : EncIs w b T size x) (hx : x.ok) (hC : (Cl.mk s v t).ok) (hsz : size ≤ 4096) (hg : x.g ≤ 100000) :
    Calls Tryd.prog 14 #[.pointer (some ⟨b, 0, none⟩), .int .i64 s, .int .i64 v, .int .i64 t] w fun e w' => e = .returned (.int .i64 0) ∧ PutS w b T size (x.put ⟨s, v, t⟩).r (x.put ⟨s, v, t⟩).g (x.put ⟨s, v, t⟩) w' := by
  obtain ⟨low, bs, rest, hM, hR⟩ := h
  obtain ⟨a, c, hA, hO, hK, c0, c1, c2, c3, c4, c5, f3, f4, f5⟩ := hM.start
  obtain ⟨s1, s2, s3, s4⟩ := step_bd hx hC
  obtain ⟨t1, t2, v1, e⟩ := hC
  obtain ⟨r1, r2, _⟩ := id hx
  dsimp only at s1 s2 s3 s4 t1 t2 v1 e
  have hll := hR.low_le
  obtain ⟨u, hu⟩ : ∃ u, x.r / t = u := ⟨_, rfl⟩
  rw [hu] at s1 s2 s3 s4
  obtain ⟨A, hAA⟩ : ∃ A, u * s = A := ⟨_, rfl⟩
  obtain ⟨q, hq⟩ : ∃ q, u * v = q := ⟨_, rfl⟩
  rw [hAA, hq] at s2
  rw [hq] at s3 s4
  obtain ⟨n, hn⟩ : ∃ n, sh q = n := ⟨_, rfl⟩
  have n3 : n ≤ 3 := by rw [← hn]; exact sh_le q
  have HP := Lib.hid (show x.put ⟨s, v, t⟩ = ⟨(x.L + A) * 256 ^ n, q * 256 ^ n, x.g + n⟩ by unfold St.put; dsimp only; rw [hu, hAA, hq, hn])
  have HU := Lib.hid (show (x.r : Int) / (t : Int) = (u : Int) by rw [← hu]; exact (Int.natCast_ediv x.r t).symm)
  have HUN := Lib.hid hu
  have HQ := Lib.hid hq
  have HN := Lib.hid hn
  have eA : ((u : Int) * (s : Int)) % 4294967296 = A := by rw [← Int.natCast_mul, hAA]; omega
  obtain ⟨M, hMM⟩ : ∃ M, (low + A) % 4294967296 = M := ⟨_, rfl⟩
  have eM : ((low : Int) + (A : Int)) % 4294967296 = M := by rw [← hMM]; rfl
  have HM := Lib.hid hMM
  have HR := Lib.hid hR
  have HE := Lib.hid hM
  clear hu hAA hq hn hMM hR hM hA hO hK hx c0 c2 c4 c5 f4 f5
  by_cases hc : low + A < 4294967296
  · have hnc : decide (M < low) = false := by have := HM.out; simp; omega
    have HC := Lib.hid hc
    clear hc
    go_enter Tryd.func14, Tryd.ntmps14
    go_wp2_with (go_at_call 25; (with_reducible refine (isCell_yes s v t _ (by omega) (by omega) (by omega) (by omega) (by omega)).mono ?_); rintro e w' ⟨rfl, rfl⟩)
    go_quiet ((go_at_call 26; exact Calls.quiet_of_same ((step_as b 1 x.r t u _ (by exact c1) (by omega) (by omega) (by omega) (by omega) HU.out).mono fun _ _ ⟨he, hw⟩ => ⟨he, hw.symm⟩)))
    go_wp2_with fail
    have HMid : Hid (MidS w b T size x.r x.g low ⟨x.L + A, q, x.g⟩ M (w.drewN nq)) := ⟨T, bs, rest, HE.out, by have := rep_add HR.out s2 HC.out; rwa [show low + A = M by have := HC.out; have := HM.out; omega] at this, (Fr.refl _ _).drewN _, fun k hk => .inl hk⟩
    obtain ⟨w1, hw1⟩ : ∃ w1, w.drewN nq = w1 := ⟨_, rfl⟩
    rw [hw1] at HMid ⊢
    clear hw1
    obtain ⟨T1, bs1, rest1, hE1, hR1, hF1, hT1⟩ := HMid.out
    have hE2 := hE1.lowed M
    obtain ⟨a2, c2, hA2, hO2, hK2, _⟩ := hE2.start
    refine (narrow_as b 1 _ _ x.r x.g v t u q n _ hA2 (encSc _ _ _ _ _ _ _ _) r2 t1 t2 (by omega) HUN.out HQ.out s3 s4 (by omega) HN.out).mono ?_
    rintro e w3 ⟨rfl, hF3, hA3⟩
    have S0 : Hid (PutS w b T size (q * 256 ^ n) (x.g + n) ⟨x.L + A, q, x.g⟩ w3) := ⟨T1, M, bs1, rest1, hE2.scaled hO2 hK2 hF3 hA3, hR1, (hF1.setCell (hT1 b hE1.1) _).trans hF3 fun i hi hu => by rw [show i = b from hu]; exact (hT1 b hE1.1).elim id fun h => absurd hi (by rw [show i = b from hu]; omega), hT1⟩
    clear hE1 hR1 hF1 hT1 hE2 hA2 hO2 hK2 hF3 hA3 HMid
    go_wp2
    go_loopw [50] (fun i wr => ∃ k : Nat, k ≤ n ∧ i = .int .i64 k ∧ PutS w b T size (q * 256 ^ n) (x.g + n) ⟨(x.L + A) * 256 ^ k, q * 256 ^ k, x.g + k⟩ wr) (fun i _ => 3 - (intOf i).toNat)
    case atStart => exact ⟨0, Nat.zero_le _, rfl, by rw [Nat.pow_zero, Nat.mul_one, Nat.mul_one, Nat.add_zero]; exact S0.out⟩
    case round =>
      obtain ⟨k, hk, rfl, hps⟩ := hrel
      have HPS := Lib.hid hps
      clear hps S0
      by_cases hlt : k < n
      · obtain ⟨T2, l2, bs2, rest2, hE2, hR2, hF2, hT2⟩ := HPS.out
        have HE2 := Lib.hid hE2
        have HR2 := Lib.hid hR2
        have HF2 := Lib.hid hF2
        have HT2 := Lib.hid hT2
        clear hE2 hR2 hF2 hT2
        go_wp2_with (go_at_call 29; (with_reducible refine (shift_as _ b T2 size _ _ l2 bs2 rest2 _ _ _ HE2.out HR2.out.low_le hsz HR2.out.len rfl rfl rfl).mono ?_); rintro e w4 ⟨rfl, hto⟩; have HTO := Lib.hid hto; clear hto)
        go_roundw
        case rel => exact ⟨k + 1, by omega, by go_num, by have := PutS.step HR2.out HF2.out HT2.out HTO.out; rw [Nat.pow_succ, ← Nat.mul_assoc, ← Nat.mul_assoc]; exact this⟩
        case measure => simp [intOf]; omega
      · obtain rfl : k = n := by omega
        go_wp2
        go_ret
        exact ⟨rfl, by rw [HP.out]; exact HPS.out⟩
  · have hnc : decide (M < low) = true := by have := HM.out; simp; omega
    have HC := Lib.hid hc
    clear hc
    go_enter Tryd.func14, Tryd.ntmps14
    go_wp2_with (go_at_call 25; (with_reducible refine (isCell_yes s v t _ (by omega) (by omega) (by omega) (by omega) (by omega)).mono ?_); rintro e w' ⟨rfl, rfl⟩)
    go_quiet ((go_at_call 26; exact Calls.quiet_of_same ((step_as b 1 x.r t u _ (by exact c1) (by omega) (by omega) (by omega) (by omega) HU.out).mono fun _ _ ⟨he, hw⟩ => ⟨he, hw.symm⟩)))
    go_wp2_with fail
    refine (carry_as _ b T size low A q M x bs rest (HE.out.drewN nq) HR.out s2 s3 r2 HC.out HM.out hsz).mono ?_
    rintro e w1 ⟨rfl, hmid⟩
    have HMid := Lib.hid (hmid.from)
    clear hmid
    obtain ⟨d3, e3⟩ := HMid.out.cells
    go_wp2_with fail
    obtain ⟨T1, bs1, rest1, hE1, hR1, hF1, hT1⟩ := HMid.out
    have hE2 := hE1.lowed M
    obtain ⟨a2, c2, hA2, hO2, hK2, _⟩ := hE2.start
    refine (narrow_as b 1 _ _ x.r x.g v t u q n _ hA2 (encSc _ _ _ _ _ _ _ _) r2 t1 t2 (by omega) HUN.out HQ.out s3 s4 (by omega) HN.out).mono ?_
    rintro e w3 ⟨rfl, hF3, hA3⟩
    have S0 : Hid (PutS w b T size (q * 256 ^ n) (x.g + n) ⟨x.L + A, q, x.g⟩ w3) := ⟨T1, M, bs1, rest1, hE2.scaled hO2 hK2 hF3 hA3, hR1, (hF1.setCell (hT1 b hE1.1) _).trans hF3 fun i hi hu => by rw [show i = b from hu]; exact (hT1 b hE1.1).elim id fun h => absurd hi (by rw [show i = b from hu]; omega), hT1⟩
    clear hE1 hR1 hF1 hT1 hE2 hA2 hO2 hK2 hF3 hA3 HMid
    go_wp2
    go_loopw [50] (fun i wr => ∃ k : Nat, k ≤ n ∧ i = .int .i64 k ∧ PutS w b T size (q * 256 ^ n) (x.g + n) ⟨(x.L + A) * 256 ^ k, q * 256 ^ k, x.g + k⟩ wr) (fun i _ => 3 - (intOf i).toNat)
    case atStart => exact ⟨0, Nat.zero_le _, rfl, by rw [Nat.pow_zero, Nat.mul_one, Nat.mul_one, Nat.add_zero]; exact S0.out⟩
    case round =>
      obtain ⟨k, hk, rfl, hps⟩ := hrel
      have HPS := Lib.hid hps
      clear hps S0
      by_cases hlt : k < n
      · obtain ⟨T2, l2, bs2, rest2, hE2, hR2, hF2, hT2⟩ := HPS.out
        have HE2 := Lib.hid hE2
        have HR2 := Lib.hid hR2
        have HF2 := Lib.hid hF2
        have HT2 := Lib.hid hT2
        clear hE2 hR2 hF2 hT2
        go_wp2_with (go_at_call 29; (with_reducible refine (shift_as _ b T2 size _ _ l2 bs2 rest2 _ _ _ HE2.out HR2.out.low_le hsz HR2.out.len rfl rfl rfl).mono ?_); rintro e w4 ⟨rfl, hto⟩; have HTO := Lib.hid hto; clear hto)
        go_roundw
        case rel => exact ⟨k + 1, by omega, by go_num, by have := PutS.step HR2.out HF2.out HT2.out HTO.out; rw [Nat.pow_succ, ← Nat.mul_assoc, ← Nat.mul_assoc]; exact this⟩
        case measure => simp [intOf]; omega
      · obtain rfl : k = n := by omega
        go_wp2
        go_ret
        exact ⟨rfl, by rw [HP.out]; exact HPS.out⟩
end Go.Proofs.YtidbagkkkpfkbaaDoor.Rg
