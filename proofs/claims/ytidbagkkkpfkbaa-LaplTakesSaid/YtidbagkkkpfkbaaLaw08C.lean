/- LaplTakes: the walk. -/
import Derived.Test.YtidbagkkkpfkbaaLpD
set_option maxRecDepth 100000
set_option linter.unusedVariables false
namespace Go.Proofs.Ytidbagkkkpfkbaa.Lp
open Go.RowKit Go.Proofs.Ytidbagkkkpfkbaa.Row Go.Proofs.Ytidbagkkkpfkbaa.Rg

set_option maxHeartbeats 4000000 in
theorem laplTakes_walk (B : ByteArray) (n : Nat) (W : World) (hB : B.size ≤ maxLen) (hn : n ≤ 255) :
    Calls Try.prog 6 #[.string B, .int .u8 n] W fun e w' => e = .returned (.bool true) ∧ Below W.heap.size W w' := by
  unfold maxLen at hB
  by_cases h300 : 300 < B.size
  · go_enter Try.func6, Try.ntmps6
    go_wp2_with fail
    refine (awake_yes _).mono ?_
    rintro e w1 ⟨rfl, h1⟩
    have B1 := Lib.hid h1
    clear h1
    go_wp2_with fail
    refine (awake_yes _).mono ?_
    rintro e w2 ⟨rfl, h2⟩
    have B2 := Lib.hid h2
    clear h2
    go_wp2
    go_ret
    exact ⟨rfl, below_trans B1.out B2.out B1.out.size⟩
  · have h300' : decide (300 < (B.size : Int)) = false := by simp; omega
    obtain ⟨s, hs⟩ : ∃ s : List UInt8, s = B.data.toList := ⟨_, rfl⟩
    have hsB : (⟨s.toArray⟩ : ByteArray) = B := by rw [hs]
    have hsl : s.length ≤ 300 := by rw [hs, ← Lib.size_eq]; omega
    have HB1 := Lib.hid hsB
    clear hs hsB h300
    go_enter Try.func6, Try.ntmps6
    go_wp2_with fail
    refine (awake_yes _).mono ?_
    rintro e w1 ⟨rfl, h1⟩
    have BW1 := Lib.hid h1
    clear h1
    go_wp2_with fail
    refine (newDec_as B s _ HB1.out (by omega)).mono ?_
    rintro e w2 ⟨b1, T0, rfl, hD, hT, hb⟩
    obtain ⟨T1, hD1, hT1⟩ := hD.tight
    have D1 := Lib.hid hD1
    have X1 := Lib.hid (show ∀ k, T1 k → W.heap.size ≤ k ∧ k < w2.heap.size from fun k hk => ⟨by have := hT k (hT1 k hk).1; have := BW1.out.size; omega, (hT1 k hk).2⟩)
    have BW2 := Lib.hid (below_trans BW1.out hb BW1.out.size)
    clear hD hD1 hT hT1 hb BW1
    go_wp2_with fail
    refine (newDec_as B s _ HB1.out (by omega)).mono ?_
    rintro e w3 ⟨b2, T2, rfl, hD, hT, hb⟩
    have H0 := Lib.hid (⟨D1.out.below hb, hD, below_trans BW2.out hb BW2.out.size⟩ : DecIs w3 b1 T1 s (Dt.new (byteF s)) ∧ DecIs w3 b2 T2 s (Dt.new (byteF s)) ∧ Below W.heap.size W w3)
    have HT1 := Lib.hid (show ∀ k, T1 k → W.heap.size ≤ k ∧ ¬ T2 k from fun k hk => ⟨(X1.out k hk).1, fun h2 => by have := (X1.out k hk).2; have := hT k h2; omega⟩)
    have HT2 := Lib.hid (show ∀ k, T2 k → W.heap.size ≤ k from fun k hk => by have := hT k hk; have := BW2.out.size; omega)
    clear hD hT hb D1 X1 BW2
    go_wp2
    go_loopw [7] (fun i wr => ∃ (k : Nat) (d : Dt), k ≤ 30 ∧ i = .int .i64 k ∧ Hid d.ok ∧ d.g ≤ 2 * k ∧ Hid (DecIs wr b1 T1 s d ∧ DecIs wr b2 T2 s d ∧ Below W.heap.size W wr)) (fun i _ => 100 - (intOf i).toNat)
    case atStart => exact ⟨0, _, by omega, rfl, Lib.hid (new_dt _), Nat.zero_le _, H0⟩
    case round =>
      obtain ⟨k, d, hk, rfl, HD, hg, HR⟩ := hrel
      clear H0
      by_cases hlt : (k : Int) < (n : Int) % 30
      · obtain ⟨v, hv⟩ : ∃ v, lv d = v := ⟨_, rfl⟩
        obtain ⟨v1, v2⟩ := hv ▸ lv_in d
        have HV := Lib.hid hv
        have D1 := Lib.hid HR.out.1
        have D2 := Lib.hid HR.out.2.1
        have BW := Lib.hid HR.out.2.2
        clear hv HR
        go_wp2_with fail
        refine (ltake_as _ b1 T1 s d v D1.out HD.out HV.out (by omega) (by omega)).mono ?_
        rintro e w4 ⟨rfl, h4, hF4⟩
        have D14 := Lib.hid h4
        have D24 := Lib.hid (D2.out.fr hF4 (fun k h2 h1 => (HT1.out k h1).2 h2))
        have BW4 := Lib.hid (BW.out.trans (hF4.below (B := W.heap.size) BW.out.size (fun k h1 => (HT1.out k h1).1)))
        clear h4 hF4 D1 D2 BW
        go_wp2_with fail
        refine (ltake_as _ b2 T2 s d v D24.out HD.out HV.out (by omega) (by omega)).mono ?_
        rintro e w5 ⟨rfl, h5, hF5⟩
        have D25 := Lib.hid h5
        have D15 := Lib.hid (D14.out.fr hF5 (fun k h1 h2 => (HT1.out k h1).2 h2))
        have BW5 := Lib.hid (BW4.out.trans (hF5.below (B := W.heap.size) BW4.out.size (fun k h1 => HT2.out k h1)))
        clear h5 hF5 D14 D24 BW4
        have hC : (cl v).ok := cl_ok v1 v2
        have HD5 := Lib.hid (take_dt (f := byteF s) HD.out hC)
        have hg5 := take_g (f := byteF s) HD.out hC
        obtain ⟨d', hd'⟩ : ∃ d', d.take (byteF s) (cl v) = d' := ⟨_, rfl⟩
        rw [hd'] at D15 D25 HD5 hg5
        obtain ⟨u, hu⟩ : ∃ u, d'.used = u := ⟨_, rfl⟩
        have HU := Lib.hid hu
        have hne : (v != v) = false := by simp
        have hnu : (u != u) = false := by simp
        clear hd' hu hC
        go_wp2_with fail
        refine (decUsed_as _ b1 T1 s d' u D15.out HD5.out (by omega) HU.out).mono ?_
        rintro e w6 ⟨rfl, h6⟩
        have D16 := Lib.hid (D15.out.below h6)
        have D26 := Lib.hid (D25.out.below h6)
        have BW6 := Lib.hid (below_trans BW5.out h6 BW5.out.size)
        clear h6 D15 D25 BW5
        go_wp2_with fail
        refine (decUsed_as _ b2 T2 s d' u D26.out HD5.out (by omega) HU.out).mono ?_
        rintro e w7 ⟨rfl, h7⟩
        have H7 := Lib.hid (⟨D16.out.below h7, D26.out.below h7, below_trans BW6.out h7 BW6.out.size⟩ : DecIs w7 b1 T1 s d' ∧ DecIs w7 b2 T2 s d' ∧ Below W.heap.size W w7)
        clear h7 D16 D26 BW6
        go_wp2
        go_roundw
        case rel => exact ⟨k + 1, d', by omega, by go_num, HD5, by omega, H7⟩
        case measure => simp [intOf]; omega
      · go_wp2
        go_ret
        exact ⟨rfl, HR.out.2.2⟩

theorem laplTakes_any (B : ByteArray) (a : Int) (W : World) (hB : B.size ≤ maxLen) (h : (Lit.int .u8 a).wf = true) :
    Calls Try.prog 6 #[.string B, .int .u8 a] W fun e w' => e = .returned (.bool true) ∧ Below W.heap.size W w' := by
  have hb : 0 ≤ a ∧ a ≤ 255 := by simpa [Lit.wf, IntKind.min, IntKind.max, IntKind.bits, IntKind.signed] using h
  obtain ⟨n, rfl⟩ : ∃ n : Nat, a = n := ⟨a.toNat, by omega⟩
  exact laplTakes_walk B n W hB (by omega)
end Go.Proofs.Ytidbagkkkpfkbaa.Lp
