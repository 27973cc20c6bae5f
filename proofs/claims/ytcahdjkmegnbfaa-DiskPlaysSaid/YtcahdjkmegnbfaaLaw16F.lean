/- The statement DiskPlays, whatever the size. -/
import Derived.Test.YtcahdjkmegnbfaaLaw16E
set_option maxRecDepth 100000
set_option linter.unusedVariables false
set_option linter.unusedSimpArgs false
namespace Go.Proofs.Ytcahdjkmegnbfaa.Dk
open Go.RowKit Go.Proofs.Ytcahdjkmegnbfaa.Row

set_option maxHeartbeats 2000000 in
theorem plays_not (w : World) (s : Int) (hs : s < 1 ∨ 1024 < s) (a : Option Addr) (n c : Nat) (A : Nat → Ac) (h : SlA w a n c A) :
    Calls Try.prog 3 #[.int .i64 s, .slice a n c] w fun e w' => e = .returned (.bool true) ∧ Below w.heap.size w w' := by
  have HA := Lib.hid h
  have HN := Lib.hid (fun w => new_no s hs w)
  clear h
  have hcond : (decide (s < 1) || decide (1024 < s)) = true := by rcases hs with h | h <;> simp [h]
  rcases hs with hs | hs
  all_goals
    first | (have h1 : ¬ (s < 1) := by omega) | skip
    go_enter Try.func3, Try.ntmps3
    go_wp2_with fail
    refine (awake_as w).mono ?_
    rintro e w1 ⟨rfl, hb1⟩
    have HB1 := Lib.hid hb1
    clear hb1
    go_wp2_with fail
    refine (few_as w1 a n c A (HA.out.below HB1.out)).mono ?_
    rintro e w1 ⟨bb, rfl, rfl, hbb⟩
    clear hbb
    cases bb
    · go_wp2_with fail
      refine (awake_as _).mono ?_
      rintro e w2 ⟨rfl, hb2⟩
      have HB2 := Lib.hid (below_trans HB1.out hb2 HB1.out.size)
      clear hb2
      go_wp2_with fail
      go_ret
      exact ⟨rfl, HB2.out⟩
    · go_wp2_with fail
      refine (HN.out _).mono ?_
      rintro e w2 ⟨rfl, rfl⟩
      go_wp2_with fail
      go_ret
      exact ⟨rfl, HB1.out⟩
set_option maxHeartbeats 2000000 in
theorem plays_big (w : World) (s : Nat) (hs1 : 60 < s) (hs2 : s ≤ 1024) (a : Option Addr) (n c : Nat) (A : Nat → Ac) (h : SlA w a n c A) :
    Calls Try.prog 3 #[.int .i64 s, .slice a n c] w fun e w' => e = .returned (.bool true) ∧ Below w.heap.size w w' := by
  have HA := Lib.hid h
  clear h
  obtain ⟨sz, hsz⟩ : ∃ sz : Int, (s : Int) = sz := ⟨_, rfl⟩
  have HSZ := Lib.hid hsz
  have z1 : ¬ sz < 1 := by omega
  have z2 : ¬ (1024 : Int) < sz := by omega
  have z3 : (60 : Int) < sz := by omega
  rw [hsz]
  clear hsz
  go_enter Try.func3, Try.ntmps3
  go_wp2_with fail
  refine (awake_as w).mono ?_
  rintro e w1 ⟨rfl, hb1⟩
  have HB1 := Lib.hid hb1
  clear hb1
  go_wp2_with fail
  refine (few_as w1 a n c A (HA.out.below HB1.out)).mono ?_
  rintro e w1 ⟨bb, rfl, rfl, hbb⟩
  clear hbb
  cases bb
  · go_wp2_with fail
    refine (awake_as _).mono ?_
    rintro e w2 ⟨rfl, hb2⟩
    have HB2 := Lib.hid (below_trans HB1.out hb2 HB1.out.size)
    clear hb2
    go_wp2_with fail
    go_ret
    exact ⟨rfl, HB2.out⟩
  · go_wp2_with fail
    rw [← HSZ.out]
    refine (new_L (w0 := w) (w := w1) (G := fun _ => False) s (by omega) hs2 HB1.out (fun k h => h.elim)).mono ?_
    rintro e w2 ⟨b, rfl, h2, hk0⟩
    have HD := Lib.hid h2
    clear h2 hk0 HB1
    rw [HSZ.out]
    go_wp2_with fail
    refine (size_L HD.out).mono ?_
    rintro e w3 ⟨rfl, rfl⟩
    rw [show ((fresh zP s).size : Int) = sz from HSZ.out]
    go_wp2_with fail
    go_ret
    exact ⟨rfl, HD.out.1⟩
theorem plays_yes (w : World) (s : Int) (a : Option Addr) (n c : Nat) (A : Nat → Ac) (h : SlA w a n c A) (hok : ∀ i, i < n → AcOk (A i)) :
    Calls Try.prog 3 #[.int .i64 s, .slice a n c] w fun e w' => e = .returned (.bool true) ∧ Below w.heap.size w w' := by
  by_cases h1 : s < 1 ∨ 1024 < s
  · exact plays_not w s h1 a n c A h
  · obtain ⟨k, rfl⟩ : ∃ k : Nat, s = k := ⟨s.toNat, by omega⟩
    by_cases h2 : k ≤ 60
    · exact plays_main w k (by omega) h2 a n c A h hok fun i hi => by
        obtain ⟨b, o, _, hat⟩ := h.2.2 (by omega)
        exact (hat i hi).2.2.2.2
    · exact plays_big w k (by omega) (by omega) a n c A h
end Go.Proofs.Ytcahdjkmegnbfaa.Dk
