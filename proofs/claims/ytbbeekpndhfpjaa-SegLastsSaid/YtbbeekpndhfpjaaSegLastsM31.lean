/- Texts of the walk, one behind the other. -/
import Derived.Test.YtbbeekpndhfpjaaSegLastsM27
import Derived.Test.YtbbeekpndhfpjaaShelf

section
/- Contracts of frag's sized and Pages, of strings.Clone, and of a Cut that is refused. -/
set_option maxRecDepth 100000
set_option linter.unusedVariables false
set_option linter.unusedSimpArgs false
namespace Go.Proofs.Ytbbeekpndhfpjaa.Fg
open Go.RowKit Go.Proofs.Ytbbeekpndhfpjaa.Row Go.Proofs.Ytbbeekpndhfpjaa.Pa

theorem sized_any (n : Nat) (w : World) (hn : n ≤ maxLen) :
    Calls Try.prog 50 #[.int .i64 n] w fun e w' => e = .returned (.bool (decide (1 ≤ n ∧ n ≤ 4096))) ∧ w' = w := by
  unfold maxLen at hn
  by_cases h1 : 1 ≤ n
  · by_cases h2 : n ≤ 4096
    · have d1 : decide (1 ≤ n ∧ n ≤ 4096) = true := decide_eq_true ⟨h1, h2⟩
      have d2 : decide ((n : Int) ≤ 4096) = true := decide_eq_true (by omega)
      rw [d1]
      go_enter Try.func50, Try.ntmps50
      go_wp2
      go_ret
      exact ⟨rfl, rfl⟩
    · have d1 : decide (1 ≤ n ∧ n ≤ 4096) = false := decide_eq_false fun h => h2 h.2
      have d2 : decide ((n : Int) ≤ 4096) = false := decide_eq_false (by omega)
      rw [d1]
      go_enter Try.func50, Try.ntmps50
      go_wp2
      go_ret
      exact ⟨rfl, rfl⟩
  · have d1 : decide (1 ≤ n ∧ n ≤ 4096) = false := decide_eq_false fun h => h1 h.1
    obtain rfl : n = 0 := by omega
    rw [d1]
    go_enter Try.func50, Try.ntmps50
    go_wp2
    go_ret
    exact ⟨rfl, rfl⟩

theorem pagesAs : PagesAs := fun n w hn => by
  have hn' := hn
  unfold maxLen at hn'
  by_cases h : 1 ≤ n ∧ n ≤ 4096
  · have hp : pgN n = (n + 48) / 49 := by unfold pgN; rw [if_pos h]; rfl
    have HP := Lib.hid hp
    have hs : Calls Try.prog 50 #[.int .i64 n] w fun e w' => e = .returned (.bool true) ∧ w' = w := by
      have := sized_any n w hn
      rwa [decide_eq_true h] at this
    have HS := Lib.hid hs
    obtain ⟨h1, h2⟩ := h
    clear hs hp hn
    go_enter Try.func34, Try.ntmps34
    go_wp2_with fail
    refine HS.out.mono ?_
    rintro e w1 ⟨rfl, rfl⟩
    go_wp2
    go_ret
    rw [HP.out]
    refine ⟨ret_int ?_, Below.refl _ _⟩
    omega
  · have hp : pgN n = 0 := by unfold pgN; rw [if_neg h]
    have HP := Lib.hid hp
    have hs : Calls Try.prog 50 #[.int .i64 n] w fun e w' => e = .returned (.bool false) ∧ w' = w := by
      have := sized_any n w hn
      rwa [decide_eq_false h] at this
    have HS := Lib.hid hs
    clear hs hp hn h
    go_enter Try.func34, Try.ntmps34
    go_wp2_with fail
    refine HS.out.mono ?_
    rintro e w1 ⟨rfl, rfl⟩
    go_wp2
    go_ret
    rw [HP.out]
    exact ⟨rfl, Below.refl _ _⟩

theorem clone_any (s : ByteArray) (w : World) (hs : s.size ≤ 281474976710656) :
    Calls Try.prog 58 #[.string s] w fun e w' => e = .returned (.string s) ∧ Below w.heap.size w w' := by
  have HC := Lib.hid (Try.stringslite_Clone s w hs)
  go_enter Try.func58, Try.ntmps58
  go_wp2_with fail
  refine HC.out.mono ?_
  rintro e w1 ⟨rfl, hb⟩
  have HB := Lib.hid hb
  clear hb
  go_wp2
  go_ret
  exact ⟨rfl, HB.out⟩

theorem cutNo : CutNo := fun e s w he hs h => by
  have hsz : Calls Try.prog 50 #[.int .i64 s.size] ((w.alloc (.cells #[.int .u32 e] 40)).alloc (.cells #[.string s] 9)) fun en w' => en = .returned (.bool false) ∧ w' = ((w.alloc (.cells #[.int .u32 e] 40)).alloc (.cells #[.string s] 9)) := by
    have := sized_any s.size ((w.alloc (.cells #[.int .u32 e] 40)).alloc (.cells #[.string s] 9)) hs
    rwa [decide_eq_false (by omega)] at this
  have HS := Lib.hid hsz
  unfold maxLen at hs
  clear hsz h
  go_enter Try.func47, Try.ntmps47
  go_wp2_with fail
  refine HS.out.mono ?_
  rintro en w1 ⟨rfl, rfl⟩
  go_wp2
  go_ret2
  exact ⟨none, 0, rfl, below_second _ _ _⟩
end Go.Proofs.Ytbbeekpndhfpjaa.Fg
end
