/- A joiner in memory: Begun, drop, fits. -/
import Derived.Test.YtmaelcjmojhlpaaFgK
import Derived.Test.YtmaelcjmojhlpaaBsA
import Derived.BigQuiet
set_option maxRecDepth 100000
set_option linter.unusedVariables false
set_option linter.unusedSimpArgs false
namespace Go.Proofs.Ytmaelcjmojhlpaa.Fg
open Go.RowKit Go.Proofs.Ytmaelcjmojhlpaa.Row Go.Proofs.Ytmaelcjmojhlpaa.Pa

/-- A joiner's fields. -/
def jR (e : Nat) (a : Option Addr) (n c : Nat) : Array Value := #[.int .u32 e, .slice a n c]
theorem info_j (e : Nat) (a : Option Addr) (n c : Nat) : (Try.prog.info? 32).map (·.size) = some (jR e a n c).size := by
  show _ = some 2
  kernel_rfl
theorem jR_one (e : Nat) (a : Option Addr) (n c : Nat) : (jR e a n c).all (·.oneCell') = true := by
  unfold jR
  rw [Array.all_eq_true]
  intro i hi
  have : i < 2 := hi
  obtain rfl | rfl : i = 0 ∨ i = 1 := by omega
  all_goals rfl
theorem built_j : Try.prog.built 32 [] = some (jR 0 none 0 0) := by kernel_rfl
theorem zero_j (w : World) : (zeroValue 32).run Try.prog w = .ok (.agg (jR 0 none 0 0)) w := by kernel_rfl

theorem begun_as {w : World} {b e n c : Nat} {a : Option Addr} (hA : At w b (jR e a n c) 32) :
    Calls Try.prog 13 #[.pointer (some ⟨b, 0, none⟩)] w fun en w' => en = .returned (.bool (decide (0 < n))) ∧ w' = w := by
  have c1 : w.cell? ⟨b, 1, none⟩ = some (.slice a n c) := by rw [hA.cell]; rfl
  go_enter Try.func13, Try.ntmps13
  go_wp2
  go_ret
  exact ⟨rb (by simp), rfl⟩

theorem drop_as {w : World} {b e n c : Nat} {a : Option Addr} (hA : At w b (jR e a n c) 32) :
    Calls Try.prog 20 #[.pointer (some ⟨b, 0, none⟩)] w fun en w' => en = .returned (.tuple #[]) ∧ w' = w.setRow b (jR 0 none 0 0) := by
  have HA := Lib.hid hA
  have hbu : (Instr.build 32 #[]).run Try.prog w = .ok (.agg (jR 0 none 0 0)) w := run_build w 32 #[] _ built_j
  go_enter Try.func20, Try.ntmps20
  go_wp2_with (refine wpList_store_row rfl 32 _ _ rfl b (jR 0 none 0 0) rfl rfl _ _ HA.out (info_j _ _ _ _) rfl (jR_one _ _ _ _) ?_)
  go_end0
  exact ⟨rfl, rfl⟩

/-- Whether a page fits. -/
def fitB (e n : Nat) (p : Pv) : Bool := if n = 0 then p.f else (!p.f && decide (p.e = e) && decide (n + p.d.length ≤ 4096))
theorem fits_none {w : World} {b e c : Nat} {a : Option Addr} (hA : At w b (jR e a 0 c) 32) (p : Pv) :
    Calls Try.prog 19 #[.pointer (some ⟨b, 0, none⟩), .agg (pgV p)] w fun en w' => en = .returned (.bool p.f) ∧ Below w.heap.size w w' := by
  obtain ⟨pe, pn, pk, pf, pl, pd⟩ := p
  unfold pgV
  have HBG := Lib.hid (begun_as (hA.alloc (.cells #[.int .u32 pe, .int .u32 pn, .int .i64 pk, .bool pf, .bool pl, .string ⟨pd.toArray⟩] 36)))
  have HB := Lib.hid (show Below w.heap.size w (w.alloc (.cells #[.int .u32 pe, .int .u32 pn, .int .i64 pk, .bool pf, .bool pl, .string ⟨pd.toArray⟩] 36)) from (Below.refl _ _).alloc (Nat.le_refl _) _)
  clear hA
  go_enter Try.func19, Try.ntmps19
  go_wp2_with fail
  refine HBG.out.mono ?_
  rintro en w1 ⟨rfl, rfl⟩
  go_wp2
  go_ret
  exact ⟨rfl, HB.out⟩
theorem fits_some {w : World} {b e n c : Nat} {a : Option Addr} (hA : At w b (jR e a n c) 32) (hn : 0 < n) (hn4 : n ≤ 4096) (p : Pv) (hd : p.d.length ≤ 49) :
    Calls Try.prog 19 #[.pointer (some ⟨b, 0, none⟩), .agg (pgV p)] w fun en w' => en = .returned (.bool (!p.f && decide (p.e = e) && decide (n + p.d.length ≤ 4096))) ∧ Below w.heap.size w w' := by
  obtain ⟨pe, pn, pk, pf, pl, pd⟩ := p
  unfold pgV
  dsimp only at hd ⊢
  have hs : (⟨pd.toArray⟩ : ByteArray).size = pd.length := by simp [ByteArray.size]
  obtain ⟨N, hN⟩ : ∃ N, pd.length = N := ⟨_, rfl⟩
  obtain ⟨X, hX⟩ : ∃ X : ByteArray, ⟨pd.toArray⟩ = X := ⟨_, rfl⟩
  rw [hN] at hs hd ⊢
  rw [hX] at hs ⊢
  obtain ⟨V, hV⟩ : ∃ V, w.alloc (.cells #[.int .u32 pe, .int .u32 pn, .int .i64 pk, .bool pf, .bool pl, .string X] 36) = V := ⟨_, rfl⟩
  have hA1 : At V b (jR e a n c) 32 := by rw [← hV]; exact hA.alloc _
  have hP1 : At V w.heap.size #[.int .u32 pe, .int .u32 pn, .int .i64 pk, .bool pf, .bool pl, .string X] 36 := by rw [← hV]; exact At.new _ _ _
  have hbg := begun_as hA1
  rw [decide_eq_true hn] at hbg
  have HBG := Lib.hid hbg
  have HV := Lib.hid hV
  have HB := Lib.hid (show Below w.heap.size w V by rw [← hV]; exact (Below.refl _ _).alloc (Nat.le_refl _) _)
  have c0 : V.cell? ⟨b, 0, none⟩ = some (.int .u32 e) := by rw [hA1.cell]; rfl
  have c1 : V.cell? ⟨b, 1, none⟩ = some (.slice a n c) := by rw [hA1.cell]; rfl
  have p0 : V.cell? ⟨w.heap.size, 0, none⟩ = some (.int .u32 pe) := by rw [hP1.cell]; rfl
  have p3 : V.cell? ⟨w.heap.size, 3, none⟩ = some (.bool pf) := by rw [hP1.cell]; rfl
  have p5 : V.cell? ⟨w.heap.size, 5, none⟩ = some (.string X) := by rw [hP1.cell]; rfl
  clear hA hA1 hP1 hX hN hV hbg
  go_enter Try.func19, Try.ntmps19
  go_wp2_with fail
  rw [HV.out]
  refine HBG.out.mono ?_
  rintro en w1 ⟨rfl, rfl⟩
  cases pf with
  | true =>
    go_wp2
    go_quiet (fail)
    go_wp2
    go_ret
    exact ⟨rb (by simp [*]), below_drewN HB.out _⟩
  | false =>
    by_cases he : pe = e
    · subst he
      have d1 : ((pe : Int) == (pe : Int)) = true := by simp
      by_cases hl : n + N ≤ 4096
      · have d2 : decide ((n : Int) + (N : Int) ≤ 4096) = true := decide_eq_true (by omega)
        go_wp2
        go_quiet (fail)
        go_wp2
        go_ret
        exact ⟨rb (by simp [*]), below_drewN HB.out _⟩
      · have d2 : decide ((n : Int) + (N : Int) ≤ 4096) = false := decide_eq_false (by omega)
        go_wp2
        go_quiet (fail)
        go_wp2
        go_ret
        exact ⟨rb (by simp [*]), below_drewN HB.out _⟩
    · have d1 : ((pe : Int) == (e : Int)) = false := by rw [beq_eq_false_iff_ne]; omega
      go_wp2
      go_quiet (fail)
      go_wp2
      go_ret
      exact ⟨rb (by simp [*]), below_drewN HB.out _⟩
end Go.Proofs.Ytmaelcjmojhlpaa.Fg
