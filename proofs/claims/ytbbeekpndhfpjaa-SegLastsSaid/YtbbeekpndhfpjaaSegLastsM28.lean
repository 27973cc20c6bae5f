/- Texts of the walk, one behind the other. -/
import Derived.Test.YtbbeekpndhfpjaaSegLastsM27
import Derived.Test.YtbbeekpndhfpjaaBsA
import Derived.BigQuiet
import Derived.Test.YtbbeekpndhfpjaaRowP

section
/- A joiner within the struct of a scan (its first field): Begun, drop, fits. -/
set_option maxRecDepth 100000
set_option linter.unusedVariables false
set_option linter.unusedSimpArgs false
namespace Go.Proofs.Ytbbeekpndhfpjaa.Fg
open Go.RowKit Go.Proofs.Ytbbeekpndhfpjaa.Row Go.Proofs.Ytbbeekpndhfpjaa.Pa

/-- A joiner's fields. -/
def jR (e : Nat) (a : Option Addr) (n c : Nat) : Array Value := #[.int .u32 e, .slice a n c]
/-- A scan's fields: the joiner's, the records, the next page, the epoch. -/
def cR (e : Nat) (a : Option Addr) (n c : Nat) (x y z : Value) : Array Value := #[.int .u32 e, .slice a n c, x, y, z]
theorem info_j (e : Nat) (a : Option Addr) (n c : Nat) : (Try.prog.info? 65).map (·.size) = some (jR e a n c).size := by
  show _ = some 2
  kernel_rfl
theorem jR_one (e : Nat) (a : Option Addr) (n c : Nat) : (jR e a n c).all (·.oneCell') = true := by
  unfold jR
  rw [Array.all_eq_true]
  intro i hi
  have : i < 2 := hi
  obtain rfl | rfl : i = 0 ∨ i = 1 := by omega
  all_goals rfl
theorem built_j : Try.prog.built 65 [] = some (jR 0 none 0 0) := by kernel_rfl
theorem zero_c (w : World) : (zeroValue 67).run Try.prog w = .ok (.agg (cR 0 none 0 0 (.slice none 0 0) (.int .i64 0) (.int .u32 0))) w := by kernel_rfl
theorem drop_cells {w : World} {b e n c : Nat} {a : Option Addr} {x y z : Value} {t : TypeId} (h : At w b (cR e a n c x y z) t) : w.setCells b 0 (jR 0 none 0 0).toList = w.setRow b (cR 0 none 0 0 x y z) := by
  obtain ⟨C, h1, h2, h3⟩ := setCells_row (jR 0 none 0 0).toList 0 _ w h
  rw [h1]
  congr 1
  apply Array.ext_getElem?
  intro i
  have hs : (cR e a n c x y z).size = 5 := rfl
  have hs2 : (cR 0 none 0 0 x y z).size = 5 := rfl
  by_cases hi : i < 5
  · rw [h3 i (by rw [hs]; exact hi)]
    obtain rfl | rfl | rfl | rfl | rfl : i = 0 ∨ i = 1 ∨ i = 2 ∨ i = 3 ∨ i = 4 := by omega
    all_goals rfl
  · rw [Array.getElem?_eq_none (by rw [h2, hs]; omega), Array.getElem?_eq_none (by rw [hs2]; omega)]
theorem cr_there {w : World} {b e n c : Nat} {a : Option Addr} {x y z : Value} {t : TypeId} (h : At w b (cR e a n c x y z) t) : w.there b 0 (jR 0 none 0 0).size := fun i hi => by
  have hi2 : i < 2 := hi
  refine ⟨?_, h.frozen _⟩
  rw [h.cell]
  obtain rfl | rfl : i = 0 ∨ i = 1 := by omega
  all_goals rfl
theorem zero_j (w : World) : (zeroValue 65).run Try.prog w = .ok (.agg (jR 0 none 0 0)) w := by kernel_rfl

theorem begun_as {w : World} {b e n c : Nat} {a : Option Addr} {x y z : Value} (hA : At w b (cR e a n c x y z) 67) :
    Calls Try.prog 45 #[.pointer (some ⟨b, 0, none⟩)] w fun en w' => en = .returned (.bool (decide (0 < n))) ∧ w' = w := by
  have c1 : w.cell? ⟨b, 1, none⟩ = some (.slice a n c) := by rw [hA.cell]; rfl
  go_enter Try.func45, Try.ntmps45
  go_wp2
  go_ret
  exact ⟨rb (by simp), rfl⟩

theorem drop_as {w : World} {b e n c : Nat} {a : Option Addr} {x y z : Value} (hA : At w b (cR e a n c x y z) 67) :
    Calls Try.prog 56 #[.pointer (some ⟨b, 0, none⟩)] w fun en w' => en = .returned (.tuple #[]) ∧ w' = w.setRow b (cR 0 none 0 0 x y z) := by
  have HA := Lib.hid hA
  have hbu : (Instr.build 65 #[]).run Try.prog w = .ok (.agg (jR 0 none 0 0)) w := run_build w 65 #[] _ built_j
  go_enter Try.func56, Try.ntmps56
  go_wp2_with (refine wpList_store_mid rfl 65 _ _ rfl b 0 (jR 0 none 0 0) rfl rfl (cr_there HA.out) (info_j _ _ _ _) (jR_one _ _ _ _) ?_; rw [drop_cells HA.out])
  go_end0
  exact ⟨rfl, rfl⟩

/-- Whether a page fits. -/
def fitB (e n : Nat) (p : Pv) : Bool := if n = 0 then p.f else (!p.f && decide (p.e = e) && decide (n + p.d.length ≤ 4096))
theorem fits_none {w : World} {b e c : Nat} {a : Option Addr} {x y z : Value} (hA : At w b (cR e a 0 c x y z) 67) (p : Pv) :
    Calls Try.prog 55 #[.pointer (some ⟨b, 0, none⟩), .agg (pgV p)] w fun en w' => en = .returned (.bool p.f) ∧ Below w.heap.size w w' := by
  obtain ⟨pe, pn, pk, pf, pl, pd⟩ := p
  unfold pgV
  have HBG := Lib.hid (begun_as (hA.alloc (.cells #[.int .u32 pe, .int .u32 pn, .int .i64 pk, .bool pf, .bool pl, .string ⟨pd.toArray⟩] 73)))
  have HB := Lib.hid (show Below w.heap.size w (w.alloc (.cells #[.int .u32 pe, .int .u32 pn, .int .i64 pk, .bool pf, .bool pl, .string ⟨pd.toArray⟩] 73)) from (Below.refl _ _).alloc (Nat.le_refl _) _)
  clear hA
  go_enter Try.func55, Try.ntmps55
  go_wp2_with fail
  refine HBG.out.mono ?_
  rintro en w1 ⟨rfl, rfl⟩
  go_wp2
  go_ret
  exact ⟨rfl, HB.out⟩
theorem fits_some {w : World} {b e n c : Nat} {a : Option Addr} {x y z : Value} (hA : At w b (cR e a n c x y z) 67) (hn : 0 < n) (hn4 : n ≤ 4096) (p : Pv) (hd : p.d.length ≤ 49) :
    Calls Try.prog 55 #[.pointer (some ⟨b, 0, none⟩), .agg (pgV p)] w fun en w' => en = .returned (.bool (!p.f && decide (p.e = e) && decide (n + p.d.length ≤ 4096))) ∧ Below w.heap.size w w' := by
  obtain ⟨pe, pn, pk, pf, pl, pd⟩ := p
  unfold pgV
  dsimp only at hd ⊢
  have hs : (⟨pd.toArray⟩ : ByteArray).size = pd.length := by simp [ByteArray.size]
  obtain ⟨N, hN⟩ : ∃ N, pd.length = N := ⟨_, rfl⟩
  obtain ⟨X, hX⟩ : ∃ X : ByteArray, ⟨pd.toArray⟩ = X := ⟨_, rfl⟩
  rw [hN] at hs hd ⊢
  rw [hX] at hs ⊢
  obtain ⟨V, hV⟩ : ∃ V, w.alloc (.cells #[.int .u32 pe, .int .u32 pn, .int .i64 pk, .bool pf, .bool pl, .string X] 73) = V := ⟨_, rfl⟩
  have hA1 : At V b (cR e a n c x y z) 67 := by rw [← hV]; exact hA.alloc _
  have hP1 : At V w.heap.size #[.int .u32 pe, .int .u32 pn, .int .i64 pk, .bool pf, .bool pl, .string X] 73 := by rw [← hV]; exact At.new _ _ _
  have hbg := begun_as hA1
  rw [decide_eq_true hn] at hbg
  have HBG := Lib.hid hbg
  have HV := Lib.hid hV
  have HB := Lib.hid (show Below w.heap.size w V by rw [← hV]; exact (Below.refl _ _).alloc (Nat.le_refl _) _)
  have c0 : V.cell? ⟨b, 0, none⟩ = some (.int .u32 e) := by rw [hA1.cell]; rfl
  have c1 : V.cell? ⟨b, 1, none⟩ = some (.slice a n c) := by rw [hA1.cell]; rfl
  have p0 : V.cell? ⟨w.heap.size, 0, none⟩ = some (.int .u32 pe) := by rw [hP1.cell]; rfl
  have p3 : V.cell? ⟨w.heap.size, 3, none⟩ = some (.bool pf) := by rw [hP1.cell]; rfl
  have p5 : V.cell? ⟨w.heap.size, 5, none⟩ = some (.string X) := by rw [hP1.cell]; rfl
  clear hA hA1 hP1 hX hN hV hbg
  go_enter Try.func55, Try.ntmps55
  go_wp2_with fail
  rw [HV.out]
  refine HBG.out.mono ?_
  rintro en w1 ⟨rfl, rfl⟩
  cases pf with
  | true =>
    go_wp2
    go_quiet (fail)
    go_wp2
    go_ret
    exact ⟨rb (by simp [*]), below_drewN HB.out _⟩
  | false =>
    by_cases he : pe = e
    · subst he
      have d1 : ((pe : Int) == (pe : Int)) = true := by simp
      by_cases hl : n + N ≤ 4096
      · have d2 : decide ((n : Int) + (N : Int) ≤ 4096) = true := decide_eq_true (by omega)
        go_wp2
        go_quiet (fail)
        go_wp2
        go_ret
        exact ⟨rb (by simp [*]), below_drewN HB.out _⟩
      · have d2 : decide ((n : Int) + (N : Int) ≤ 4096) = false := decide_eq_false (by omega)
        go_wp2
        go_quiet (fail)
        go_wp2
        go_ret
        exact ⟨rb (by simp [*]), below_drewN HB.out _⟩
    · have d1 : ((pe : Int) == (e : Int)) = false := by rw [beq_eq_false_iff_ne]; omega
      go_wp2
      go_quiet (fail)
      go_wp2
      go_ret
      exact ⟨rb (by simp [*]), below_drewN HB.out _⟩
end Go.Proofs.Ytbbeekpndhfpjaa.Fg
end
