/- TlA without Lift: fix.Cut to 22 and 16 bits, part, the closures of Lay and Sound. -/
import Derived.Test.YtfpmajlgbipbmaaRowMv
import Derived.Test.YtfpmajlgbipbmaaTlMath
import Derived.Laws.EntriesVeiled
namespace Go.Proofs.Ytfpmajlgbipbmaa.Tl
open Go.RowKit Go.Proofs.Ytfpmajlgbipbmaa.Row
set_option linter.unusedVariables false

theorem zero_block : ∃ Z, IsRow 16 (fun _ => 0) Z ∧ (∀ f, rowL 16 f 0 = Z) ∧ (∀ w, (zeroValue 29).run Try.prog w = .ok (.agg Z) w) ∧ ∀ A : Array Value, A.size = 16 → (Try.prog.info? 29).map (·.size) = some A.size := zero_row (by kernel_rfl)

theorem zero_16 : ∃ Z, IsRow 16 (fun _ => 0) Z ∧ (∀ f, rowL 16 f 0 = Z) ∧ (∀ w, (zeroValue 22).run Try.prog w = .ok (.agg Z) w) ∧ ∀ A : Array Value, A.size = 16 → (Try.prog.info? 22).map (·.size) = some A.size := zero_row (by kernel_rfl)

theorem cut22_as (x p : Int) (w : World) (h : ct22 x = p) :
    Calls Try.prog 23 #[.int .i64 x, .int .i64 22] w fun e w' => e = .returned (.int .i64 p) ∧ w = w' := by
  subst h
  by_cases c1 : x < -2097152
  · go_enter Try.func23, Try.ntmps23
    go_wp2
    go_ret
    exact ⟨ret_int (by unfold ct22; omega), rfl⟩
  · by_cases c2 : 2097151 < x
    · go_enter Try.func23, Try.ntmps23
      go_wp2
      go_ret
      exact ⟨ret_int (by unfold ct22; omega), rfl⟩
    · have h : ¬ (x ≤ -2097152) ∨ x = -2097152 := by omega
      rcases h with h | rfl
      · go_enter Try.func23, Try.ntmps23
        go_wp2
        go_ret
        exact ⟨ret_int (by unfold ct22; omega), rfl⟩
      · go_enter Try.func23, Try.ntmps23
        go_wp2
        go_ret
        exact ⟨ret_int (by decide), rfl⟩

theorem cut16_as (x p : Int) (w : World) (h : ct16 x = p) :
    Calls Try.prog 23 #[.int .i64 x, .int .i64 16] w fun e w' => e = .returned (.int .i64 p) ∧ w = w' := by
  subst h
  by_cases c1 : x < -32768
  · go_enter Try.func23, Try.ntmps23
    go_wp2
    go_ret
    exact ⟨ret_int (by unfold ct16; omega), rfl⟩
  · by_cases c2 : 32767 < x
    · go_enter Try.func23, Try.ntmps23
      go_wp2
      go_ret
      exact ⟨ret_int (by unfold ct16; omega), rfl⟩
    · have h : ¬ (x ≤ -32768) ∨ x = -32768 := by omega
      rcases h with h | rfl
      · go_enter Try.func23, Try.ntmps23
        go_wp2
        go_ret
        exact ⟨ret_int (by unfold ct16; omega), rfl⟩
      · go_enter Try.func23, Try.ntmps23
        go_wp2
        go_ret
        exact ⟨ret_int (by decide), rfl⟩

theorem part_as (x p : Int) (w : World) (h1 : -2097152 ≤ x) (h2 : x ≤ 2097151) (h : prt x = p) :
    Calls Try.prog 50 #[.int .i64 x] w fun e w' => e = .returned (.int .i64 p) ∧ w = w' := by
  subst h
  unfold prt
  go_enter Try.func50, Try.ntmps50
  go_wp2
  go_ret
  exact ⟨rfl, rfl⟩

/-- At block c stands s now, and all else is as it was. -/
def Upd (c : Nat) (w w' : World) (s : Int) : Prop := Below c w w' ∧ At w' c #[.int .i64 s] 3 ∧ ∀ b, b ≠ c → w'.heap[b]? = w.heap[b]?

theorem Upd.at {c b : Nat} {w w' : World} {s : Int} {A : Array Value} {t : TypeId} (h : Upd c w w' s) (hA : At w b A t) (hb : b ≠ c) : At w' b A t := (h.2.2 b hb).trans hA

theorem Upd.of {c : Nat} {w : World} {s r : Int} (hc : At w c #[.int .i64 s] 3) : Upd c w (w.drew.setCell ⟨c, 0, none⟩ (.int .i64 r)) r :=
  ⟨(Below.refl _ _).drew.setCell (show c ≤ c from Nat.le_refl _) _, At.setCell (w := w.drew) hc, fun _ hb => heap_setCell_other w.drew _ _ _ hb⟩

theorem layer1_any (x s p q r : Int) (c : Nat) (w : World) (hc : At w c #[.int .i64 s] 3) (h1 : -2097152 ≤ s) (h2 : s ≤ 2097151) (hp : ct22 x = p) (hq : prt s = q) (hr : ct22 (p + q) = r) :
    Calls Try.prog 49 #[.int .i64 x, .pointer (some ⟨c, 0, none⟩)] w fun e w' => e = .returned (.int .i64 r) ∧ Upd c w w' r := by
  have k1 := cell_of_row _ _ 0 _ _ _ hc
  have k2 := hc.frozen 0
  simp only [List.getElem?_toArray, List.getElem?_cons_zero] at k1
  obtain ⟨p1, p2⟩ := ct22_bd x
  obtain ⟨q1, q2⟩ := prt_bd (b := 2097152) (by omega) (show s ≤ 2097152 by omega)
  rw [hp] at p1 p2
  rw [hq] at q1 q2
  have HP := Lib.hid hp
  have HQ := Lib.hid hq
  have HR := Lib.hid hr
  have k3 : w.drew.cell? ⟨c, 0, none⟩ = some (.int .i64 s) := k1
  have k4 : w.drew.frozen? ⟨c, 0, none⟩ = false := k2
  have hs : IntKind.i64.wrap (p + q) = p + q := IntWalk.i64_in _ (by omega)
  have HU := Lib.hid (Upd.of (r := r) hc)
  clear hp hq hr hc
  go_enter Try.func49, Try.ntmps49
  go_wp2_with fail
  go_region_with (first
    | (go_at_call 23; (with_reducible refine (cut22_as x p _ HP.out).mono ?_); rintro e w' ⟨rfl, rfl⟩)
    | (go_at_call 50; (with_reducible refine (part_as s q _ h1 h2 HQ.out).mono ?_); rintro e w' ⟨rfl, rfl⟩)
    | (go_at_call 23; (with_reducible refine (cut22_as (p + q) r _ HR.out).mono ?_); rintro e w' ⟨rfl, rfl⟩))
  all_goals
    go_wp2
    go_ret
    exact ⟨rfl, HU.out⟩

theorem sound1_any (x p : Int) (w : World) (hp : ct16 x = p) :
    Calls Try.prog 40 #[.int .i64 x] w fun e w' => e = .returned (.int .i64 p) ∧ w = w' := by
  have HP := Lib.hid hp
  clear hp
  go_enter Try.func40, Try.ntmps40
  go_wp2_with (go_at_call 23; (with_reducible refine (cut16_as x p _ HP.out).mono ?_); rintro e w' ⟨rfl, rfl⟩)
  go_ret
  exact ⟨rfl, rfl⟩

theorem layer_any (last s : Int) (w : World) (h : ct22 last = s) :
    Calls Try.prog 39 #[.int .i64 last] w fun e w' => e = .returned (.func (.func 49) #[] #[.pointer (some ⟨w.heap.size, 0, none⟩)]) ∧ w' = w.alloc (.cells #[.int .i64 s] 3) := by
  have H := Lib.hid h
  clear h
  have hmf : ∀ (fn : Fn) (first cap : Array Value) (w : World), (Instr.makeFunc fn first cap).run Try.prog w = .ok (.func fn first cap) w := fun _ _ _ _ => rfl
  go_enter Try.func39, Try.ntmps39
  go_wp2_with (go_at_call 23; (with_reducible refine (cut22_as last s _ H.out).mono ?_); rintro e w' ⟨rfl, rfl⟩)
  go_ret
  exact ⟨rfl, rfl⟩
end Go.Proofs.Ytfpmajlgbipbmaa.Tl
