/- Texts of the walk, one behind the other. -/
import Derived.Test.YtfohinlldchdpaaGreatDoorWholeWayM10
import Derived.Test.YtfohinlldchdpaaGreatDoorWholeWayM23
import Derived.Test.YtfohinlldchdpaaGreatDoorWholeWayM3
import Derived.Laws.EntriesVeiled

section
/- Right encoders, samples of 16 bits; lifted frames are held; the waves of a frame, their levels, the levels ahead. -/
set_option maxRecDepth 100000
set_option linter.unusedVariables false
namespace Go.Proofs.YtfohinlldchdpaaGreatDoor.En
open Go.RowKit Go.Proofs.YtfohinlldchdpaaGreatDoor.Row Go.Proofs.YtfohinlldchdpaaGreatDoor.Rg Go.Proofs.YtfohinlldchdpaaGreatDoor.Md Go.Proofs.YtfohinlldchdpaaGreatDoor.Tl Go.Proofs.YtfohinlldchdpaaGreatDoor.Sta

/-- Sixteen samples of 16 bits; a right encoder. -/
def Snd (b : Nat → Int) : Prop := ∀ i, i < 16 → -32768 ≤ b i ∧ b i ≤ 32767
def Re (f : Nat → Int) : Prop := (∀ i, i < 16 → -131072 ≤ f i ∧ f i ≤ 131072) ∧ (-32768 ≤ f 16 ∧ f 16 ≤ 32767) ∧ Rt (fun i => f (17 + i))
theorem Re.ext {f g : Nat → Int} (h : Re f) (e : ∀ i, i < 55 → f i = g i) : Re g :=
  ⟨fun i hi => by rw [← e i (by omega)]; exact h.1 i hi, by rw [← e 16 (by omega)]; exact h.2.1, h.2.2.ext fun k hk => e _ (by omega)⟩


/-! Lifted frames are held. -/
theorem ah_small {z : Int} {b : Nat → Int} (hz : -32768 ≤ z ∧ z ≤ 32767) (hb : Snd b) : ∀ k, k ≤ 16 → -32768 ≤ ahS z b k ∧ ahS z b k ≤ 32767
  | 0, _ => by show -32768 ≤ ct22 z ∧ ct22 z ≤ 32767; rw [ct22_in (by omega) (by omega)]; exact hz
  | k + 1, hk => by
    have h := hb k (by omega)
    show -32768 ≤ ct22 (b k) ∧ ct22 (b k) ≤ 32767
    rw [ct22_in (by omega) (by omega)]; exact h
theorem li_small {z : Int} {b : Nat → Int} (hz : -32768 ≤ z ∧ z ≤ 32767) (hb : Snd b) (k : Nat) (hk : k < 16) : -65536 ≤ liS z b k ∧ liS z b k ≤ 65536 := by
  have h1 := ah_small hz hb k (by omega)
  have h2 := hb k hk
  have h3 := prt_bd (x := ahS z b k) (b := 32768) (by omega) (by omega)
  unfold liS
  rw [ct22_in (by omega) (by omega)]
  omega
theorem li_le {z : Int} {b : Nat → Int} (hz : -32768 ≤ z ∧ z ≤ 32767) (hb : Snd b) : Le 1048576 (liS z b) := fun i hi => by
  have := li_small hz hb i hi
  exact ab_le (by omega) (by omega)
theorem prev_le {f : Nat → Int} (h : Re f) : Le 1048576 f := fun i hi => by
  have := h.1 i hi
  exact ab_le (by omega) (by omega)
/-- The waves of a frame, and their levels. -/
def wvE (f b : Nat → Int) : Nat → Int := wS f (liS (f 16) b)
def lvE (f b : Nat → Int) : Nat → Int := Lv.lvB (wvE f b)
theorem lvE_ok (f b : Nat → Int) : Sp.okL (lvE f b) := fun i _ => by
  unfold lvE Lv.lvB Lv.lv
  omega
/-- The levels ahead. -/
def lvA (f : Nat → Int) (i : Nat) : Int := f (34 + i)
theorem lvA_ok {f : Nat → Int} (h : Re f) : Sp.okL (lvA f) := fun i hi => by
  have := h.2.2.2.2.1 i hi
  unfold lvA
  rw [show 34 + i = 17 + (17 + i) by omega]
  exact this

end Go.Proofs.YtfohinlldchdpaaGreatDoor.En
end

section
/- Contracts: enc's within, every over numbers, areSamples. -/
set_option maxRecDepth 100000
set_option linter.unusedVariables false
namespace Go.Proofs.YtfohinlldchdpaaGreatDoor.En
open Go.RowKit Go.Proofs.YtfohinlldchdpaaGreatDoor.Row Go.Proofs.YtfohinlldchdpaaGreatDoor.Rg Go.Proofs.YtfohinlldchdpaaGreatDoor.Md Go.Proofs.YtfohinlldchdpaaGreatDoor.Tl Go.Proofs.YtfohinlldchdpaaGreatDoor.Sta

def allB (f : Nat → Int) (l h : Int) : Nat → Bool
  | 0 => true
  | n + 1 => allB f l h n && decide (l ≤ f n ∧ f n ≤ h)
theorem allB_iff (f : Nat → Int) (l h : Int) : ∀ n, allB f l h n = true ↔ ∀ i, i < n → l ≤ f i ∧ f i ≤ h
  | 0 => ⟨fun _ i hi => absurd hi (Nat.not_lt_zero i), fun _ => rfl⟩
  | n + 1 => by
    show (allB f l h n && decide (l ≤ f n ∧ f n ≤ h)) = true ↔ _
    rw [Bool.and_eq_true, decide_eq_true_eq, allB_iff f l h n]
    refine ⟨fun ⟨h1, h2⟩ i hi => ?_, fun h => ⟨fun i hi => h i (by omega), h n (by omega)⟩⟩
    by_cases e : i = n
    · subst e; exact h2
    · exact h1 i (by omega)
theorem allB_no {f : Nat → Int} {l h : Int} {n k : Nat} (hk : k < n) (hn : ¬ (l ≤ f k ∧ f k ≤ h)) : allB f l h n = false := by
  rw [Bool.eq_false_iff]
  intro hh
  exact hn ((allB_iff f l h n).1 hh k hk)

/-- The two bounds that a closure of within reads. -/
def Wi (w : World) (p q : Nat) (l h : Int) : Prop := w.cell? ⟨p, 0, none⟩ = some (.int .i64 l) ∧ w.cell? ⟨q, 0, none⟩ = some (.int .i64 h)
theorem within_any (l h : Int) (w : World) :
    Calls Tryz.prog 31 #[.int .i64 l, .int .i64 h] w fun e w' => ∃ p q, e = .returned (.func (.func 80) #[] #[.pointer (some ⟨p, 0, none⟩), .pointer (some ⟨q, 0, none⟩)]) ∧ Wi w' p q l h ∧ Below w.heap.size w w' := by
  have hmf : ∀ (fn : Fn) (first cap : Array Value) (w : World), (Instr.makeFunc fn first cap).run Tryz.prog w = .ok (.func fn first cap) w := fun _ _ _ _ => rfl
  go_enter Tryz.func31, Tryz.ntmps31
  go_wp2_with fail
  go_ret
  refine ⟨_, _, rfl, ⟨?_, ?_⟩, ((Below.refl _ _).alloc (Nat.le_refl _) _).alloc (by simp) _⟩
  all_goals simp [go_sem]
theorem within1_any (l h x : Int) (p q : Nat) (w : World) (hW : Wi w p q l h) :
    Calls Tryz.prog 80 #[.int .i64 x, .pointer (some ⟨p, 0, none⟩), .pointer (some ⟨q, 0, none⟩)] w fun e w' => e = .returned (.bool (decide (l ≤ x ∧ x ≤ h))) ∧ w = w' := by
  obtain ⟨c1, c2⟩ := hW
  by_cases d1 : l ≤ x
  · by_cases d2 : x ≤ h
    · have HZ := Lib.hid (show decide (l ≤ x ∧ x ≤ h) = true by rw [decide_eq_true_eq]; exact ⟨d1, d2⟩)
      go_enter Tryz.func80, Tryz.ntmps80
      go_wp2_with fail
      go_ret
      exact ⟨ret_bool HZ.out.symm, rfl⟩
    · have HZ := Lib.hid (show decide (l ≤ x ∧ x ≤ h) = false by rw [decide_eq_false_iff_not]; omega)
      go_enter Tryz.func80, Tryz.ntmps80
      go_wp2_with fail
      go_ret
      exact ⟨ret_bool (decide_eq_false (by omega)).symm, rfl⟩
  · have HZ := Lib.hid (show decide (l ≤ x ∧ x ≤ h) = false by rw [decide_eq_false_iff_not]; omega)
    go_enter Tryz.func80, Tryz.ntmps80
    go_wp2_with fail
    go_ret
    exact ⟨ret_bool (by rw [decide_eq_false (show ¬ l ≤ x by omega)]; rfl), rfl⟩

theorem every_num (a : Option Addr) (n c : Nat) (f : Nat → Int) (l h : Int) (p q : Nat) (w : World) (hS : Sl .i64 w a n c f) (hW : Wi w p q l h) :
    Calls Tryz.prog 30 #[.slice a n c, .func (.func 80) #[] #[.pointer (some ⟨p, 0, none⟩), .pointer (some ⟨q, 0, none⟩)]] w fun r w' => r = .returned (.bool (allB f l h n)) ∧ w = w' := by
  have HS := Lib.hid hS.2.2
  have hn : n ≤ 9223372036854775807 := by have := hS.1; have := hS.2.1; unfold maxLen at this; omega
  have HW := Lib.hid hW
  clear hS hW
  go_enter Tryz.func30, Tryz.ntmps30
  go_wp2_with fail
  go_loop [9] (fun i => ∃ k : Nat, k ≤ n ∧ i = .int .i64 k ∧ Hid (allB f l h k = true)) (fun i => n - (intOf i).toNat)
  case atStart => exact ⟨0, Nat.zero_le _, rfl, Lib.hid rfl⟩
  case round =>
    obtain ⟨k, hk, rfl, HK⟩ := hrel
    by_cases hlt : k < n
    · obtain ⟨b, o, rfl, hc⟩ := HS.out (by omega)
      have c0 := hc k hlt
      clear hc
      have HN := Lib.hid (allB_no (f := f) (l := l) (h := h) hlt)
      have HO := Lib.hid (show allB f l h (k + 1) = (allB f l h k && decide (l ≤ f k ∧ f k ≤ h)) from rfl)
      obtain ⟨x, hx⟩ : ∃ x, f k = x := ⟨_, rfl⟩
      rw [hx] at c0 HN HO
      clear hx
      by_cases c1 : l ≤ x ∧ x ≤ h
      · have HD := Lib.hid (show decide (l ≤ x ∧ x ≤ h) = true by rw [decide_eq_true_eq]; exact c1)
        have HX := Lib.hid (within1_any l h x p q w HW.out)
        rw [HD.out] at HX
        clear HN c1
        go_wp2_with (go_at_call 80; (with_reducible refine HX.out.mono ?_); rintro e w' ⟨rfl, rfl⟩)
        go_round
        case rel => exact ⟨k + 1, by omega, by go_num, Lib.hid (by rw [HO.out, HK.out, HD.out]; rfl)⟩
        case measure => simp [intOf]; omega
      · have HD := Lib.hid (show decide (l ≤ x ∧ x ≤ h) = false by rw [decide_eq_false_iff_not]; exact c1)
        have HX := Lib.hid (within1_any l h x p q w HW.out)
        rw [HD.out] at HX
        have HZ := Lib.hid (HN.out c1)
        clear HN HO c1
        go_wp2_with (go_at_call 80; (with_reducible refine HX.out.mono ?_); rintro e w' ⟨rfl, rfl⟩)
        go_ret
        exact ⟨ret_bool HZ.out.symm, rfl⟩
    · obtain rfl : k = n := by omega
      go_wp2_with fail
      go_ret
      exact ⟨ret_bool HK.out.symm, rfl⟩

theorem areSamples_any (a : Option Addr) (n c : Nat) (f : Nat → Int) (w : World) (hS : Sl .i64 w a n c f) :
    Calls Tryz.prog 27 #[.slice a n c] w fun r w' => r = .returned (.bool (allB f (-32768) 32767 n)) ∧ Below w.heap.size w w' := by
  have HS := Lib.hid hS
  obtain ⟨r, hr⟩ : ∃ r, allB f (-32768) 32767 n = r := ⟨_, rfl⟩
  rw [hr]
  have HR := Lib.hid hr
  clear hS hr
  go_enter Tryz.func27, Tryz.ntmps27
  go_wp2_with fail
  refine (within_any (-32768) 32767 w).mono ?_
  rintro e w1 ⟨p, q, rfl, hW, hb⟩
  have HW := Lib.hid hW
  have HB := Lib.hid hb
  have HE := Lib.hid (every_num a n c f (-32768) 32767 p q w1 (HS.out.below HB.out) HW.out)
  rw [HR.out] at HE
  clear hW hb
  go_wp2_with fail
  refine HE.out.mono ?_
  rintro e w2 ⟨rfl, rfl⟩
  go_wp2_with fail
  go_ret
  exact ⟨rfl, HB.out⟩
end Go.Proofs.YtfohinlldchdpaaGreatDoor.En
end
