/- Texts of the walk, one behind the other. -/
import Derived.Test.YtfohinlldchdpaaGreatDoorEncPlaysM12
import Derived.Test.YtfohinlldchdpaaGreatDoorEncPlaysM14

section
/- Contracts of the document's Width, Cell, Find (layer 8). -/
set_option maxRecDepth 100000
set_option linter.unusedVariables false
namespace Go.Proofs.YtfohinlldchdpaaGreatDoor.Lp
open Go.RowKit Go.Proofs.YtfohinlldchdpaaGreatDoor.Row

theorem refWidth_pos (v : Int) (k u : Nat) (w : World) (h1 : 1 ≤ k) (h2 : k ≤ 24) (hv : v = k ∨ v = -k) (hu : wd k = u) :
    Calls Tryz.prog 98 #[.int .i64 v] w fun e w' => e = .returned (.int .i64 u) ∧ w = w' := by
  have HU := Lib.hid (show max (5000 / 2 ^ (k - 1)) 8 = u by rw [← hu]; unfold wd; rw [if_neg (by omega)])
  clear hu
  have key : ∀ z : Int, z = k → Calls Tryz.prog 98 #[.int .i64 v] w fun e w' => e = .returned (.int .i64 u) ∧ w = w' := by
    rintro z rfl
    rcases hv with rfl | rfl
    all_goals
      go_enter Tryz.func98, Tryz.ntmps98
      go_wp2
      go_loop [5, 6] (fun x i => ∃ j P : Nat, 1 ≤ j ∧ j ≤ k ∧ i = .int .i64 j ∧ x = .int .i64 P ∧ P ≤ 5000 ∧ Hid (5000 / 2 ^ (j - 1) = P)) (fun _ i => 100 - (intOf i).toNat)
      case atStart => exact ⟨1, 5000, by omega, by omega, rfl, rfl, by omega, Lib.hid (by omega)⟩
      case round =>
        obtain ⟨j, P, hj1, hj2, rfl, rfl, hP, HP⟩ := hrel
        by_cases hlt : j < k
        · have HN := Lib.hid (show 5000 / 2 ^ (j + 1 - 1) = P / 2 by
            rw [← HP.out, show j + 1 - 1 = (j - 1) + 1 by omega, Nat.pow_succ, ← Nat.div_div_eq_div_mul])
          go_wp2
          go_round
          case rel => exact ⟨j + 1, P / 2, by omega, by omega, by go_num, by go_num, by omega, HN⟩
          case measure => simp [intOf]; omega
        · obtain rfl : j = k := by omega
          have HQ := Lib.hid (show max P 8 = u by rw [← HU.out, HP.out])
          go_wp2
          all_goals
            have := HQ.out
            go_ret
            exact ⟨ret_int (by omega), rfl⟩
  exact key k rfl

theorem refWidth_zero (w : World) :
    Calls Tryz.prog 98 #[.int .i64 0] w fun e w' => e = .returned (.int .i64 12568) ∧ w = w' := by
  go_enter Tryz.func98, Tryz.ntmps98
  go_wp2
  go_loop [3, 4] (fun x i => ∃ k : Nat, 1 ≤ k ∧ k ≤ 25 ∧ i = .int .i64 k ∧ x = .int .i64 (rest k)) (fun _ i => 100 - (intOf i).toNat)
  case atStart => exact ⟨1, by omega, by omega, rfl, rfl⟩
  case round =>
    obtain ⟨k, hk1, hk2, rfl, rfl⟩ := hrel
    by_cases hk : k ≤ 24
    · obtain ⟨u, hu⟩ : ∃ u, wd k = u := ⟨_, rfl⟩
      have HN := Lib.hid (hu ▸ rest_next hk1 hk)
      have HL := rest_le hk2
      have HW := hu ▸ wd_le k
      have HU := Lib.hid hu
      clear hu
      go_wp2_with (go_at_call 98; (with_reducible refine (refWidth_pos (k : Int) k u _ hk1 hk (.inl rfl) HU.out).mono ?_); rintro e w' ⟨rfl, rfl⟩)
      go_round
      case rel => exact ⟨k + 1, by omega, by omega, by go_num, by have := HN.out; congr 1; omega⟩
      case measure => simp [intOf]; omega
    · obtain rfl : k = 25 := by omega
      go_wp2
      go_ret
      exact ⟨rfl, rfl⟩

theorem refWidth_as (v : Int) (u : Nat) (w : World) (h : -24 ≤ v ∧ v ≤ 24) (hu : wd v.natAbs = u) :
    Calls Tryz.prog 98 #[.int .i64 v] w fun e w' => e = .returned (.int .i64 u) ∧ w = w' := by
  by_cases h0 : v = 0
  · subst h0
    subst hu
    exact refWidth_zero w
  · exact refWidth_pos v v.natAbs u w (by omega) (by omega) (by omega) hu

theorem vI_next (i : Nat) : vI (i + 1) = if 0 < vI i then -vI i else 1 - vI i := by
  unfold vI nI
  split <;> split <;> split <;> omega
theorem vI_bd {i : Nat} (h : i < 49) : -24 ≤ vI i ∧ vI i ≤ 24 := by
  unfold vI nI
  split <;> omega
theorem wI_vI (i : Nat) : wd (vI i).natAbs = wI i := by
  unfold wI
  congr 1
  unfold vI nI
  split <;> omega

theorem refCell_as (v : Int) (s u : Nat) (w : World) (h : -24 ≤ v ∧ v ≤ 24) (hs : sI (iV v) = s) (hu : wI (iV v) = u) :
    Calls Tryz.prog 45 #[.int .i64 v] w fun e w' => e = .returned (.agg #[.int .i64 s, .int .i64 u, .int .i64 32768]) ∧ Below w.heap.size w w' := by
  have hi := iV_lt.2 h
  have HV := Lib.hid (vI_iV v)
  have HS := Lib.hid hs
  have HU := Lib.hid (show wd v.natAbs = u by rw [← hu, ← wI_vI, vI_iV])
  have HI := Lib.hid hi
  obtain ⟨I, hI⟩ : ∃ I, iV v = I := ⟨_, rfl⟩
  rw [hI] at hi HV HS
  have hsz : s + u ≤ 32768 := by rw [← hs, ← hu, hI]; exact sw_le hi
  clear hs hu hI
  go_enter Tryz.func45, Tryz.ntmps45
  go_wp2
  go_loop [3, 4] (fun a x => ∃ i A : Nat, i ≤ I ∧ x = .int .i64 (vI i) ∧ a = .int .i64 A ∧ A ≤ 32768 ∧ Hid (sI i = A)) (fun a _ => 100000 - (intOf a).toNat)
  case atStart => exact ⟨0, 0, by omega, rfl, rfl, by omega, Lib.hid rfl⟩
  case round =>
    obtain ⟨i, A, hi2, rfl, rfl, hA, HA⟩ := hrel
    obtain ⟨x, hx⟩ : ∃ x, vI i = x := ⟨_, rfl⟩
    rw [hx]
    by_cases hlt : i < I
    · obtain ⟨y, hy⟩ : ∃ y, wI i = y := ⟨_, rfl⟩
      have hxb : -24 ≤ x ∧ x ≤ 24 := hx ▸ vI_bd (by omega)
      have HY := Lib.hid (show wd x.natAbs = y by rw [← hx, wI_vI, hy])
      have HN := Lib.hid (show sI (i + 1) = A + y by show sI i + wI i = _; rw [HA.out, hy])
      have hAy : A + y ≤ 32768 := by rw [← HN.out]; exact sI_le (by omega)
      have hy8 : 8 ≤ y := hy ▸ wI_ge (by omega)
      have HX := Lib.hid (show vI (i + 1) = if 0 < x then -x else 1 - x by rw [vI_next, hx])
      have hne : (x != v) = true := by
        have hv := HV.out
        simp only [bne_iff_ne, ne_eq]
        intro e
        have h1 : i = I := by rw [← iV_vI i, ← iV_vI I, hx, hv, e]
        omega
      clear hx hy
      by_cases h0 : 0 < x
      · have hd : decide (0 < x) = true := by simpa using h0
        have HX2 := Lib.hid (show vI (i + 1) = -x by rw [HX.out, if_pos h0])
        clear HX
        go_wp2_with (go_at_call 98; (with_reducible refine (refWidth_as x y _ hxb HY.out).mono ?_); rintro e w' ⟨rfl, rfl⟩)
        go_round
        case rel => exact ⟨i + 1, A + y, by omega, by rw [HX2.out], by go_num, by omega, HN⟩
        case measure => simp [intOf]; omega
      · have hd : decide (0 < x) = false := by simpa using h0
        have HX2 := Lib.hid (show vI (i + 1) = 1 - x by rw [HX.out, if_neg h0])
        clear HX
        go_wp2_with (go_at_call 98; (with_reducible refine (refWidth_as x y _ hxb HY.out).mono ?_); rintro e w' ⟨rfl, rfl⟩)
        go_round
        case rel => exact ⟨i + 1, A + y, by omega, by rw [HX2.out], by go_num, by omega, HN⟩
        case measure => simp [intOf]; omega
    · obtain rfl : i = I := by omega
      obtain rfl : x = v := by rw [← hx, HV.out]
      obtain rfl : A = s := by rw [← HA.out, HS.out]
      have hne : (x != x) = false := by simp
      clear hx
      go_wp2_with (go_at_call 98; (with_reducible refine (refWidth_as x u _ h HU.out).mono ?_); rintro e w' ⟨rfl, rfl⟩)
      have hA1 := At.new w #[.int .i64 A, .int .i64 u, .int .i64 32768] 92
      refine bodyPost_ret (v := .agg #[.int .i64 A, .int .i64 u, .int .i64 32768]) ?_ rfl ⟨rfl, (Below.refl _ _).alloc (Nat.le_refl _) _⟩
      have d0 : (w.alloc (.cells #[.int .i64 A, .int .i64 u, .int .i64 32768] 92)).cell? ⟨w.heap.size, 0, none⟩ = some (.int .i64 A) := by rw [hA1.cell]; rfl
      have d1 : (w.alloc (.cells #[.int .i64 A, .int .i64 u, .int .i64 32768] 92)).cell? ⟨w.heap.size, 1, none⟩ = some (.int .i64 u) := by rw [hA1.cell]; rfl
      have d2 : (w.alloc (.cells #[.int .i64 A, .int .i64 u, .int .i64 32768] 92)).cell? ⟨w.heap.size, 2, none⟩ = some (.int .i64 32768) := by rw [hA1.cell]; rfl
      clear hA1
      generalize w.alloc (.cells #[.int .i64 A, .int .i64 u, .int .i64 32768] 92) = V at *
      simp [results, Tryz.f45, go_sem, loadVar, isAgg, run_underlying Tryz.underlying92, d0, d1, d2]

theorem refFind_as (p : Int) (v : Int) (w : World) (h0 : 0 ≤ p) (h1 : p < 32768) (hv : vI (fI p.toNat) = v) :
    Calls Tryz.prog 146 #[.int .i64 p] w fun e w' => e = .returned (.int .i64 v) ∧ w = w' := by
  obtain ⟨F1, F2, F3⟩ := fI_spec (p := p.toNat) (by omega)
  obtain ⟨I, hI⟩ : ∃ I, fI p.toNat = I := ⟨_, rfl⟩
  rw [hI] at F1 F2 F3 hv
  have HF := Lib.hid (And.intro F2 F3)
  have HV := Lib.hid hv
  clear F2 F3 hv hI
  go_enter Tryz.func146, Tryz.ntmps146
  go_wp2
  go_loop [0, 3] (fun a x => ∃ i : Nat, ∃ A : Int, i ≤ I ∧ x = .int .i64 (vI i) ∧ a = .int .i64 A ∧ 0 ≤ A ∧ A < 32768 ∧ Hid (A + sI i = p)) (fun a _ => (intOf a).toNat)
  case atStart => exact ⟨0, p, by omega, rfl, rfl, h0, h1, Lib.hid (by show p + 0 = p; omega)⟩
  case round =>
    obtain ⟨i, A, hi2, rfl, rfl, hA0, hA1, HA⟩ := hrel
    obtain ⟨x, hx⟩ : ∃ x, vI i = x := ⟨_, rfl⟩
    rw [hx]
    obtain ⟨y, hy⟩ : ∃ y, wI i = y := ⟨_, rfl⟩
    have hxb : -24 ≤ x ∧ x ≤ 24 := hx ▸ vI_bd (by omega)
    have HY := Lib.hid (show wd x.natAbs = y by rw [← hx, wI_vI, hy])
    have hy8 : 8 ≤ y := hy ▸ wI_ge (by omega)
    have hyl : y ≤ 32768 := by have := sw_le (i := i) (by omega); omega
    by_cases hlt : i < I
    · have HN := Lib.hid (show sI (i + 1) = sI i + y by show sI i + wI i = _; rw [hy])
      have HX := Lib.hid (show vI (i + 1) = if 0 < x then -x else 1 - x by rw [vI_next, hx])
      have hge : (y : Int) ≤ A := by have := HF.out.2 i hlt; have := HA.out; omega
      clear hx hy
      by_cases h0 : 0 < x
      · have hd : decide (0 < x) = true := by simpa using h0
        have HX2 := Lib.hid (show vI (i + 1) = -x by rw [HX.out, if_pos h0])
        clear HX
        go_wp2_with (go_at_call 98; (with_reducible refine (refWidth_as x y _ hxb HY.out).mono ?_); rintro e w' ⟨rfl, rfl⟩)
        go_round
        case rel => exact ⟨i + 1, A - y, by omega, by rw [HX2.out], by go_num, by omega, by omega, Lib.hid (by have := HN.out; have := HA.out; omega)⟩
        case measure => simp [intOf]; omega
      · have hd : decide (0 < x) = false := by simpa using h0
        have HX2 := Lib.hid (show vI (i + 1) = 1 - x by rw [HX.out, if_neg h0])
        clear HX
        go_wp2_with (go_at_call 98; (with_reducible refine (refWidth_as x y _ hxb HY.out).mono ?_); rintro e w' ⟨rfl, rfl⟩)
        go_round
        case rel => exact ⟨i + 1, A - y, by omega, by rw [HX2.out], by go_num, by omega, by omega, Lib.hid (by have := HN.out; have := HA.out; omega)⟩
        case measure => simp [intOf]; omega
    · obtain rfl : i = I := by omega
      obtain rfl : x = v := by rw [← hx, HV.out]
      have hlt2 : A < (y : Int) := by have := HF.out.1; have := HA.out; omega
      clear hx
      go_wp2_with (go_at_call 98; (with_reducible refine (refWidth_as x y _ hxb HY.out).mono ?_); rintro e w' ⟨rfl, rfl⟩)
      go_ret
      exact ⟨rfl, rfl⟩
end Go.Proofs.YtfohinlldchdpaaGreatDoor.Lp
end
