/- Contracts of lapl's Cost, Put, Take, and of the laws' awake. -/
import Derived.Test.YtidbagkkkpfkbaaDoorLpC
import Derived.Test.YtidbagkkkpfkbaaDoorRgGo
set_option maxRecDepth 100000
set_option linter.unusedVariables false
namespace Go.Proofs.YtidbagkkkpfkbaaDoor.Lp
open Go.RowKit Go.Proofs.YtidbagkkkpfkbaaDoor.Row Go.Proofs.YtidbagkkkpfkbaaDoor.Rg

theorem cell_in {v : Int} (h : -24 ≤ v ∧ v ≤ 24) : cS v = (cl v).s ∧ cW v = (cl v).w ∧ inB v = true := by
  unfold cS cW inB cl
  rw [if_pos h, if_pos h]
  exact ⟨rfl, rfl, by simpa using h⟩
theorem cell_out {v : Int} (h : ¬ (-24 ≤ v ∧ v ≤ 24)) : cS v = 0 ∧ cW v = 0 ∧ inB v = false := by
  unfold cS cW inB
  rw [if_neg h, if_neg h]
  exact ⟨rfl, rfl, by simpa using h⟩
theorem cell_yes (v : Int) (s u : Int) (w : World) (h : -24 ≤ v ∧ v ≤ 24) (hs : ((cl v).s : Int) = s) (hu : ((cl v).w : Int) = u) :
    Calls Tryd.prog 13 #[.int .i64 v] w fun e w' => e = .returned (.tuple #[.int .i64 s, .int .i64 u, .bool true]) ∧ Below w.heap.size w w' := by
  obtain ⟨e1, e2, e3⟩ := cell_in h
  have := cell_any v w
  rw [e1, e2, e3, hs, hu] at this
  exact this
theorem cell_no (v : Int) (w : World) (h : ¬ (-24 ≤ v ∧ v ≤ 24)) :
    Calls Tryd.prog 13 #[.int .i64 v] w fun e w' => e = .returned (.tuple #[.int .i64 0, .int .i64 0, .bool false]) ∧ Below w.heap.size w w' := by
  obtain ⟨e1, e2, e3⟩ := cell_out h
  have := cell_any v w
  rw [e1, e2, e3] at this
  exact this
theorem cl_bd {v : Int} (h : -24 ≤ v ∧ v ≤ 24) : 8 ≤ (cl v).w ∧ (cl v).w ≤ 12568 ∧ (cl v).s + (cl v).w ≤ 32768 := by
  have h1 := iV_lt.2 h
  exact ⟨wI_ge h1, wd_le _, sw_le h1⟩

/-- How many bits a number costs. -/
def cC (v : Int) : Nat := cost (cl v).w
theorem half {n P : Nat} (h : 32768 / 2 ^ n = P) : 32768 / 2 ^ (n + 1) = P / 2 := by
  rw [← h, Nat.pow_succ, ← Nat.div_div_eq_div_mul]

theorem cost_yes (v : Int) (c : Int) (w : World) (h : -24 ≤ v ∧ v ≤ 24) (hc : (cC v : Int) = c) :
    Calls Tryd.prog 7 #[.int .i64 v] w fun e w' => e = .returned (.int .i64 c) ∧ Below w.heap.size w w' := by
  subst hc
  obtain ⟨u, hu⟩ : ∃ u, (cl v).w = u := ⟨_, rfl⟩
  obtain ⟨b1, b2, _⟩ := cl_bd h
  rw [hu] at b1 b2
  obtain ⟨C, hC⟩ : ∃ C, cC v = C := ⟨_, rfl⟩
  obtain ⟨k1, k2, k3⟩ := cost_spec (w := u) (by omega)
  rw [show cost u = C by rw [← hC, ← hu]; rfl] at k1 k2 k3
  have K2 := Lib.hid k2
  have K3 := Lib.hid k3
  have HV := Lib.hid h
  have HU := Lib.hid hu
  rw [hC]
  clear k2 k3 hu hC h
  go_enter Tryd.func7, Tryd.ntmps7
  go_wp2_with (go_at_call 13; (with_reducible refine (cell_yes v _ u _ HV.out rfl (congrArg Nat.cast HU.out)).mono ?_); rintro e w1 ⟨rfl, h1⟩; have B1 := Lib.hid h1; clear h1)
  go_loop [6, 7] (fun x y => ∃ n P : Nat, x = .int .i64 n ∧ y = .int .i64 P ∧ n ≤ C ∧ P ≤ 32768 ∧ Hid (32768 / 2 ^ n = P)) (fun x _ => 100 - (intOf x).toNat)
  case atStart => exact ⟨0, 32768, rfl, rfl, by omega, by omega, Lib.hid (by omega)⟩
  case round =>
    obtain ⟨n, P, rfl, rfl, hn, hP, HP⟩ := hrel
    by_cases hlt : n < C
    · have hu : (u : Int) < P := by have := K3.out n hlt; rw [HP.out] at this; omega
      have HN := Lib.hid (half HP.out)
      go_wp2
      go_round
      case rel => exact ⟨n + 1, P / 2, by go_num, by go_num, by omega, by omega, HN⟩
      case measure => simp [intOf]; omega
    · obtain rfl : n = C := by omega
      have hu : (P : Int) ≤ u := by have := K2.out; rw [HP.out] at this; omega
      go_wp2
      go_ret
      exact ⟨rfl, B1.out⟩
theorem cost_no (v : Int) (w : World) (h : ¬ (-24 ≤ v ∧ v ≤ 24)) :
    Calls Tryd.prog 7 #[.int .i64 v] w fun e w' => e = .returned (.int .i64 0) ∧ Below w.heap.size w w' := by
  have HV := Lib.hid h
  clear h
  go_enter Tryd.func7, Tryd.ntmps7
  go_wp2_with (go_at_call 13; (with_reducible refine (cell_no v _ HV.out).mono ?_); rintro e w1 ⟨rfl, h1⟩; have B1 := Lib.hid h1; clear h1)
  go_ret
  exact ⟨rfl, B1.out⟩

theorem awake_yes (w : World) :
    Calls Tryd.prog 4 #[] w fun e w' => e = .returned (.bool true) ∧ Below w.heap.size w w' := by
  go_enter Tryd.func4, Tryd.ntmps4
  go_wp2_with (go_at_call 13; (with_reducible refine (cell_yes 0 0 12568 _ (by omega) (by decide +kernel) (by decide +kernel)).mono ?_); rintro e w1 ⟨rfl, h1⟩; have B1 := Lib.hid h1; clear h1)
  go_ret
  exact ⟨rfl, B1.out⟩

theorem lput_as (w : World) (b : Nat) (T : Nat → Prop) (size : Nat) (x : St) (v : Int) (h : EncIs w b T size x) (hx : x.ok) (hv : -24 ≤ v ∧ v ≤ 24) (hsz : size ≤ 4096) (hg : x.g ≤ 100000) :
    Calls Tryd.prog 6 #[.pointer (some ⟨b, 0, none⟩), .int .i64 v] w fun e w' => e = .returned (.int .i64 0) ∧ EncGo w b T size (x.put (cl v)) w' := by
  have H := Lib.hid h
  have HX := Lib.hid hx
  have HV := Lib.hid hv
  clear h hx hv
  go_enter Tryd.func6, Tryd.ntmps6
  go_wp2_with fail
  refine (cell_yes v _ _ _ HV.out rfl rfl).mono ?_
  rintro e w1 ⟨rfl, h1⟩
  have B1 := Lib.hid h1
  clear h1
  go_wp2_with fail
  refine (put_at _ b T size x (cl v) _ _ _ (H.out.below B1.out) HX.out (cl_ok HV.out.1 HV.out.2) rfl rfl rfl hsz hg).mono ?_
  rintro e w2 ⟨rfl, h2⟩
  have H2 := Lib.hid (EncGo.next (T := T) (Fr.of_below B1.out) (fun k hk => .inl hk) h2)
  clear h2
  go_wp2
  go_ret
  exact ⟨rfl, H2.out⟩
theorem lput_no (w : World) (p : Option Addr) (v : Int) (hv : ¬ (-24 ≤ v ∧ v ≤ 24)) :
    Calls Tryd.prog 6 #[.pointer p, .int .i64 v] w fun e w' => e = .returned (.int .i64 1) ∧ Below w.heap.size w w' := by
  have HV := Lib.hid hv
  clear hv
  go_enter Tryd.func6, Tryd.ntmps6
  go_wp2_with (go_at_call 13; (with_reducible refine (cell_no v _ HV.out).mono ?_); rintro e w1 ⟨rfl, h1⟩; have B1 := Lib.hid h1; clear h1)
  go_ret
  exact ⟨rfl, B1.out⟩

/-- The number that a decoder takes next. -/
def lv (d : Dt) : Int := vI (fI (d.place 32768))
theorem place_in (d : Dt) : d.place 32768 < 32768 := by unfold Dt.place; omega
theorem lv_in (d : Dt) : -24 ≤ lv d ∧ lv d ≤ 24 := is_in (fI_spec (place_in d)).1 rfl

theorem ltake_no (w : World) :
    Calls Tryd.prog 11 #[.pointer none] w fun e w' => e = .returned (.tuple #[.int .i64 0, .int .i64 1]) ∧ w = w' := by
  go_enter Tryd.func11, Tryd.ntmps11
  go_wp2_with (go_at_call 21; (with_reducible refine (at_no _ none 32768 (.inl rfl)).mono ?_); rintro e w1 ⟨rfl, rfl⟩)
  go_ret2
  exact ⟨rfl, rfl⟩
theorem ltake_as (w : World) (b : Nat) (T : Nat → Prop) (s : List UInt8) (d : Dt) (v : Int) (h : DecIs w b T s d) (hd : d.ok) (hv : lv d = v) (hg : d.g ≤ 100000) (hl : s.length ≤ 9223372036854775800) :
    Calls Tryd.prog 11 #[.pointer (some ⟨b, 0, none⟩)] w fun e w' => e = .returned (.tuple #[.int .i64 v, .int .i64 0]) ∧ DecIs w' b T s (d.take (byteF s) (cl v)) ∧ Fr T w w' := by
  have H := Lib.hid h
  have HD := Lib.hid hd
  have HV := Lib.hid (show -24 ≤ v ∧ v ≤ 24 from hv ▸ lv_in d)
  obtain ⟨p, hp⟩ : ∃ p, d.place 32768 = p := ⟨_, rfl⟩
  have hp2 : p < 32768 := hp ▸ place_in d
  have HF := Lib.hid (show fV (p : Int) = v ∧ fB (p : Int) = true from by
    refine ⟨?_, by unfold fB; simp; omega⟩
    unfold fV
    rw [if_pos (by omega), Int.toNat_natCast, ← hp]
    exact hv)
  have HP := Lib.hid hp
  clear h hd hv hp
  go_enter Tryd.func11, Tryd.ntmps11
  go_wp2_with fail
  refine (at_at _ b T s d 32768 32768 p H.out HD.out rfl (by omega) (by omega) HP.out).mono ?_
  rintro e w1 ⟨rfl, h1⟩
  have B1 := Lib.hid h1
  clear h1
  go_wp2_with fail
  refine (find_any (p : Int) _).mono ?_
  rw [HF.out.1, HF.out.2]
  rintro e w2 ⟨rfl, h2⟩
  have B2 := Lib.hid (below_trans B1.out h2 B1.out.size)
  clear h2 B1
  go_wp2_with fail
  refine (cell_yes v _ _ _ HV.out rfl rfl).mono ?_
  rintro e w3 ⟨rfl, h3⟩
  have B3 := Lib.hid (below_trans B2.out h3 B2.out.size)
  clear h3 B2
  go_wp2_with fail
  refine (take_at _ b T s d (cl v) _ _ _ (H.out.below B3.out) HD.out (cl_ok HV.out.1 HV.out.2) rfl rfl rfl hg hl).mono ?_
  rintro e w4 ⟨rfl, h4, h5⟩
  have H4 := Lib.hid h4
  have H5 := Lib.hid (Fr.same (T := T) (Fr.of_below B3.out) h5)
  clear h4 h5
  go_wp2
  go_ret2
  exact ⟨rfl, H4.out, H5.out⟩

theorem EncOn.bel {w w' : World} {b size : Nat} {x : St} (h : EncOn w b size x w') : Below w.heap.size w w' := by
  obtain ⟨T, _, _, h⟩ := h
  exact h
theorem lput_on (w0 w : World) (b : Nat) (size : Nat) (x : St) (v : Int) (h : EncOn w0 b size x w) (hx : x.ok) (hv : -24 ≤ v ∧ v ≤ 24) (hsz : size ≤ 4096) (hg : x.g ≤ 100000) :
    Calls Tryd.prog 6 #[.pointer (some ⟨b, 0, none⟩), .int .i64 v] w fun e w' => e = .returned (.int .i64 0) ∧ EncOn w0 b size (x.put (cl v)) w' := by
  obtain ⟨T, h1, h2, h3⟩ := h
  exact (lput_as w b T size x v h1 hx hv hsz hg).mono fun e w' ⟨he, hg⟩ => ⟨he, EncOn.go (x := x) h2 h3 hg⟩
end Go.Proofs.YtidbagkkkpfkbaaDoor.Lp
