/- Texts of the walk, one behind the other. -/
import Derived.Test.YtimhemcoflpmcaaDoorDecZerosM6
import Derived.Test.YtimhemcoflpmcaaDoorDecZerosM1
import Derived.Test.YtimhemcoflpmcaaDoorDecZerosM8
import Derived.Deep.DeepCutAuto

section
/- Contracts of rang's isTotal, isCell, isCount, step, narrow. -/
set_option maxRecDepth 100000
namespace Go.Proofs.YtimhemcoflpmcaaDoor.Rg
open Go.RowKit Go.Proofs.YtimhemcoflpmcaaDoor.Row

theorem isTotal_yes (x : Int) (w : World) (h1 : 1 ≤ x) (h2 : x ≤ 32768) :
    Calls Tryd.prog 66 #[.int .i64 x] w fun e w' => e = .returned (.bool true) ∧ w = w' := by
  go_enter Tryd.func66, Tryd.ntmps66
  go_wp2
  go_ret
  exact ⟨rfl, rfl⟩
theorem isTotal_no (x : Int) (w : World) (h : ¬ (1 ≤ x ∧ x ≤ 32768)) :
    Calls Tryd.prog 66 #[.int .i64 x] w fun e w' => e = .returned (.bool false) ∧ w = w' := by
  by_cases h1 : 1 ≤ x
  · have h2 : decide (x ≤ 32768) = false := by simp; omega
    clear h
    go_enter Tryd.func66, Tryd.ntmps66
    go_wp2
    go_ret
    exact ⟨rfl, rfl⟩
  · clear h
    go_enter Tryd.func66, Tryd.ntmps66
    go_wp2
    go_ret
    exact ⟨rfl, rfl⟩
theorem isCell_yes (s v t : Int) (w : World) (h1 : 1 ≤ t) (h2 : t ≤ 32768) (h3 : 0 ≤ s) (h4 : 1 ≤ v) (h5 : s + v ≤ t) :
    Calls Tryd.prog 68 #[.int .i64 s, .int .i64 v, .int .i64 t] w fun e w' => e = .returned (.bool true) ∧ w = w' := by
  have h6 : v ≤ t - s := by omega
  go_enter Tryd.func68, Tryd.ntmps68
  go_wp2_with (go_at_call 66; (with_reducible refine (isTotal_yes t _ h1 h2).mono ?_); rintro e w' ⟨rfl, rfl⟩)
  go_ret
  exact ⟨rfl, rfl⟩
theorem isCell_no (s v t : Int) (w : World) (hs : s ≤ 9223372036854775807) (h : ¬ (1 ≤ t ∧ t ≤ 32768 ∧ 0 ≤ s ∧ 1 ≤ v ∧ s + v ≤ t)) :
    Calls Tryd.prog 68 #[.int .i64 s, .int .i64 v, .int .i64 t] w fun e w' => e = .returned (.bool false) ∧ w = w' := by
  by_cases c1 : 1 ≤ t ∧ t ≤ 32768
  · obtain ⟨c1, c2⟩ := c1
    by_cases c3 : 0 ≤ s
    · by_cases c4 : 1 ≤ v
      · have c5 : decide (v ≤ t - s) = false := by simp; omega
        clear h
        go_enter Tryd.func68, Tryd.ntmps68
        go_wp2_with (go_at_call 66; (with_reducible refine (isTotal_yes t _ c1 c2).mono ?_); rintro e w' ⟨rfl, rfl⟩)
        go_ret
        exact ⟨rfl, rfl⟩
      · clear h
        go_enter Tryd.func68, Tryd.ntmps68
        go_wp2_with (go_at_call 66; (with_reducible refine (isTotal_yes t _ c1 c2).mono ?_); rintro e w' ⟨rfl, rfl⟩)
        go_ret
        exact ⟨rfl, rfl⟩
    · clear h
      go_enter Tryd.func68, Tryd.ntmps68
      go_wp2_with (go_at_call 66; (with_reducible refine (isTotal_yes t _ c1 c2).mono ?_); rintro e w' ⟨rfl, rfl⟩)
      go_ret
      exact ⟨rfl, rfl⟩
  · clear h
    have C := Lib.hid c1
    clear c1
    go_enter Tryd.func68, Tryd.ntmps68
    go_wp2_with (go_at_call 66; (with_reducible refine (isTotal_no t _ C.out).mono ?_); rintro e w' ⟨rfl, rfl⟩)
    go_ret
    exact ⟨rfl, rfl⟩

theorem step_as (b o : Nat) (r t u : Int) (w : World) (hc : w.cell? ⟨b, o, none⟩ = some (.int .u32 r)) (h0 : 0 ≤ r) (h1 : r ≤ 4294967295) (t1 : 1 ≤ t) (t2 : t ≤ 32768) (h : r / t = u) :
    Calls Tryd.prog 67 #[.pointer (some ⟨b, o, none⟩), .int .i64 t] w fun e w' => e = .returned (.int .u32 u) ∧ w = w' := by
  have H := Lib.hid h
  clear h
  go_enter Tryd.func67, Tryd.ntmps67
  go_wp2
  go_ret
  exact ⟨ret_int (by rw [← H.out]), rfl⟩

theorem sh_lt {q k : Nat} (h : k < sh q) : q * 256 ^ k < 16777216 := by
  unfold sh at h
  split at h
  · omega
  · split at h
    · obtain rfl : k = 0 := by omega
      omega
    · split at h
      · have : k = 0 ∨ k = 1 := by omega
        rcases this with rfl | rfl <;> omega
      · have : k = 0 ∨ k = 1 ∨ k = 2 := by omega
        rcases this with rfl | rfl | rfl <;> omega

/-- Two cells of a row are the range, and how many bytes it has gone. -/
def Sc (A : Array Value) (o : Nat) (r g : Nat) : Prop := A[o]? = some (.int .u32 r) ∧ A[o + 1]? = some (.int .i64 g)
/-- The row with another range, and other bytes. -/
def scSet (A : Array Value) (o : Nat) (r g : Nat) : Array Value := (A.setIfInBounds o (.int .u32 r)).setIfInBounds (o + 1) (.int .i64 g)
def NarS (w : World) (b o : Nat) (A : Array Value) (t : TypeId) (r : Nat) (w' : World) : Prop := Fr (Just b) w w' ∧ At w' b (A.setIfInBounds o (.int .u32 r)) t
theorem set_set (A : Array Value) (o : Nat) (x y : Value) : (A.setIfInBounds o x).setIfInBounds o y = A.setIfInBounds o y := by
  apply Array.ext_getElem?
  intro i
  by_cases e : o = i
  · subst e
    by_cases h : o < A.size
    · rw [Array.getElem?_setIfInBounds_self_of_lt (by simpa using h), Array.getElem?_setIfInBounds_self_of_lt h]
    · rw [Array.getElem?_eq_none (by simpa using h), Array.getElem?_eq_none (by simpa using h)]
  · rw [Array.getElem?_setIfInBounds_ne e, Array.getElem?_setIfInBounds_ne e, Array.getElem?_setIfInBounds_ne e]
theorem NarS.put {w w' : World} {b o : Nat} {A : Array Value} {t : TypeId} {r : Nat} (h : NarS w b o A t r w') (r' : Nat) : NarS w b o A t r' (w'.setCell ⟨b, o, none⟩ (.int .u32 r')) :=
  ⟨h.1.setCell (.inl (Just.self b)) _, by have := h.2.setCell (i := o) (v := .int .u32 r'); rwa [set_set] at this⟩
theorem NarS.start {w : World} {b o : Nat} {A : Array Value} {t : TypeId} (h : At w b A t) (r : Nat) : NarS w b o A t r (w.setCell ⟨b, o, none⟩ (.int .u32 r)) :=
  ⟨(Fr.refl _ _).setCell (.inl (Just.self b)) _, h.setCell⟩
theorem NarS.done {w w' : World} {b o : Nat} {A : Array Value} {t : TypeId} {r : Nat} (h : NarS w b o A t r w') (g : Nat) : Fr (Just b) w (w'.setCell ⟨b, o + 1, none⟩ (.int .i64 g)) ∧ At (w'.setCell ⟨b, o + 1, none⟩ (.int .i64 g)) b (scSet A o r g) t :=
  ⟨h.1.setCell (.inl (Just.self b)) _, h.2.setCell⟩
theorem NarS.cell {w w' : World} {b o : Nat} {A : Array Value} {t : TypeId} {r : Nat} (h : NarS w b o A t r w') (ho : o < A.size) : w'.cell? ⟨b, o, none⟩ = some (.int .u32 r) := by
  rw [h.2.cell, Array.getElem?_setIfInBounds_self_of_lt ho]
theorem NarS.cell2 {w w' : World} {b o : Nat} {A : Array Value} {t : TypeId} {r : Nat} (h : NarS w b o A t r w') : w'.cell? ⟨b, o + 1, none⟩ = A[o + 1]? := by
  rw [h.2.cell, Array.getElem?_setIfInBounds_ne (by omega)]
theorem Sc.lt {A : Array Value} {o r g : Nat} (h : Sc A o r g) : o < A.size := (Array.getElem?_eq_some_iff.1 h.1).1

set_option maxHeartbeats 400000 in
theorem narrow_as (b o : Nat) (A : Array Value) (ty : TypeId) (r g v t u q n : Nat) (w : World) (hA : At w b A ty) (hs : Sc A o r g) (r1 : r ≤ 4294967295) (t1 : 1 ≤ t) (t2 : t ≤ 32768) (g1 : g ≤ 1000000000)
    (hu : r / t = u) (hq : u * v = q) (q1 : 1 ≤ q) (q2 : q ≤ 4294967295) (v2 : v ≤ 32768) (hn : sh q = n) :
    Calls Tryd.prog 69 #[.pointer (some ⟨b, o, none⟩), .int .i64 v, .int .i64 t] w fun e w' => e = .returned (.int .i64 n) ∧ Fr (Just b) w w' ∧ At w' b (scSet A o (q * 256 ^ n) (g + n)) ty := by
  have c0 : w.cell? ⟨b, o, none⟩ = some (.int .u32 r) := by rw [hA.cell]; exact hs.1
  have f0 := hA.frozen o
  have n3 : n ≤ 3 := by rw [← hn]; exact sh_le q
  have ho := hs.lt
  have HU := Lib.hid (show (r : Int) / (t : Int) = (u : Int) by rw [← hu]; exact (Int.natCast_ediv r t).symm)
  have HQ := Lib.hid hq
  have e1 : ((u : Int) * (v : Int)) % 4294967296 = q := by
    rw [← Int.natCast_mul, hq]; omega
  have HN := Lib.hid hn
  have HA := Lib.hid hA
  have HS := Lib.hid hs
  clear hu hq hn hA hs
  go_enter Tryd.func69, Tryd.ntmps69
  go_wp2_with (go_at_call 67; (with_reducible refine (step_as b o r t u _ c0 (by omega) (by omega) (by omega) (by omega) HU.out).mono ?_); rintro e w' ⟨rfl, rfl⟩)
  have S0 := Lib.hid (NarS.start (o := o) HA.out q)
  go_loopw [7] (fun i w' => ∃ k : Nat, k ≤ n ∧ i = .int .i64 k ∧ NarS w b o A ty (q * 256 ^ k) w') (fun i _ => 3 - (intOf i).toNat)
  case atStart => exact ⟨0, Nat.zero_le _, rfl, by rw [Nat.pow_zero, Nat.mul_one]; exact S0.out⟩
  case round =>
    obtain ⟨k, hk, rfl, hs⟩ := hrel
    have HK := Lib.hid hs
    have ck := hs.cell ho
    have cg := hs.cell2
    rw [HS.out.2] at cg
    have fk := hs.2.frozen o
    have fg := hs.2.frozen (o + 1)
    clear hs c0 f0
    by_cases hlt : k < n
    · have hl := sh_lt (q := q) (k := k) (by rw [HN.out]; exact hlt)
      have HX := Lib.hid (show q * 256 ^ (k + 1) = q * 256 ^ k * 256 by rw [Nat.pow_succ, Nat.mul_assoc])
      generalize q * 256 ^ k = x at *
      have hl2 : (x : Int) < 16777216 := by omega
      clear hl
      go_wp2
      go_roundw
      case rel => exact ⟨k + 1, by omega, by go_num, by rw [HX.out]; exact HK.out.put _⟩
      case measure => simp [intOf]; omega
    · obtain rfl : k = n := by omega
      obtain ⟨hb1, hb2⟩ := sh_spec q1 q2
      rw [HN.out] at hb1 hb2
      obtain ⟨x, hx⟩ : ∃ x, q * 256 ^ k = x := ⟨_, rfl⟩
      rw [hx] at HK ck hb1 hb2
      have HX := Lib.hid hx
      clear hx
      obtain ⟨X, hX⟩ : ∃ X : Int, (x : Int) = X := ⟨_, rfl⟩
      have hb3 : 16777216 ≤ X := by omega
      have hb4 : X ≤ 4294967295 := by omega
      rw [hX] at ck
      clear hb1 hb2 hX
      go_wp2
      go_ret
      exact ⟨rfl, by have := HK.out.done (g + k); rw [HX.out]; rw [Int.natCast_add] at this; exact this⟩
end Go.Proofs.YtimhemcoflpmcaaDoor.Rg
end

section
/- Contract of rang's isCount. -/
set_option maxRecDepth 100000
set_option linter.unusedVariables false
namespace Go.Proofs.YtimhemcoflpmcaaDoor.Rg
open Go.RowKit Go.Proofs.YtimhemcoflpmcaaDoor.Row

theorem isCount_yes (x : Int) (w : World) (h1 : 0 ≤ x) (h2 : x ≤ 24) :
    Calls Tryd.prog 41 #[.int .i64 x] w fun e w' => e = .returned (.bool true) ∧ w = w' := by
  go_enter Tryd.func41, Tryd.ntmps41
  go_wp2
  go_ret
  exact ⟨rfl, rfl⟩

theorem isCount_no (x : Int) (w : World) (h : ¬ (0 ≤ x ∧ x ≤ 24)) :
    Calls Tryd.prog 41 #[.int .i64 x] w fun e w' => e = .returned (.bool false) ∧ w = w' := by
  by_cases h1 : 0 ≤ x
  · have h2 : decide (x ≤ 24) = false := by simp; omega
    clear h
    go_enter Tryd.func41, Tryd.ntmps41
    go_wp2
    go_ret
    exact ⟨rfl, rfl⟩
  · clear h
    go_enter Tryd.func41, Tryd.ntmps41
    go_wp2
    go_ret
    exact ⟨rfl, rfl⟩
end Go.Proofs.YtimhemcoflpmcaaDoor.Rg
end

section
/- Contracts of fix.Length and of rang's used. -/
set_option maxRecDepth 100000
set_option linter.unusedVariables false
namespace Go.Proofs.YtimhemcoflpmcaaDoor.Rg
open Go.RowKit Go.Proofs.YtimhemcoflpmcaaDoor.Row

theorem length_as (x r : Int) (w : World) (h1 : -9223372036854775808 ≤ x) (h2 : x ≤ 9223372036854775807) (h : ((Lib.bitLen x.natAbs : Nat) : Int) = r) :
    Calls Tryd.prog 56 #[.int .i64 x] w fun e w' => e = .returned (.int .i64 r) ∧ w = w' := by
  subst h; exact Fix.length_any x w h1 h2

theorem used_as (b o : Nat) (r g : Nat) (u : Int) (w : World) (hr : w.cell? ⟨b, o, none⟩ = some (.int .u32 r)) (hg : w.cell? ⟨b, o + 1, none⟩ = some (.int .i64 g)) (r1 : r ≤ 4294967295) (g1 : g ≤ 1000000000)
    (h : 8 * (g : Int) + 32 - (Lib.bitLen r : Nat) = u) :
    Calls Tryd.prog 33 #[.pointer (some ⟨b, o, none⟩)] w fun e w' => e = .returned (.int .i64 u) ∧ Below w.heap.size w w' := by
  obtain ⟨l, hl⟩ : ∃ l : Nat, Lib.bitLen r = l := ⟨_, rfl⟩
  have l1 : l ≤ 32 := by rw [← hl]; exact Lib.bitLen_le r 32 (by omega) (by omega)
  have HL := Lib.hid (show ((Lib.bitLen (r : Int).natAbs : Nat) : Int) = (l : Int) by rw [Int.natAbs_natCast, hl])
  have HU := Lib.hid (show 8 * (g : Int) + 32 - (l : Int) = u by rw [← hl]; exact h)
  obtain ⟨R, hR⟩ : ∃ R : Int, (r : Int) = R := ⟨_, rfl⟩
  have R0 : 0 ≤ R := by omega
  have R1 : R ≤ 4294967295 := by omega
  rw [hR] at hr HL
  clear h hl hR
  go_enter Tryd.func33, Tryd.ntmps33
  go_wp2
  go_quiet ((go_at_call 56; exact Calls.quiet_of_same ((length_as R l _ (by omega) (by omega) HL.out).mono fun _ _ ⟨he, hw⟩ => ⟨he, hw.symm⟩)))
  go_wp2
  go_ret
  exact ⟨ret_int (by rw [← HU.out]), below_drewN (Below.refl _ _) _⟩
end Go.Proofs.YtimhemcoflpmcaaDoor.Rg
end
