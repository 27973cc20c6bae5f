/- Texts of the walk, one behind the other. -/
import Derived.Test.YtfohinlldchdpaaGreatDoorEncPlaysM14
import Derived.Test.YtfohinlldchdpaaGreatDoorEncPlaysM11
import Derived.Test.YtfohinlldchdpaaGreatDoorEncPlaysM16
import Derived.Deep.DeepCutAuto
import Derived.Laws.EntriesVeiled
import Derived.Lib.TrimByte
import Derived.Lib.EndianBits
import Derived.Deep.RegionWith

section
/- Contracts of rang's isTotal, isCell, isCount, step, narrow. -/
set_option maxRecDepth 100000
namespace Go.Proofs.YtfohinlldchdpaaGreatDoor.Rg
open Go.RowKit Go.Proofs.YtfohinlldchdpaaGreatDoor.Row

theorem isTotal_yes (x : Int) (w : World) (h1 : 1 ≤ x) (h2 : x ≤ 32768) :
    Calls Tryz.prog 187 #[.int .i64 x] w fun e w' => e = .returned (.bool true) ∧ w = w' := by
  go_enter Tryz.func187, Tryz.ntmps187
  go_wp2
  go_ret
  exact ⟨rfl, rfl⟩
theorem isCell_yes (s v t : Int) (w : World) (h1 : 1 ≤ t) (h2 : t ≤ 32768) (h3 : 0 ≤ s) (h4 : 1 ≤ v) (h5 : s + v ≤ t) :
    Calls Tryz.prog 159 #[.int .i64 s, .int .i64 v, .int .i64 t] w fun e w' => e = .returned (.bool true) ∧ w = w' := by
  have h6 : v ≤ t - s := by omega
  go_enter Tryz.func159, Tryz.ntmps159
  go_wp2_with (go_at_call 187; (with_reducible refine (isTotal_yes t _ h1 h2).mono ?_); rintro e w' ⟨rfl, rfl⟩)
  go_ret
  exact ⟨rfl, rfl⟩
theorem step_as (b o : Nat) (r t u : Int) (w : World) (hc : w.cell? ⟨b, o, none⟩ = some (.int .u32 r)) (h0 : 0 ≤ r) (h1 : r ≤ 4294967295) (t1 : 1 ≤ t) (t2 : t ≤ 32768) (h : r / t = u) :
    Calls Tryz.prog 160 #[.pointer (some ⟨b, o, none⟩), .int .i64 t] w fun e w' => e = .returned (.int .u32 u) ∧ w = w' := by
  have H := Lib.hid h
  clear h
  go_enter Tryz.func160, Tryz.ntmps160
  go_wp2
  go_ret
  exact ⟨ret_int (by rw [← H.out]), rfl⟩

theorem sh_lt {q k : Nat} (h : k < sh q) : q * 256 ^ k < 16777216 := by
  unfold sh at h
  split at h
  · omega
  · split at h
    · obtain rfl : k = 0 := by omega
      omega
    · split at h
      · have : k = 0 ∨ k = 1 := by omega
        rcases this with rfl | rfl <;> omega
      · have : k = 0 ∨ k = 1 ∨ k = 2 := by omega
        rcases this with rfl | rfl | rfl <;> omega

/-- Two cells of a row are the range, and how many bytes it has gone. -/
def Sc (A : Array Value) (o : Nat) (r g : Nat) : Prop := A[o]? = some (.int .u32 r) ∧ A[o + 1]? = some (.int .i64 g)
/-- The row with another range, and other bytes. -/
def scSet (A : Array Value) (o : Nat) (r g : Nat) : Array Value := (A.setIfInBounds o (.int .u32 r)).setIfInBounds (o + 1) (.int .i64 g)
def NarS (w : World) (b o : Nat) (A : Array Value) (t : TypeId) (r : Nat) (w' : World) : Prop := Fr (Just b) w w' ∧ At w' b (A.setIfInBounds o (.int .u32 r)) t
theorem set_set (A : Array Value) (o : Nat) (x y : Value) : (A.setIfInBounds o x).setIfInBounds o y = A.setIfInBounds o y := by
  apply Array.ext_getElem?
  intro i
  by_cases e : o = i
  · subst e
    by_cases h : o < A.size
    · rw [Array.getElem?_setIfInBounds_self_of_lt (by simpa using h), Array.getElem?_setIfInBounds_self_of_lt h]
    · rw [Array.getElem?_eq_none (by simpa using h), Array.getElem?_eq_none (by simpa using h)]
  · rw [Array.getElem?_setIfInBounds_ne e, Array.getElem?_setIfInBounds_ne e, Array.getElem?_setIfInBounds_ne e]
theorem NarS.put {w w' : World} {b o : Nat} {A : Array Value} {t : TypeId} {r : Nat} (h : NarS w b o A t r w') (r' : Nat) : NarS w b o A t r' (w'.setCell ⟨b, o, none⟩ (.int .u32 r')) :=
  ⟨h.1.setCell (.inl (Just.self b)) _, by have := h.2.setCell (i := o) (v := .int .u32 r'); rwa [set_set] at this⟩
theorem NarS.start {w : World} {b o : Nat} {A : Array Value} {t : TypeId} (h : At w b A t) (r : Nat) : NarS w b o A t r (w.setCell ⟨b, o, none⟩ (.int .u32 r)) :=
  ⟨(Fr.refl _ _).setCell (.inl (Just.self b)) _, h.setCell⟩
theorem NarS.done {w w' : World} {b o : Nat} {A : Array Value} {t : TypeId} {r : Nat} (h : NarS w b o A t r w') (g : Nat) : Fr (Just b) w (w'.setCell ⟨b, o + 1, none⟩ (.int .i64 g)) ∧ At (w'.setCell ⟨b, o + 1, none⟩ (.int .i64 g)) b (scSet A o r g) t :=
  ⟨h.1.setCell (.inl (Just.self b)) _, h.2.setCell⟩
theorem NarS.cell {w w' : World} {b o : Nat} {A : Array Value} {t : TypeId} {r : Nat} (h : NarS w b o A t r w') (ho : o < A.size) : w'.cell? ⟨b, o, none⟩ = some (.int .u32 r) := by
  rw [h.2.cell, Array.getElem?_setIfInBounds_self_of_lt ho]
theorem NarS.cell2 {w w' : World} {b o : Nat} {A : Array Value} {t : TypeId} {r : Nat} (h : NarS w b o A t r w') : w'.cell? ⟨b, o + 1, none⟩ = A[o + 1]? := by
  rw [h.2.cell, Array.getElem?_setIfInBounds_ne (by omega)]
theorem Sc.lt {A : Array Value} {o r g : Nat} (h : Sc A o r g) : o < A.size := (Array.getElem?_eq_some_iff.1 h.1).1

set_option maxHeartbeats 400000 in
theorem narrow_as (b o : Nat) (A : Array Value) (ty : TypeId) (r g v t u q n : Nat) (w : World) (hA : At w b A ty) (hs : Sc A o r g) (r1 : r ≤ 4294967295) (t1 : 1 ≤ t) (t2 : t ≤ 32768) (g1 : g ≤ 1000000000)
    (hu : r / t = u) (hq : u * v = q) (q1 : 1 ≤ q) (q2 : q ≤ 4294967295) (v2 : v ≤ 32768) (hn : sh q = n) :
    Calls Tryz.prog 162 #[.pointer (some ⟨b, o, none⟩), .int .i64 v, .int .i64 t] w fun e w' => e = .returned (.int .i64 n) ∧ Fr (Just b) w w' ∧ At w' b (scSet A o (q * 256 ^ n) (g + n)) ty := by
  have c0 : w.cell? ⟨b, o, none⟩ = some (.int .u32 r) := by rw [hA.cell]; exact hs.1
  have f0 := hA.frozen o
  have n3 : n ≤ 3 := by rw [← hn]; exact sh_le q
  have ho := hs.lt
  have HU := Lib.hid (show (r : Int) / (t : Int) = (u : Int) by rw [← hu]; exact (Int.natCast_ediv r t).symm)
  have HQ := Lib.hid hq
  have e1 : ((u : Int) * (v : Int)) % 4294967296 = q := by
    rw [← Int.natCast_mul, hq]; omega
  have HN := Lib.hid hn
  have HA := Lib.hid hA
  have HS := Lib.hid hs
  clear hu hq hn hA hs
  go_enter Tryz.func162, Tryz.ntmps162
  go_wp2_with (go_at_call 160; (with_reducible refine (step_as b o r t u _ c0 (by omega) (by omega) (by omega) (by omega) HU.out).mono ?_); rintro e w' ⟨rfl, rfl⟩)
  have S0 := Lib.hid (NarS.start (o := o) HA.out q)
  go_loopw [7] (fun i w' => ∃ k : Nat, k ≤ n ∧ i = .int .i64 k ∧ NarS w b o A ty (q * 256 ^ k) w') (fun i _ => 3 - (intOf i).toNat)
  case atStart => exact ⟨0, Nat.zero_le _, rfl, by rw [Nat.pow_zero, Nat.mul_one]; exact S0.out⟩
  case round =>
    obtain ⟨k, hk, rfl, hs⟩ := hrel
    have HK := Lib.hid hs
    have ck := hs.cell ho
    have cg := hs.cell2
    rw [HS.out.2] at cg
    have fk := hs.2.frozen o
    have fg := hs.2.frozen (o + 1)
    clear hs c0 f0
    by_cases hlt : k < n
    · have hl := sh_lt (q := q) (k := k) (by rw [HN.out]; exact hlt)
      have HX := Lib.hid (show q * 256 ^ (k + 1) = q * 256 ^ k * 256 by rw [Nat.pow_succ, Nat.mul_assoc])
      generalize q * 256 ^ k = x at *
      have hl2 : (x : Int) < 16777216 := by omega
      clear hl
      go_wp2
      go_roundw
      case rel => exact ⟨k + 1, by omega, by go_num, by rw [HX.out]; exact HK.out.put _⟩
      case measure => simp [intOf]; omega
    · obtain rfl : k = n := by omega
      obtain ⟨hb1, hb2⟩ := sh_spec q1 q2
      rw [HN.out] at hb1 hb2
      obtain ⟨x, hx⟩ : ∃ x, q * 256 ^ k = x := ⟨_, rfl⟩
      rw [hx] at HK ck hb1 hb2
      have HX := Lib.hid hx
      clear hx
      obtain ⟨X, hX⟩ : ∃ X : Int, (x : Int) = X := ⟨_, rfl⟩
      have hb3 : 16777216 ≤ X := by omega
      have hb4 : X ≤ 4294967295 := by omega
      rw [hX] at ck
      clear hb1 hb2 hX
      go_wp2
      go_ret
      exact ⟨rfl, by have := HK.out.done (g + k); rw [HX.out]; rw [Int.natCast_add] at this; exact this⟩
end Go.Proofs.YtfohinlldchdpaaGreatDoor.Rg
end

section
/- Contract of rang's isCount. -/
set_option maxRecDepth 100000
set_option linter.unusedVariables false
namespace Go.Proofs.YtfohinlldchdpaaGreatDoor.Rg
open Go.RowKit Go.Proofs.YtfohinlldchdpaaGreatDoor.Row

theorem isCount_yes (x : Int) (w : World) (h1 : 0 ≤ x) (h2 : x ≤ 24) :
    Calls Tryz.prog 136 #[.int .i64 x] w fun e w' => e = .returned (.bool true) ∧ w = w' := by
  go_enter Tryz.func136, Tryz.ntmps136
  go_wp2
  go_ret
  exact ⟨rfl, rfl⟩

end Go.Proofs.YtfohinlldchdpaaGreatDoor.Rg
end

section
/- Contracts of fix.Length and of rang's used. -/
set_option maxRecDepth 100000
set_option linter.unusedVariables false
namespace Go.Proofs.YtfohinlldchdpaaGreatDoor.Rg
open Go.RowKit Go.Proofs.YtfohinlldchdpaaGreatDoor.Row

theorem length_as (x r : Int) (w : World) (h1 : -9223372036854775808 ≤ x) (h2 : x ≤ 9223372036854775807) (h : ((Lib.bitLen x.natAbs : Nat) : Int) = r) :
    Calls Tryz.prog 62 #[.int .i64 x] w fun e w' => e = .returned (.int .i64 r) ∧ w = w' := by
  subst h; exact Fix.length_any x w h1 h2

theorem used_as (b o : Nat) (r g : Nat) (u : Int) (w : World) (hr : w.cell? ⟨b, o, none⟩ = some (.int .u32 r)) (hg : w.cell? ⟨b, o + 1, none⟩ = some (.int .i64 g)) (r1 : r ≤ 4294967295) (g1 : g ≤ 1000000000)
    (h : 8 * (g : Int) + 32 - (Lib.bitLen r : Nat) = u) :
    Calls Tryz.prog 119 #[.pointer (some ⟨b, o, none⟩)] w fun e w' => e = .returned (.int .i64 u) ∧ Below w.heap.size w w' := by
  obtain ⟨l, hl⟩ : ∃ l : Nat, Lib.bitLen r = l := ⟨_, rfl⟩
  have l1 : l ≤ 32 := by rw [← hl]; exact Lib.bitLen_le r 32 (by omega) (by omega)
  have HL := Lib.hid (show ((Lib.bitLen (r : Int).natAbs : Nat) : Int) = (l : Int) by rw [Int.natAbs_natCast, hl])
  have HU := Lib.hid (show 8 * (g : Int) + 32 - (l : Int) = u by rw [← hl]; exact h)
  obtain ⟨R, hR⟩ : ∃ R : Int, (r : Int) = R := ⟨_, rfl⟩
  have R0 : 0 ≤ R := by omega
  have R1 : R ≤ 4294967295 := by omega
  rw [hR] at hr HL
  clear h hl hR
  go_enter Tryz.func119, Tryz.ntmps119
  go_wp2
  go_quiet ((go_at_call 62; exact Calls.quiet_of_same ((length_as R l _ (by omega) (by omega) HL.out).mono fun _ _ ⟨he, hw⟩ => ⟨he, hw.symm⟩)))
  go_wp2
  go_ret
  exact ⟨ret_int (by rw [← HU.out]), below_drewN (Below.refl _ _) _⟩
end Go.Proofs.YtfohinlldchdpaaGreatDoor.Rg
end

section
/- Contracts of rang's next, shift (of a decoder), NewDec. -/
set_option maxRecDepth 100000
set_option linter.unusedVariables false
namespace Go.Proofs.YtfohinlldchdpaaGreatDoor.Rg
open Go.RowKit Go.Proofs.YtfohinlldchdpaaGreatDoor.Row

theorem next_none (w : World) (tb : Nat) (hA : At w tb #[.string ⟨#[]⟩] 168) :
    Calls Tryz.prog 129 #[.pointer (some ⟨tb, 0, none⟩)] w fun e w' => e = .returned (.int .u8 0) ∧ w = w' := by
  have c0 : w.cell? ⟨tb, 0, none⟩ = some (.string ⟨#[]⟩) := by rw [hA.cell]; rfl
  clear hA
  go_enter Tryz.func129, Tryz.ntmps129
  go_wp2
  go_ret
  exact ⟨rfl, rfl⟩

theorem next_some (w : World) (tb : Nat) (y : UInt8) (l : List UInt8) (hl : l.length ≤ 9223372036854775800) (hA : At w tb #[.string ⟨(y :: l).toArray⟩] 168) :
    Calls Tryz.prog 129 #[.pointer (some ⟨tb, 0, none⟩)] w fun e w' => e = .returned (.int .u8 y.toNat) ∧ At w' tb #[.string ⟨l.toArray⟩] 168 ∧ Fr (Just tb) w w' := by
  have c0 : w.cell? ⟨tb, 0, none⟩ = some (.string ⟨(y :: l).toArray⟩) := by rw [hA.cell]; rfl
  have f0 := hA.frozen 0
  have HA := Lib.hid hA
  obtain ⟨B, hB⟩ : ∃ B : ByteArray, ⟨(y :: l).toArray⟩ = B := ⟨_, rfl⟩
  obtain ⟨B', hB'⟩ : ∃ B' : ByteArray, ⟨l.toArray⟩ = B' := ⟨_, rfl⟩
  obtain ⟨n, hn⟩ : ∃ n, (y :: l).length = n := ⟨_, rfl⟩
  have hts : B.size = n := by rw [← hB, Lib.size_mk, hn]
  have hn1 : 0 < n := by rw [← hn]; simp
  have hn2 : n ≤ 9223372036854775801 := by rw [← hn]; simp; omega
  have hb0 : ∀ h, B[0]'h = y := by subst hB; intro h; rfl
  have hx1 : B.extract 1 n = B' := by
    rw [← hB, ← hB', Lib.extract_mk]
    congr 2
    rw [List.drop_succ_cons, List.drop_zero, List.take_of_length_le (by rw [← hn]; simp)]
  have hne : ¬ B.toList = [] := by rw [Lib.toList_data, ← hB]; simp
  have hne2 : B.toList.isEmpty = false := by simpa using hne
  rw [hB] at c0
  have HB' := Lib.hid hB'
  clear hA hB hB' hn
  go_enter Tryz.func129, Tryz.ntmps129
  go_wp2
  go_ret
  exact ⟨rfl, by rw [HB'.out]; exact HA.out.setCell, (Fr.refl _ _).setCell (.inl (Just.self tb)) _⟩

/-- The byte at a place of a text, and 0 behind its end. -/
def byteF (s : List UInt8) (i : Nat) : Nat := (s.getD i 0).toNat
theorem byteF_le (s : List UInt8) (i : Nat) : byteF s i ≤ 255 := by unfold byteF; have := (s.getD i 0).toNat_lt; omega

theorem next_as (w : World) (tb : Nat) (s : List UInt8) (i y : Nat) (hs : s.length ≤ 9223372036854775800) (hA : At w tb #[.string ⟨(s.drop i).toArray⟩] 168) (hy : byteF s i = y) :
    Calls Tryz.prog 129 #[.pointer (some ⟨tb, 0, none⟩)] w fun e w' => e = .returned (.int .u8 y) ∧ At w' tb #[.string ⟨(s.drop (i + 1)).toArray⟩] 168 ∧ Fr (Just tb) w w' := by
  subst hy
  by_cases hi : i < s.length
  · have e : s.drop i = s[i] :: s.drop (i + 1) := List.drop_eq_getElem_cons hi
    rw [e] at hA
    refine (next_some w tb _ _ (by rw [List.length_drop]; omega) hA).mono fun e w' ⟨he, h⟩ => ⟨?_, h⟩
    rw [he]
    unfold byteF
    simp [hi]
  · have e : s.drop i = [] := List.drop_eq_nil_of_le (by omega)
    have e2 : s.drop (i + 1) = [] := List.drop_eq_nil_of_le (by omega)
    rw [e] at hA
    rw [e2]
    refine (next_none w tb hA).mono fun e w' ⟨he, h⟩ => ⟨?_, ?_⟩
    · rw [he]
      unfold byteF
      simp [show s.length ≤ i by omega]
    · subst h
      exact ⟨hA, Fr.refl _ _⟩

/-- A decoder's fields. -/
def decRow (r g c : Nat) (tb : Nat) : Array Value := #[.int .u32 r, .int .i64 g, .int .u32 c, .func (.func 129) #[.pointer (some ⟨tb, 0, none⟩)] #[]]
/-- A decoder of s stands at block b: it has taken the bytes ahead of the place i. -/
def DecMem (w : World) (b : Nat) (T : Nat → Prop) (s : List UInt8) (i r g c : Nat) : Prop :=
  T b ∧ ∃ tb, tb ≠ b ∧ T tb ∧ At w b (decRow r g c tb) 171 ∧ At w tb #[.string ⟨(s.drop i).toArray⟩] 168
theorem DecMem.fr {w w' : World} {b : Nat} {T U : Nat → Prop} {s : List UInt8} {i r g c : Nat} (h : DecMem w b T s i r g c) (hF : Fr U w w') (hU : ∀ k, T k → ¬ U k) : DecMem w' b T s i r g c := by
  obtain ⟨h1, tb, h2, h3, h4, h5⟩ := h
  exact ⟨h1, tb, h2, h3, h4.fr hF (hU b h1), h5.fr hF (hU tb h3)⟩
theorem DecMem.below {w w' : World} {b : Nat} {T : Nat → Prop} {s : List UInt8} {i r g c : Nat} (h : DecMem w b T s i r g c) (hB : Below w.heap.size w w') : DecMem w' b T s i r g c := h.fr (U := fun _ => False) (.of_below hB) fun _ _ h => h

/-- k bytes taken into a code. -/
def feed (f : Nat → Nat) : Nat → Nat → Nat → Nat
  | _, 0, c => c
  | i, k + 1, c => feed f (i + 1) k ((c * 256 + f i) % 4294967296)
theorem feed_snoc (f : Nat → Nat) : ∀ (k i c : Nat), feed f i (k + 1) c = (feed f i k c * 256 + f (i + k)) % 4294967296
  | 0, _, _ => rfl
  | k + 1, i, c => by
    rw [feed, feed_snoc f k (i + 1), feed, show i + 1 + k = i + (k + 1) by omega]
theorem feed_le (f : Nat → Nat) (k i c : Nat) (h : c ≤ 4294967295) : feed f i k c ≤ 4294967295 := by
  cases k with
  | zero => exact h
  | succ k => rw [feed_snoc]; omega

theorem or_low (x y : Nat) (hy : y ≤ 255) : bits .or .u32 ((x : Int) * 256 % 4294967296) (y : Int) = (((x * 256 + y) % 4294967296 : Nat) : Int) := by
  have e := bits_join .u32 32 (by decide) wraps_u32 8 ((x : Int) * 256 % 4294967296) y (by omega) (by omega) (by omega) (by omega) (by omega) (by omega)
  rw [e]
  omega

set_option maxHeartbeats 1000000 in
theorem decShift_as (w : World) (b : Nat) (T : Nat → Prop) (s : List UInt8) (i r g c n : Nat) (h : DecMem w b T s i r g c) (hs : s.length ≤ 9223372036854775800) (hc : c ≤ 4294967295) (hn : n ≤ 4) :
    Calls Tryz.prog 130 #[.pointer (some ⟨b, 0, none⟩), .int .i64 n] w fun e w' => e = .returned (.tuple #[]) ∧ DecMem w' b T s (i + n) r g (feed (byteF s) i n c) ∧ Fr T w w' := by
  have H := Lib.hid h
  clear h
  go_enter Tryz.func130, Tryz.ntmps130
  go_wp2
  go_loopw [5] (fun j w' => ∃ k : Nat, k ≤ n ∧ j = .int .i64 k ∧ DecMem w' b T s (i + k) r g (feed (byteF s) i k c) ∧ Fr T w w') (fun j _ => 4 - (intOf j).toNat)
  case atStart => exact ⟨0, Nat.zero_le _, rfl, H.out, Fr.refl _ _⟩
  case round =>
    obtain ⟨k, hk, rfl, hD, hF⟩ := hrel
    have HF := Lib.hid hF
    clear hF H
    by_cases hlt : k < n
    · have hfl := feed_le (byteF s) k i c hc
      have HFS := Lib.hid (feed_snoc (byteF s) k i c)
      obtain ⟨x, hx⟩ : ∃ x, feed (byteF s) i k c = x := ⟨_, rfl⟩
      obtain ⟨y, hy⟩ : ∃ y, byteF s (i + k) = y := ⟨_, rfl⟩
      have hy1 : y ≤ 255 := by rw [← hy]; exact byteF_le _ _
      rw [hx, hy] at HFS
      rw [hx] at hD hfl
      obtain ⟨h1, tb, h2, h3, h4, h5⟩ := hD
      have c2 : wr.cell? ⟨b, 2, none⟩ = some (.int .u32 x) := by rw [h4.cell]; rfl
      have c3 : wr.cell? ⟨b, 3, none⟩ = some (.func (.func 129) #[.pointer (some ⟨tb, 0, none⟩)] #[]) := by rw [h4.cell]; rfl
      have f2 := h4.frozen 2
      have HOR := Lib.hid (or_low x y hy1)
      have HN := Lib.hid (fun w1 (hA : At w1 tb #[.string ⟨(s.drop (i + k)).toArray⟩] 168) => next_as w1 tb s (i + k) y hs hA hy)
      have H4 := Lib.hid h4
      have H5 := Lib.hid h5
      clear hx hy h4 h5
      go_wp2_with fail
      go_region_with ((go_at_call 129; refine (HN.out _ ?_).mono ?_; exact H5.out; rintro e w1 ⟨rfl, hA1, hF1⟩; have g4 : At w1 b (decRow r g x tb) 171 := At.fr (by exact H4.out) hF1 (fun e => h2 e.symm); have d2 : w1.cell? ⟨b, 2, none⟩ = some (.int .u32 x) := (by rw [g4.cell]; rfl); have e2 := g4.frozen 2; have G4 := Lib.hid g4; have HA1 := Lib.hid hA1; have HF1 := Lib.hid hF1; clear g4 hA1 hF1))
      all_goals
        go_wp2
        go_roundw
        case rel =>
          rw [HOR.out]
          refine ⟨k + 1, by omega, by go_num, ?_, ?_⟩
          · rw [HFS.out]
            exact ⟨h1, tb, h2, h3, G4.out.setCell, HA1.out.setCell_other h2⟩
          · exact (HF.out.trans (show Fr (Just tb) wr w1 from ⟨HF1.out.os, HF1.out.tape, HF1.out.output, HF1.out.size, HF1.out.block⟩) fun i _ hi => by rw [show i = tb from hi]; exact h3).setCell (.inl h1) _
        case measure => simp [intOf]; omega
    · obtain rfl : k = n := by omega
      have HD := Lib.hid hD
      clear hD
      go_wp2
      go_end0
      exact ⟨rfl, HD.out, HF.out⟩
end Go.Proofs.YtfohinlldchdpaaGreatDoor.Rg
end
