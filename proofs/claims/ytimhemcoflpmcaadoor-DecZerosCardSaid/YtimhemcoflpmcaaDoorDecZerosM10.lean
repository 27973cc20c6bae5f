/- Texts of the walk, one behind the other. -/
import Derived.Test.YtimhemcoflpmcaaDoorDecZerosM9
import Derived.Laws.EntriesVeiled
import Derived.Lib.TrimByte
import Derived.Lib.EndianBits
import Derived.Deep.RegionWith

section
/- Contracts of rang's next, shift (of a decoder), NewDec. -/
set_option maxRecDepth 100000
set_option linter.unusedVariables false
namespace Go.Proofs.YtimhemcoflpmcaaDoor.Rg
open Go.RowKit Go.Proofs.YtimhemcoflpmcaaDoor.Row

theorem next_none (w : World) (tb : Nat) (hA : At w tb #[.string ⟨#[]⟩] 65) :
    Calls Tryd.prog 30 #[.pointer (some ⟨tb, 0, none⟩)] w fun e w' => e = .returned (.int .u8 0) ∧ w = w' := by
  have c0 : w.cell? ⟨tb, 0, none⟩ = some (.string ⟨#[]⟩) := by rw [hA.cell]; rfl
  clear hA
  go_enter Tryd.func30, Tryd.ntmps30
  go_wp2
  go_ret
  exact ⟨rfl, rfl⟩

theorem next_some (w : World) (tb : Nat) (y : UInt8) (l : List UInt8) (hl : l.length ≤ 9223372036854775800) (hA : At w tb #[.string ⟨(y :: l).toArray⟩] 65) :
    Calls Tryd.prog 30 #[.pointer (some ⟨tb, 0, none⟩)] w fun e w' => e = .returned (.int .u8 y.toNat) ∧ At w' tb #[.string ⟨l.toArray⟩] 65 ∧ Fr (Just tb) w w' := by
  have c0 : w.cell? ⟨tb, 0, none⟩ = some (.string ⟨(y :: l).toArray⟩) := by rw [hA.cell]; rfl
  have f0 := hA.frozen 0
  have HA := Lib.hid hA
  obtain ⟨B, hB⟩ : ∃ B : ByteArray, ⟨(y :: l).toArray⟩ = B := ⟨_, rfl⟩
  obtain ⟨B', hB'⟩ : ∃ B' : ByteArray, ⟨l.toArray⟩ = B' := ⟨_, rfl⟩
  obtain ⟨n, hn⟩ : ∃ n, (y :: l).length = n := ⟨_, rfl⟩
  have hts : B.size = n := by rw [← hB, Lib.size_mk, hn]
  have hn1 : 0 < n := by rw [← hn]; simp
  have hn2 : n ≤ 9223372036854775801 := by rw [← hn]; simp; omega
  have hb0 : ∀ h, B[0]'h = y := by subst hB; intro h; rfl
  have hx1 : B.extract 1 n = B' := by
    rw [← hB, ← hB', Lib.extract_mk]
    congr 2
    rw [List.drop_succ_cons, List.drop_zero, List.take_of_length_le (by rw [← hn]; simp)]
  have hne : ¬ B.toList = [] := by rw [Lib.toList_data, ← hB]; simp
  have hne2 : B.toList.isEmpty = false := by simpa using hne
  rw [hB] at c0
  have HB' := Lib.hid hB'
  clear hA hB hB' hn
  go_enter Tryd.func30, Tryd.ntmps30
  go_wp2
  go_ret
  exact ⟨rfl, by rw [HB'.out]; exact HA.out.setCell, (Fr.refl _ _).setCell (.inl (Just.self tb)) _⟩

/-- The byte at a place of a text, and 0 behind its end. -/
def byteF (s : List UInt8) (i : Nat) : Nat := (s.getD i 0).toNat
theorem byteF_le (s : List UInt8) (i : Nat) : byteF s i ≤ 255 := by unfold byteF; have := (s.getD i 0).toNat_lt; omega

theorem next_as (w : World) (tb : Nat) (s : List UInt8) (i y : Nat) (hs : s.length ≤ 9223372036854775800) (hA : At w tb #[.string ⟨(s.drop i).toArray⟩] 65) (hy : byteF s i = y) :
    Calls Tryd.prog 30 #[.pointer (some ⟨tb, 0, none⟩)] w fun e w' => e = .returned (.int .u8 y) ∧ At w' tb #[.string ⟨(s.drop (i + 1)).toArray⟩] 65 ∧ Fr (Just tb) w w' := by
  subst hy
  by_cases hi : i < s.length
  · have e : s.drop i = s[i] :: s.drop (i + 1) := List.drop_eq_getElem_cons hi
    rw [e] at hA
    refine (next_some w tb _ _ (by rw [List.length_drop]; omega) hA).mono fun e w' ⟨he, h⟩ => ⟨?_, h⟩
    rw [he]
    unfold byteF
    simp [hi]
  · have e : s.drop i = [] := List.drop_eq_nil_of_le (by omega)
    have e2 : s.drop (i + 1) = [] := List.drop_eq_nil_of_le (by omega)
    rw [e] at hA
    rw [e2]
    refine (next_none w tb hA).mono fun e w' ⟨he, h⟩ => ⟨?_, ?_⟩
    · rw [he]
      unfold byteF
      simp [show s.length ≤ i by omega]
    · subst h
      exact ⟨hA, Fr.refl _ _⟩

/-- A decoder's fields. -/
def decRow (r g c : Nat) (tb : Nat) : Array Value := #[.int .u32 r, .int .i64 g, .int .u32 c, .func (.func 30) #[.pointer (some ⟨tb, 0, none⟩)] #[]]
/-- A decoder of s stands at block b: it has taken the bytes ahead of the place i. -/
def DecMem (w : World) (b : Nat) (T : Nat → Prop) (s : List UInt8) (i r g c : Nat) : Prop :=
  T b ∧ ∃ tb, tb ≠ b ∧ T tb ∧ At w b (decRow r g c tb) 71 ∧ At w tb #[.string ⟨(s.drop i).toArray⟩] 65
theorem DecMem.fr {w w' : World} {b : Nat} {T U : Nat → Prop} {s : List UInt8} {i r g c : Nat} (h : DecMem w b T s i r g c) (hF : Fr U w w') (hU : ∀ k, T k → ¬ U k) : DecMem w' b T s i r g c := by
  obtain ⟨h1, tb, h2, h3, h4, h5⟩ := h
  exact ⟨h1, tb, h2, h3, h4.fr hF (hU b h1), h5.fr hF (hU tb h3)⟩
theorem DecMem.below {w w' : World} {b : Nat} {T : Nat → Prop} {s : List UInt8} {i r g c : Nat} (h : DecMem w b T s i r g c) (hB : Below w.heap.size w w') : DecMem w' b T s i r g c := h.fr (U := fun _ => False) (.of_below hB) fun _ _ h => h

/-- k bytes taken into a code. -/
def feed (f : Nat → Nat) : Nat → Nat → Nat → Nat
  | _, 0, c => c
  | i, k + 1, c => feed f (i + 1) k ((c * 256 + f i) % 4294967296)
theorem feed_snoc (f : Nat → Nat) : ∀ (k i c : Nat), feed f i (k + 1) c = (feed f i k c * 256 + f (i + k)) % 4294967296
  | 0, _, _ => rfl
  | k + 1, i, c => by
    rw [feed, feed_snoc f k (i + 1), feed, show i + 1 + k = i + (k + 1) by omega]
theorem feed_le (f : Nat → Nat) (k i c : Nat) (h : c ≤ 4294967295) : feed f i k c ≤ 4294967295 := by
  cases k with
  | zero => exact h
  | succ k => rw [feed_snoc]; omega

theorem or_low (x y : Nat) (hy : y ≤ 255) : bits .or .u32 ((x : Int) * 256 % 4294967296) (y : Int) = (((x * 256 + y) % 4294967296 : Nat) : Int) := by
  have e := bits_join .u32 32 (by decide) wraps_u32 8 ((x : Int) * 256 % 4294967296) y (by omega) (by omega) (by omega) (by omega) (by omega) (by omega)
  rw [e]
  omega

set_option maxHeartbeats 1000000 in
theorem decShift_as (w : World) (b : Nat) (T : Nat → Prop) (s : List UInt8) (i r g c n : Nat) (h : DecMem w b T s i r g c) (hs : s.length ≤ 9223372036854775800) (hc : c ≤ 4294967295) (hn : n ≤ 4) :
    Calls Tryd.prog 31 #[.pointer (some ⟨b, 0, none⟩), .int .i64 n] w fun e w' => e = .returned (.tuple #[]) ∧ DecMem w' b T s (i + n) r g (feed (byteF s) i n c) ∧ Fr T w w' := by
  have H := Lib.hid h
  clear h
  go_enter Tryd.func31, Tryd.ntmps31
  go_wp2
  go_loopw [5] (fun j w' => ∃ k : Nat, k ≤ n ∧ j = .int .i64 k ∧ DecMem w' b T s (i + k) r g (feed (byteF s) i k c) ∧ Fr T w w') (fun j _ => 4 - (intOf j).toNat)
  case atStart => exact ⟨0, Nat.zero_le _, rfl, H.out, Fr.refl _ _⟩
  case round =>
    obtain ⟨k, hk, rfl, hD, hF⟩ := hrel
    have HF := Lib.hid hF
    clear hF H
    by_cases hlt : k < n
    · have hfl := feed_le (byteF s) k i c hc
      have HFS := Lib.hid (feed_snoc (byteF s) k i c)
      obtain ⟨x, hx⟩ : ∃ x, feed (byteF s) i k c = x := ⟨_, rfl⟩
      obtain ⟨y, hy⟩ : ∃ y, byteF s (i + k) = y := ⟨_, rfl⟩
      have hy1 : y ≤ 255 := by rw [← hy]; exact byteF_le _ _
      rw [hx, hy] at HFS
      rw [hx] at hD hfl
      obtain ⟨h1, tb, h2, h3, h4, h5⟩ := hD
      have c2 : wr.cell? ⟨b, 2, none⟩ = some (.int .u32 x) := by rw [h4.cell]; rfl
      have c3 : wr.cell? ⟨b, 3, none⟩ = some (.func (.func 30) #[.pointer (some ⟨tb, 0, none⟩)] #[]) := by rw [h4.cell]; rfl
      have f2 := h4.frozen 2
      have HOR := Lib.hid (or_low x y hy1)
      have HN := Lib.hid (fun w1 (hA : At w1 tb #[.string ⟨(s.drop (i + k)).toArray⟩] 65) => next_as w1 tb s (i + k) y hs hA hy)
      have H4 := Lib.hid h4
      have H5 := Lib.hid h5
      clear hx hy h4 h5
      go_wp2_with fail
      go_region_with ((go_at_call 30; refine (HN.out _ ?_).mono ?_; exact H5.out; rintro e w1 ⟨rfl, hA1, hF1⟩; have g4 : At w1 b (decRow r g x tb) 71 := At.fr (by exact H4.out) hF1 (fun e => h2 e.symm); have d2 : w1.cell? ⟨b, 2, none⟩ = some (.int .u32 x) := (by rw [g4.cell]; rfl); have e2 := g4.frozen 2; have G4 := Lib.hid g4; have HA1 := Lib.hid hA1; have HF1 := Lib.hid hF1; clear g4 hA1 hF1))
      all_goals
        go_wp2
        go_roundw
        case rel =>
          rw [HOR.out]
          refine ⟨k + 1, by omega, by go_num, ?_, ?_⟩
          · rw [HFS.out]
            exact ⟨h1, tb, h2, h3, G4.out.setCell, HA1.out.setCell_other h2⟩
          · exact (HF.out.trans (show Fr (Just tb) wr w1 from ⟨HF1.out.os, HF1.out.tape, HF1.out.output, HF1.out.size, HF1.out.block⟩) fun i _ hi => by rw [show i = tb from hi]; exact h3).setCell (.inl h1) _
        case measure => simp [intOf]; omega
    · obtain rfl : k = n := by omega
      have HD := Lib.hid hD
      clear hD
      go_wp2
      go_end0
      exact ⟨rfl, HD.out, HF.out⟩
end Go.Proofs.YtimhemcoflpmcaaDoor.Rg
end
