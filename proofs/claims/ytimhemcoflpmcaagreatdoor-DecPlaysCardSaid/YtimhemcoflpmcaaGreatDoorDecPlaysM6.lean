/- Texts of the walk, one behind the other. -/
import Derived.Test.YtimhemcoflpmcaaGreatDoorDecPlaysM5
import Derived.Test.YtimhemcoflpmcaaGreatDoorShelf

section
/- Contracts of rang's NewDec, At, Take, Used (of a decoder). -/
set_option maxRecDepth 100000
set_option linter.unusedVariables false
namespace Go.Proofs.YtimhemcoflpmcaaGreatDoor.Rg
open Go.RowKit Go.Proofs.YtimhemcoflpmcaaGreatDoor.Row

/-- A decoder: its code, its range, how many bytes it has gone. -/
structure Dt where
  c : Nat
  r : Nat
  g : Nat
def Dt.new (f : Nat → Nat) : Dt := ⟨feed f 0 4 0, 4294967295, 0⟩
def Dt.place (d : Dt) (t : Nat) : Nat := min (d.c / (d.r / t)) (t - 1)
def Dt.take (f : Nat → Nat) (d : Dt) (C : Cl) : Dt :=
  ⟨feed f (4 + d.g) (sh (d.r / C.t * C.w)) ((d.c + 4294967296 - d.r / C.t * C.s) % 4294967296), d.r / C.t * C.w * 256 ^ sh (d.r / C.t * C.w), d.g + sh (d.r / C.t * C.w)⟩
def Dt.ok (d : Dt) : Prop := 16777216 ≤ d.r ∧ d.r ≤ 4294967295 ∧ d.c ≤ 4294967295
def Dt.used (d : Dt) : Int := 8 * (d.g : Int) + 32 - (Lib.bitLen d.r : Nat)

theorem step_dt {r : Nat} {C : Cl} (h1 : 16777216 ≤ r) (h2 : r ≤ 4294967295) (hC : C.ok) : 512 ≤ r / C.t ∧ r / C.t * C.s + r / C.t * C.w ≤ r ∧ 1 ≤ r / C.t * C.w ∧ r / C.t * C.w ≤ 4294967295 :=
  step_bd (x := ⟨0, r, 1⟩) ⟨h1, h2, by show 0 + r < 4294967296 * 256 ^ 1; omega⟩ hC
theorem new_dt (f : Nat → Nat) : (Dt.new f).ok := ⟨by show 16777216 ≤ 4294967295; omega, Nat.le_refl _, feed_le f 4 0 0 (by omega)⟩
theorem take_dt {f : Nat → Nat} {d : Dt} {C : Cl} (h : d.ok) (hC : C.ok) : (d.take f C).ok := by
  obtain ⟨h1, h2, h3⟩ := h
  obtain ⟨b1, b2, b3, b4⟩ := step_dt h1 h2 hC
  obtain ⟨q1, q2⟩ := sh_spec b3 b4
  exact ⟨q1, q2, feed_le _ _ _ _ (by omega)⟩
theorem take_g {f : Nat → Nat} {d : Dt} {C : Cl} (h : d.ok) (hC : C.ok) : (d.take f C).g ≤ d.g + 2 := by
  have := put_g (x := ⟨0, d.r, d.g⟩) (c := C) ⟨h.1, h.2.1, by
    show 0 + d.r < 4294967296 * 256 ^ d.g
    have : 1 ≤ 256 ^ d.g := Nat.pow_pos (by omega)
    have := h.2.1
    omega⟩ hC
  exact this

/-- A decoder of s at block b, in T's blocks: d. -/
def DecIs (w : World) (b : Nat) (T : Nat → Prop) (s : List UInt8) (d : Dt) : Prop := DecMem w b T s (4 + d.g) d.r d.g d.c

theorem clone_as (s : ByteArray) (w : World) (hs : s.size ≤ 281474976710656) :
    Calls Tryz.prog 40 #[.string s] w fun e w' => e = .returned (.string s) ∧ Below w.heap.size w w' := by
  go_enter Tryz.func40, Tryz.ntmps40
  go_wp2_with (go_at_call 68; (with_reducible refine (Tryz.stringslite_Clone s _ hs).mono ?_); rintro e w' ⟨rfl, hb⟩; have HB := Lib.hid hb; clear hb)
  go_ret
  exact ⟨rfl, HB.out⟩

/-- A new decoder is handed back. -/
def RetDec (w : World) (s : List UInt8) (e : Ending) (w' : World) : Prop :=
  ∃ b T, e = .returned (.pointer (some ⟨b, 0, none⟩)) ∧ DecIs w' b T s (Dt.new (byteF s)) ∧ (∀ k, T k → w.heap.size ≤ k) ∧ Below w.heap.size w w'

set_option maxHeartbeats 1000000 in
theorem newDec_as (B : ByteArray) (s : List UInt8) (w : World) (hB : ⟨s.toArray⟩ = B) (hs : s.length ≤ 281474976710656) :
    Calls Tryz.prog 14 #[.string B] w fun e w' => RetDec w s e w' := by
  have hmf : ∀ (fn : Fn) (first cap : Array Value) (w : World), (Instr.makeFunc fn first cap).run Tryz.prog w = .ok (.func fn first cap) w := fun _ _ _ _ => rfl
  have hBs : B.size ≤ 281474976710656 := by rw [← hB, Lib.size_mk]; exact hs
  have HB := Lib.hid hB
  clear hB
  go_enter Tryz.func14, Tryz.ntmps14
  go_wp2_with (go_at_call 40; (with_reducible refine (clone_as B _ hBs).mono ?_); rintro e w' ⟨rfl, hb⟩; have HB1 := Lib.hid hb; clear hb)
  have hA0 : At ((w'.alloc (.cells #[.string B] 77)).alloc (.cells (decRow 4294967295 0 0 w'.heap.size) 83)) w'.heap.size #[.string ⟨(s.drop 0).toArray⟩] 77 := by
    rw [List.drop_zero, HB.out]
    exact (At.new _ _ _).alloc _
  have hA1 : At ((w'.alloc (.cells #[.string B] 77)).alloc (.cells (decRow 4294967295 0 0 w'.heap.size) 83)) (w'.heap.size + 1) (decRow 4294967295 0 0 w'.heap.size) 83 := by
    have := At.new (w'.alloc (.cells #[.string B] 77)) (decRow 4294967295 0 0 w'.heap.size) 83
    simpa using this
  refine (decShift_as _ (w'.heap.size + 1) (fun k => k = w'.heap.size ∨ k = w'.heap.size + 1) s 0 4294967295 0 0 4 ⟨.inr rfl, w'.heap.size, by omega, .inl rfl, hA1, hA0⟩ (by omega) (by omega) (by omega)).mono ?_
  rintro e w2 ⟨rfl, hD, hF⟩
  have HR : Hid (RetDec w s (.returned (.pointer (some ⟨w'.heap.size + 1, 0, none⟩))) w2) := by
    have hB1 := HB1.out
    have h1 := hB1.size
    refine ⟨_, _, rfl, hD, fun k hk => by rcases hk with rfl | rfl <;> omega, ?_⟩
    refine below_trans hB1 ?_ h1
    have h2 := hF.below (B := w'.heap.size) (by simp; omega) fun k hk => by rcases hk with rfl | rfl <;> omega
    exact (((Below.refl _ _).alloc (Nat.le_refl _) _).alloc (by simp) _).trans h2
  clear hA0 hA1 hD hF
  go_wp2
  go_ret
  exact HR

theorem decUsed_as (w : World) (b : Nat) (T : Nat → Prop) (s : List UInt8) (d : Dt) (u : Int) (h : DecIs w b T s d) (hd : d.ok) (hg : d.g ≤ 1000000000) (hu : d.used = u) :
    Calls Tryz.prog 17 #[.pointer (some ⟨b, 0, none⟩)] w fun e w' => e = .returned (.int .i64 u) ∧ Below w.heap.size w w' := by
  obtain ⟨_, tb, _, _, hA, _⟩ := h
  have c0 : w.cell? ⟨b, 0, none⟩ = some (.int .u32 d.r) := by rw [hA.cell]; rfl
  have c1 : w.cell? ⟨b, 1, none⟩ = some (.int .i64 d.g) := by rw [hA.cell]; rfl
  have HU := Lib.hid (show 8 * (d.g : Int) + 32 - (Lib.bitLen d.r : Nat) = u from hu)
  obtain ⟨_, r2, _⟩ := hd
  clear hu hA
  go_enter Tryz.func17, Tryz.ntmps17
  go_wp2_with (go_at_call 44; (with_reducible refine (used_as b 0 d.r d.g u _ c0 c1 r2 hg HU.out).mono ?_); rintro e w' ⟨rfl, hb⟩; have HB := Lib.hid hb; clear hb)
  go_ret
  exact ⟨rfl, HB.out⟩
theorem decUsed_nil (w : World) :
    Calls Tryz.prog 17 #[.pointer none] w fun e w' => e = .returned (.int .i64 0) ∧ w = w' := by
  go_enter Tryz.func17, Tryz.ntmps17
  go_wp2
  go_ret
  exact ⟨rfl, rfl⟩

theorem at_no (w : World) (p : Option Addr) (t : Int) (h : p = none ∨ ¬ (1 ≤ t ∧ t ≤ 32768)) :
    Calls Tryz.prog 53 #[.pointer p, .int .i64 t] w fun e w' => e = .returned (.tuple #[.int .i64 0, .int .i64 1]) ∧ w = w' := by
  cases p with
  | none =>
    go_enter Tryz.func53, Tryz.ntmps53
    go_wp2
    go_ret2
    exact ⟨rfl, rfl⟩
  | some a =>
    have H := Lib.hid (h.resolve_left (by simp))
    clear h
    go_enter Tryz.func53, Tryz.ntmps53
    go_wp2_with (go_at_call 81; (with_reducible refine (isTotal_no t _ H.out).mono ?_); rintro e w' ⟨rfl, rfl⟩)
    go_ret2
    exact ⟨rfl, rfl⟩

set_option maxHeartbeats 1000000 in
theorem at_as (w : World) (b : Nat) (T : Nat → Prop) (s : List UInt8) (d : Dt) (t p : Nat) (h : DecIs w b T s d) (hd : d.ok) (t1 : 1 ≤ t) (t2 : t ≤ 32768) (hp : d.place t = p) :
    Calls Tryz.prog 53 #[.pointer (some ⟨b, 0, none⟩), .int .i64 t] w fun e w' => e = .returned (.tuple #[.int .i64 p, .int .i64 0]) ∧ Below w.heap.size w w' := by
  obtain ⟨_, tb, _, _, hA, _⟩ := h
  have c0 : w.cell? ⟨b, 0, none⟩ = some (.int .u32 d.r) := by rw [hA.cell]; rfl
  have c2 : w.cell? ⟨b, 2, none⟩ = some (.int .u32 d.c) := by rw [hA.cell]; rfl
  obtain ⟨r1, r2, r3⟩ := hd
  obtain ⟨u, hu⟩ : ∃ u, d.r / t = u := ⟨_, rfl⟩
  have HU := Lib.hid (show (d.r : Int) / (t : Int) = (u : Int) by rw [← hu]; exact (Int.natCast_ediv d.r t).symm)
  obtain ⟨m, hm⟩ : ∃ m, d.c / u = m := ⟨_, rfl⟩
  have u1 : 512 ≤ u := by rw [← hu, Nat.le_div_iff_mul_le (by omega)]; omega
  have e1 : (d.c : Int) / (u : Int) = (m : Int) := by rw [← hm]; exact (Int.natCast_ediv d.c u).symm
  have m1 : m ≤ 4294967295 := by rw [← hm]; exact Nat.le_trans (Nat.div_le_self _ _) r3
  have hmin : ∀ W, (Builtin.min_ #[3, 3] 3 #[.int .i64 m, .int .i64 ((t : Int) - 1)]).run Tryz.prog W = .ok (.int .i64 p) W := fun W => by
    rw [← hp]
    unfold Dt.place
    rw [hu, hm]
    simp [Builtin.min_, Builtin.min2]
    split <;> omega
  clear hA hu hm hp
  go_enter Tryz.func53, Tryz.ntmps53
  go_wp2_with (go_at_call 81; (with_reducible refine (isTotal_yes t _ (by omega) (by omega)).mono ?_); rintro e w' ⟨rfl, rfl⟩)
  go_quiet ((go_at_call 82; exact Calls.quiet_of_same ((step_as b 0 d.r t u _ (by exact c0) (by omega) (by omega) (by omega) (by omega) HU.out).mono fun _ _ ⟨he, hw⟩ => ⟨he, hw.symm⟩)))
  go_wp2
  go_ret2
  exact ⟨rfl, below_drewN (Below.refl _ _) _⟩

theorem take_no (w : World) (p : Option Addr) (s v t : Int) (hs : s ≤ 9223372036854775807) (h : p = none ∨ ¬ (1 ≤ t ∧ t ≤ 32768 ∧ 0 ≤ s ∧ 1 ≤ v ∧ s + v ≤ t)) :
    Calls Tryz.prog 54 #[.pointer p, .int .i64 s, .int .i64 v, .int .i64 t] w fun e w' => e = .returned (.int .i64 1) ∧ w = w' := by
  cases p with
  | none =>
    go_enter Tryz.func54, Tryz.ntmps54
    go_wp2
    go_ret
    exact ⟨rfl, rfl⟩
  | some a =>
    have H := Lib.hid (h.resolve_left (by simp))
    clear h
    go_enter Tryz.func54, Tryz.ntmps54
    go_wp2_with (go_at_call 83; (with_reducible refine (isCell_no s v t _ hs H.out).mono ?_); rintro e w' ⟨rfl, rfl⟩)
    go_ret
    exact ⟨rfl, rfl⟩

theorem DecMem.coded {w w1 : World} {b : Nat} {T : Nat → Prop} {l : List UInt8} {i r g c : Nat} (h : DecMem w b T l i r g c) (hh : w1.heap = w.heap) (c' : Nat) : DecMem (w1.setCell ⟨b, 2, none⟩ (.int .u32 c')) b T l i r g c' := by
  obtain ⟨h1, tb, h2, h3, h4, h5⟩ := h
  have g4 : At w1 b (decRow r g c tb) 83 := by unfold At at *; rw [hh]; exact h4
  have g5 : At w1 tb #[.string ⟨(l.drop i).toArray⟩] 77 := by unfold At at *; rw [hh]; exact h5
  exact ⟨h1, tb, h2, h3, g4.setCell, g5.setCell_other h2⟩
theorem decSc (r g c tb : Nat) : Sc (decRow r g c tb) 0 r g := ⟨rfl, rfl⟩

set_option maxHeartbeats 2000000 in
theorem take_as (w : World) (b : Nat) (T : Nat → Prop) (l : List UInt8) (d : Dt) (s v t : Nat) (h : DecIs w b T l d) (hd : d.ok) (hC : (Cl.mk s v t).ok) (hg : d.g ≤ 100000) (hl : l.length ≤ 9223372036854775800) :
    Calls Tryz.prog 54 #[.pointer (some ⟨b, 0, none⟩), .int .i64 s, .int .i64 v, .int .i64 t] w fun e w' => e = .returned (.int .i64 0) ∧ DecIs w' b T l (d.take (byteF l) ⟨s, v, t⟩) ∧ Fr T w w' := by
  obtain ⟨s1, s2, s3, s4⟩ := step_dt hd.1 hd.2.1 hC
  obtain ⟨t1, t2, v1, e⟩ := hC
  obtain ⟨r1, r2, r3⟩ := id hd
  dsimp only at s1 s2 s3 s4 t1 t2 v1 e
  obtain ⟨u, hu⟩ : ∃ u, d.r / t = u := ⟨_, rfl⟩
  rw [hu] at s1 s2 s3 s4
  obtain ⟨A, hAA⟩ : ∃ A, u * s = A := ⟨_, rfl⟩
  obtain ⟨q, hq⟩ : ∃ q, u * v = q := ⟨_, rfl⟩
  rw [hAA, hq] at s2
  rw [hq] at s3 s4
  obtain ⟨n, hn⟩ : ∃ n, sh q = n := ⟨_, rfl⟩
  have n3 : n ≤ 3 := by rw [← hn]; exact sh_le q
  obtain ⟨M, hMM⟩ : ∃ M, (d.c + 4294967296 - A) % 4294967296 = M := ⟨_, rfl⟩
  have HP := Lib.hid (show d.take (byteF l) ⟨s, v, t⟩ = ⟨feed (byteF l) (4 + d.g) n M, q * 256 ^ n, d.g + n⟩ by unfold Dt.take; dsimp only; rw [hu, hAA, hq, hn, hMM])
  have HU := Lib.hid (show (d.r : Int) / (t : Int) = (u : Int) by rw [← hu]; exact (Int.natCast_ediv d.r t).symm)
  have HUN := Lib.hid hu
  have HQ := Lib.hid hq
  have HN := Lib.hid hn
  have eA : ((u : Int) * (s : Int)) % 4294967296 = A := by rw [← Int.natCast_mul, hAA]; omega
  have eM : ((d.c : Int) - (A : Int)) % 4294967296 = M := by rw [← hMM]; omega
  have m1 : M ≤ 4294967295 := by rw [← hMM]; omega
  obtain ⟨_, tb, _, _, hA, _⟩ := id h
  have c0 : w.cell? ⟨b, 0, none⟩ = some (.int .u32 d.r) := by rw [hA.cell]; rfl
  have c2 : w.cell? ⟨b, 2, none⟩ = some (.int .u32 d.c) := by rw [hA.cell]; rfl
  have f2 := hA.frozen 2
  have H := Lib.hid h
  clear hu hAA hq hn hMM hA h hd
  go_enter Tryz.func54, Tryz.ntmps54
  go_wp2_with (go_at_call 83; (with_reducible refine (isCell_yes s v t _ (by omega) (by omega) (by omega) (by omega) (by omega)).mono ?_); rintro e w' ⟨rfl, rfl⟩)
  go_region_with ((go_at_call 82; refine (step_as b 0 d.r t u _ ?_ (by omega) (by omega) (by omega) (by omega) HU.out).mono ?_; exact c0; rintro e w' ⟨rfl, rfl⟩))
  all_goals
    go_wp2_with fail
    have hD := H.out.coded (w1 := w.drew) rfl M
    obtain ⟨h1, tb2, h2, h3, h4, h5⟩ := hD
    refine (narrow_as b 0 _ _ d.r d.g v t u q n _ h4 (decSc _ _ _ _) r2 t1 t2 (by omega) HUN.out HQ.out s3 s4 (by omega) HN.out).mono ?_
    rintro e w3 ⟨rfl, hF3, hA3⟩
    have hD3 : DecMem w3 b T l (4 + d.g) (q * 256 ^ n) (d.g + n) M := ⟨h1, tb2, h2, h3, hA3, h5.fr hF3 (fun e => h2 e)⟩
    have HF3 := Lib.hid (((Fr.refl T w).drew.setCell (p := ⟨b, 2, none⟩) (.inl h1) (.int .u32 M)).trans hF3 fun i _ hi => by rw [show i = b from hi]; exact h1)
    clear h2 h3 h4 h5 hF3 hA3
    go_wp2_with fail
    refine (decShift_as _ b T l (4 + d.g) _ _ M n hD3 hl m1 (by omega)).mono ?_
    rintro e w4 ⟨rfl, hD4, hF4⟩
    have HE := Lib.hid (show DecIs w4 b T l (d.take (byteF l) ⟨s, v, t⟩) ∧ Fr T w w4 from ⟨by rw [HP.out]; show DecMem w4 b T l (4 + (d.g + n)) _ _ _; rw [← Nat.add_assoc]; exact hD4, HF3.out.same hF4⟩)
    clear hD3 hD4 hF4
    go_wp2
    go_ret
    exact ⟨rfl, HE.out⟩
end Go.Proofs.YtimhemcoflpmcaaGreatDoor.Rg
end

section
/- Contracts of a decoder, arguments as integers. -/
set_option maxRecDepth 100000
set_option linter.unusedVariables false
namespace Go.Proofs.YtimhemcoflpmcaaGreatDoor.Rg
open Go.RowKit Go.Proofs.YtimhemcoflpmcaaGreatDoor.Row

theorem place_lt (d : Dt) {t : Nat} (h : 1 ≤ t) : d.place t < t := by unfold Dt.place; omega

theorem at_at (w : World) (b : Nat) (T : Nat → Prop) (s : List UInt8) (d : Dt) (t : Int) (t' p : Nat) (h : DecIs w b T s d) (hd : d.ok) (ht : (t' : Int) = t) (t1 : 1 ≤ t') (t2 : t' ≤ 32768) (hp : d.place t' = p) :
    Calls Tryz.prog 53 #[.pointer (some ⟨b, 0, none⟩), .int .i64 t] w fun e w' => e = .returned (.tuple #[.int .i64 p, .int .i64 0]) ∧ Below w.heap.size w w' := by
  subst ht; exact at_as w b T s d t' p h hd t1 t2 hp

theorem take_at (w : World) (b : Nat) (T : Nat → Prop) (l : List UInt8) (d : Dt) (C : Cl) (s v t : Int) (h : DecIs w b T l d) (hd : d.ok) (hC : C.ok) (hs : (C.s : Int) = s) (hv : (C.w : Int) = v) (ht : (C.t : Int) = t) (hg : d.g ≤ 100000) (hl : l.length ≤ 9223372036854775800) :
    Calls Tryz.prog 54 #[.pointer (some ⟨b, 0, none⟩), .int .i64 s, .int .i64 v, .int .i64 t] w fun e w' => e = .returned (.int .i64 0) ∧ DecIs w' b T l (d.take (byteF l) C) ∧ Fr T w w' := by
  subst hs hv ht
  exact take_as w b T l d C.s C.w C.t h hd hC hg hl

theorem DecIs.fr {w w' : World} {b : Nat} {T U : Nat → Prop} {s : List UInt8} {d : Dt} (h : DecIs w b T s d) (hF : Fr U w w') (hU : ∀ k, T k → ¬ U k) : DecIs w' b T s d := DecMem.fr h hF hU

theorem DecIs.below {w w' : World} {b : Nat} {T : Nat → Prop} {s : List UInt8} {d : Dt} (h : DecIs w b T s d) (hB : Below w.heap.size w w') : DecIs w' b T s d := DecMem.below h hB

theorem DecIs.tight {w : World} {b : Nat} {T : Nat → Prop} {s : List UInt8} {d : Dt} (h : DecIs w b T s d) : ∃ T0, DecIs w b T0 s d ∧ ∀ k, T0 k → T k ∧ k < w.heap.size := by
  obtain ⟨h1, tb, h2, h3, h4, h5⟩ := h
  refine ⟨fun k => k = b ∨ k = tb, ⟨.inl rfl, tb, h2, .inr rfl, h4, h5⟩, fun k hk => ?_⟩
  rcases hk with rfl | rfl
  · exact ⟨h1, h4.lt⟩
  · exact ⟨h3, h5.lt⟩
end Go.Proofs.YtimhemcoflpmcaaGreatDoor.Rg
end
