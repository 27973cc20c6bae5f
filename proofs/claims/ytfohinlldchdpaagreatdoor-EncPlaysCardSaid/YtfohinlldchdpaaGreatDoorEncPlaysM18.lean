/- Texts of the walk, one behind the other. -/
import Derived.Test.YtfohinlldchdpaaGreatDoorEncPlaysM17
import Derived.Test.YtfohinlldchdpaaGreatDoorShelf
import Derived.Test.YtfohinlldchdpaaGreatDoorEncPlaysM11

section
/- Contracts of rang's NewDec, At, Take, Used (of a decoder). -/
set_option maxRecDepth 100000
set_option linter.unusedVariables false
namespace Go.Proofs.YtfohinlldchdpaaGreatDoor.Rg
open Go.RowKit Go.Proofs.YtfohinlldchdpaaGreatDoor.Row

/-- A decoder: its code, its range, how many bytes it has gone. -/
structure Dt where
  c : Nat
  r : Nat
  g : Nat
def Dt.new (f : Nat → Nat) : Dt := ⟨feed f 0 4 0, 4294967295, 0⟩
def Dt.place (d : Dt) (t : Nat) : Nat := min (d.c / (d.r / t)) (t - 1)
def Dt.take (f : Nat → Nat) (d : Dt) (C : Cl) : Dt :=
  ⟨feed f (4 + d.g) (sh (d.r / C.t * C.w)) ((d.c + 4294967296 - d.r / C.t * C.s) % 4294967296), d.r / C.t * C.w * 256 ^ sh (d.r / C.t * C.w), d.g + sh (d.r / C.t * C.w)⟩
def Dt.ok (d : Dt) : Prop := 16777216 ≤ d.r ∧ d.r ≤ 4294967295 ∧ d.c ≤ 4294967295
def Dt.used (d : Dt) : Int := 8 * (d.g : Int) + 32 - (Lib.bitLen d.r : Nat)

theorem step_dt {r : Nat} {C : Cl} (h1 : 16777216 ≤ r) (h2 : r ≤ 4294967295) (hC : C.ok) : 512 ≤ r / C.t ∧ r / C.t * C.s + r / C.t * C.w ≤ r ∧ 1 ≤ r / C.t * C.w ∧ r / C.t * C.w ≤ 4294967295 :=
  step_bd (x := ⟨0, r, 1⟩) ⟨h1, h2, by show 0 + r < 4294967296 * 256 ^ 1; omega⟩ hC
theorem new_dt (f : Nat → Nat) : (Dt.new f).ok := ⟨by show 16777216 ≤ 4294967295; omega, Nat.le_refl _, feed_le f 4 0 0 (by omega)⟩
theorem take_dt {f : Nat → Nat} {d : Dt} {C : Cl} (h : d.ok) (hC : C.ok) : (d.take f C).ok := by
  obtain ⟨h1, h2, h3⟩ := h
  obtain ⟨b1, b2, b3, b4⟩ := step_dt h1 h2 hC
  obtain ⟨q1, q2⟩ := sh_spec b3 b4
  exact ⟨q1, q2, feed_le _ _ _ _ (by omega)⟩
theorem take_g {f : Nat → Nat} {d : Dt} {C : Cl} (h : d.ok) (hC : C.ok) : (d.take f C).g ≤ d.g + 2 := by
  have := put_g (x := ⟨0, d.r, d.g⟩) (c := C) ⟨h.1, h.2.1, by
    show 0 + d.r < 4294967296 * 256 ^ d.g
    have : 1 ≤ 256 ^ d.g := Nat.pow_pos (by omega)
    have := h.2.1
    omega⟩ hC
  exact this

/-- A decoder of s at block b, in T's blocks: d. -/
def DecIs (w : World) (b : Nat) (T : Nat → Prop) (s : List UInt8) (d : Dt) : Prop := DecMem w b T s (4 + d.g) d.r d.g d.c

theorem clone_as (s : ByteArray) (w : World) (hs : s.size ≤ 281474976710656) :
    Calls Tryz.prog 128 #[.string s] w fun e w' => e = .returned (.string s) ∧ Below w.heap.size w w' := by
  go_enter Tryz.func128, Tryz.ntmps128
  go_wp2_with (go_at_call 183; (with_reducible refine (Tryz.stringslite_Clone s _ hs).mono ?_); rintro e w' ⟨rfl, hb⟩; have HB := Lib.hid hb; clear hb)
  go_ret
  exact ⟨rfl, HB.out⟩

/-- A new decoder is handed back. -/
def RetDec (w : World) (s : List UInt8) (e : Ending) (w' : World) : Prop :=
  ∃ b T, e = .returned (.pointer (some ⟨b, 0, none⟩)) ∧ DecIs w' b T s (Dt.new (byteF s)) ∧ (∀ k, T k → w.heap.size ≤ k) ∧ Below w.heap.size w w'

set_option maxHeartbeats 1000000 in
theorem newDec_as (B : ByteArray) (s : List UInt8) (w : World) (hB : ⟨s.toArray⟩ = B) (hs : s.length ≤ 281474976710656) :
    Calls Tryz.prog 83 #[.string B] w fun e w' => RetDec w s e w' := by
  have hmf : ∀ (fn : Fn) (first cap : Array Value) (w : World), (Instr.makeFunc fn first cap).run Tryz.prog w = .ok (.func fn first cap) w := fun _ _ _ _ => rfl
  have hBs : B.size ≤ 281474976710656 := by rw [← hB, Lib.size_mk]; exact hs
  have HB := Lib.hid hB
  clear hB
  go_enter Tryz.func83, Tryz.ntmps83
  go_wp2_with (go_at_call 128; (with_reducible refine (clone_as B _ hBs).mono ?_); rintro e w' ⟨rfl, hb⟩; have HB1 := Lib.hid hb; clear hb)
  have hA0 : At ((w'.alloc (.cells #[.string B] 168)).alloc (.cells (decRow 4294967295 0 0 w'.heap.size) 171)) w'.heap.size #[.string ⟨(s.drop 0).toArray⟩] 168 := by
    rw [List.drop_zero, HB.out]
    exact (At.new _ _ _).alloc _
  have hA1 : At ((w'.alloc (.cells #[.string B] 168)).alloc (.cells (decRow 4294967295 0 0 w'.heap.size) 171)) (w'.heap.size + 1) (decRow 4294967295 0 0 w'.heap.size) 171 := by
    have := At.new (w'.alloc (.cells #[.string B] 168)) (decRow 4294967295 0 0 w'.heap.size) 171
    simpa using this
  refine (decShift_as _ (w'.heap.size + 1) (fun k => k = w'.heap.size ∨ k = w'.heap.size + 1) s 0 4294967295 0 0 4 ⟨.inr rfl, w'.heap.size, by omega, .inl rfl, hA1, hA0⟩ (by omega) (by omega) (by omega)).mono ?_
  rintro e w2 ⟨rfl, hD, hF⟩
  have HR : Hid (RetDec w s (.returned (.pointer (some ⟨w'.heap.size + 1, 0, none⟩))) w2) := by
    have hB1 := HB1.out
    have h1 := hB1.size
    refine ⟨_, _, rfl, hD, fun k hk => by rcases hk with rfl | rfl <;> omega, ?_⟩
    refine below_trans hB1 ?_ h1
    have h2 := hF.below (B := w'.heap.size) (by simp; omega) fun k hk => by rcases hk with rfl | rfl <;> omega
    exact (((Below.refl _ _).alloc (Nat.le_refl _) _).alloc (by simp) _).trans h2
  clear hA0 hA1 hD hF
  go_wp2
  go_ret
  exact HR

theorem decUsed_as (w : World) (b : Nat) (T : Nat → Prop) (s : List UInt8) (d : Dt) (u : Int) (h : DecIs w b T s d) (hd : d.ok) (hg : d.g ≤ 1000000000) (hu : d.used = u) :
    Calls Tryz.prog 85 #[.pointer (some ⟨b, 0, none⟩)] w fun e w' => e = .returned (.int .i64 u) ∧ Below w.heap.size w w' := by
  obtain ⟨_, tb, _, _, hA, _⟩ := h
  have c0 : w.cell? ⟨b, 0, none⟩ = some (.int .u32 d.r) := by rw [hA.cell]; rfl
  have c1 : w.cell? ⟨b, 1, none⟩ = some (.int .i64 d.g) := by rw [hA.cell]; rfl
  have HU := Lib.hid (show 8 * (d.g : Int) + 32 - (Lib.bitLen d.r : Nat) = u from hu)
  obtain ⟨_, r2, _⟩ := hd
  clear hu hA
  go_enter Tryz.func85, Tryz.ntmps85
  go_wp2_with (go_at_call 119; (with_reducible refine (used_as b 0 d.r d.g u _ c0 c1 r2 hg HU.out).mono ?_); rintro e w' ⟨rfl, hb⟩; have HB := Lib.hid hb; clear hb)
  go_ret
  exact ⟨rfl, HB.out⟩
set_option maxHeartbeats 1000000 in
theorem at_as (w : World) (b : Nat) (T : Nat → Prop) (s : List UInt8) (d : Dt) (t p : Nat) (h : DecIs w b T s d) (hd : d.ok) (t1 : 1 ≤ t) (t2 : t ≤ 32768) (hp : d.place t = p) :
    Calls Tryz.prog 137 #[.pointer (some ⟨b, 0, none⟩), .int .i64 t] w fun e w' => e = .returned (.tuple #[.int .i64 p, .int .i64 0]) ∧ Below w.heap.size w w' := by
  obtain ⟨_, tb, _, _, hA, _⟩ := h
  have c0 : w.cell? ⟨b, 0, none⟩ = some (.int .u32 d.r) := by rw [hA.cell]; rfl
  have c2 : w.cell? ⟨b, 2, none⟩ = some (.int .u32 d.c) := by rw [hA.cell]; rfl
  obtain ⟨r1, r2, r3⟩ := hd
  obtain ⟨u, hu⟩ : ∃ u, d.r / t = u := ⟨_, rfl⟩
  have HU := Lib.hid (show (d.r : Int) / (t : Int) = (u : Int) by rw [← hu]; exact (Int.natCast_ediv d.r t).symm)
  obtain ⟨m, hm⟩ : ∃ m, d.c / u = m := ⟨_, rfl⟩
  have u1 : 512 ≤ u := by rw [← hu, Nat.le_div_iff_mul_le (by omega)]; omega
  have e1 : (d.c : Int) / (u : Int) = (m : Int) := by rw [← hm]; exact (Int.natCast_ediv d.c u).symm
  have m1 : m ≤ 4294967295 := by rw [← hm]; exact Nat.le_trans (Nat.div_le_self _ _) r3
  have hmin : ∀ W, (Builtin.min_ #[3, 3] 3 #[.int .i64 m, .int .i64 ((t : Int) - 1)]).run Tryz.prog W = .ok (.int .i64 p) W := fun W => by
    rw [← hp]
    unfold Dt.place
    rw [hu, hm]
    simp [Builtin.min_, Builtin.min2]
    split <;> omega
  clear hA hu hm hp
  go_enter Tryz.func137, Tryz.ntmps137
  go_wp2_with (go_at_call 187; (with_reducible refine (isTotal_yes t _ (by omega) (by omega)).mono ?_); rintro e w' ⟨rfl, rfl⟩)
  go_quiet ((go_at_call 160; exact Calls.quiet_of_same ((step_as b 0 d.r t u _ (by exact c0) (by omega) (by omega) (by omega) (by omega) HU.out).mono fun _ _ ⟨he, hw⟩ => ⟨he, hw.symm⟩)))
  go_wp2
  go_ret2
  exact ⟨rfl, below_drewN (Below.refl _ _) _⟩

theorem DecMem.coded {w w1 : World} {b : Nat} {T : Nat → Prop} {l : List UInt8} {i r g c : Nat} (h : DecMem w b T l i r g c) (hh : w1.heap = w.heap) (c' : Nat) : DecMem (w1.setCell ⟨b, 2, none⟩ (.int .u32 c')) b T l i r g c' := by
  obtain ⟨h1, tb, h2, h3, h4, h5⟩ := h
  have g4 : At w1 b (decRow r g c tb) 171 := by unfold At at *; rw [hh]; exact h4
  have g5 : At w1 tb #[.string ⟨(l.drop i).toArray⟩] 168 := by unfold At at *; rw [hh]; exact h5
  exact ⟨h1, tb, h2, h3, g4.setCell, g5.setCell_other h2⟩
theorem decSc (r g c tb : Nat) : Sc (decRow r g c tb) 0 r g := ⟨rfl, rfl⟩

set_option maxHeartbeats 2000000 in
theorem take_as (w : World) (b : Nat) (T : Nat → Prop) (l : List UInt8) (d : Dt) (s v t : Nat) (h : DecIs w b T l d) (hd : d.ok) (hC : (Cl.mk s v t).ok) (hg : d.g ≤ 100000) (hl : l.length ≤ 9223372036854775800) :
    Calls Tryz.prog 138 #[.pointer (some ⟨b, 0, none⟩), .int .i64 s, .int .i64 v, .int .i64 t] w fun e w' => e = .returned (.int .i64 0) ∧ DecIs w' b T l (d.take (byteF l) ⟨s, v, t⟩) ∧ Fr T w w' := by
  obtain ⟨s1, s2, s3, s4⟩ := step_dt hd.1 hd.2.1 hC
  obtain ⟨t1, t2, v1, e⟩ := hC
  obtain ⟨r1, r2, r3⟩ := id hd
  dsimp only at s1 s2 s3 s4 t1 t2 v1 e
  obtain ⟨u, hu⟩ : ∃ u, d.r / t = u := ⟨_, rfl⟩
  rw [hu] at s1 s2 s3 s4
  obtain ⟨A, hAA⟩ : ∃ A, u * s = A := ⟨_, rfl⟩
  obtain ⟨q, hq⟩ : ∃ q, u * v = q := ⟨_, rfl⟩
  rw [hAA, hq] at s2
  rw [hq] at s3 s4
  obtain ⟨n, hn⟩ : ∃ n, sh q = n := ⟨_, rfl⟩
  have n3 : n ≤ 3 := by rw [← hn]; exact sh_le q
  obtain ⟨M, hMM⟩ : ∃ M, (d.c + 4294967296 - A) % 4294967296 = M := ⟨_, rfl⟩
  have HP := Lib.hid (show d.take (byteF l) ⟨s, v, t⟩ = ⟨feed (byteF l) (4 + d.g) n M, q * 256 ^ n, d.g + n⟩ by unfold Dt.take; dsimp only; rw [hu, hAA, hq, hn, hMM])
  have HU := Lib.hid (show (d.r : Int) / (t : Int) = (u : Int) by rw [← hu]; exact (Int.natCast_ediv d.r t).symm)
  have HUN := Lib.hid hu
  have HQ := Lib.hid hq
  have HN := Lib.hid hn
  have eA : ((u : Int) * (s : Int)) % 4294967296 = A := by rw [← Int.natCast_mul, hAA]; omega
  have eM : ((d.c : Int) - (A : Int)) % 4294967296 = M := by rw [← hMM]; omega
  have m1 : M ≤ 4294967295 := by rw [← hMM]; omega
  obtain ⟨_, tb, _, _, hA, _⟩ := id h
  have c0 : w.cell? ⟨b, 0, none⟩ = some (.int .u32 d.r) := by rw [hA.cell]; rfl
  have c2 : w.cell? ⟨b, 2, none⟩ = some (.int .u32 d.c) := by rw [hA.cell]; rfl
  have f2 := hA.frozen 2
  have H := Lib.hid h
  clear hu hAA hq hn hMM hA h hd
  go_enter Tryz.func138, Tryz.ntmps138
  go_wp2_with (go_at_call 159; (with_reducible refine (isCell_yes s v t _ (by omega) (by omega) (by omega) (by omega) (by omega)).mono ?_); rintro e w' ⟨rfl, rfl⟩)
  go_region_with ((go_at_call 160; refine (step_as b 0 d.r t u _ ?_ (by omega) (by omega) (by omega) (by omega) HU.out).mono ?_; exact c0; rintro e w' ⟨rfl, rfl⟩))
  all_goals
    go_wp2_with fail
    have hD := H.out.coded (w1 := w.drew) rfl M
    obtain ⟨h1, tb2, h2, h3, h4, h5⟩ := hD
    refine (narrow_as b 0 _ _ d.r d.g v t u q n _ h4 (decSc _ _ _ _) r2 t1 t2 (by omega) HUN.out HQ.out s3 s4 (by omega) HN.out).mono ?_
    rintro e w3 ⟨rfl, hF3, hA3⟩
    have hD3 : DecMem w3 b T l (4 + d.g) (q * 256 ^ n) (d.g + n) M := ⟨h1, tb2, h2, h3, hA3, h5.fr hF3 (fun e => h2 e)⟩
    have HF3 := Lib.hid (((Fr.refl T w).drew.setCell (p := ⟨b, 2, none⟩) (.inl h1) (.int .u32 M)).trans hF3 fun i _ hi => by rw [show i = b from hi]; exact h1)
    clear h2 h3 h4 h5 hF3 hA3
    go_wp2_with fail
    refine (decShift_as _ b T l (4 + d.g) _ _ M n hD3 hl m1 (by omega)).mono ?_
    rintro e w4 ⟨rfl, hD4, hF4⟩
    have HE := Lib.hid (show DecIs w4 b T l (d.take (byteF l) ⟨s, v, t⟩) ∧ Fr T w w4 from ⟨by rw [HP.out]; show DecMem w4 b T l (4 + (d.g + n)) _ _ _; rw [← Nat.add_assoc]; exact hD4, HF3.out.same hF4⟩)
    clear hD3 hD4 hF4
    go_wp2
    go_ret
    exact ⟨rfl, HE.out⟩
end Go.Proofs.YtfohinlldchdpaaGreatDoor.Rg
end

section
/- Contracts of a decoder, arguments as integers. -/
set_option maxRecDepth 100000
set_option linter.unusedVariables false
namespace Go.Proofs.YtfohinlldchdpaaGreatDoor.Rg
open Go.RowKit Go.Proofs.YtfohinlldchdpaaGreatDoor.Row

theorem place_lt (d : Dt) {t : Nat} (h : 1 ≤ t) : d.place t < t := by unfold Dt.place; omega

theorem at_at (w : World) (b : Nat) (T : Nat → Prop) (s : List UInt8) (d : Dt) (t : Int) (t' p : Nat) (h : DecIs w b T s d) (hd : d.ok) (ht : (t' : Int) = t) (t1 : 1 ≤ t') (t2 : t' ≤ 32768) (hp : d.place t' = p) :
    Calls Tryz.prog 137 #[.pointer (some ⟨b, 0, none⟩), .int .i64 t] w fun e w' => e = .returned (.tuple #[.int .i64 p, .int .i64 0]) ∧ Below w.heap.size w w' := by
  subst ht; exact at_as w b T s d t' p h hd t1 t2 hp

theorem take_at (w : World) (b : Nat) (T : Nat → Prop) (l : List UInt8) (d : Dt) (C : Cl) (s v t : Int) (h : DecIs w b T l d) (hd : d.ok) (hC : C.ok) (hs : (C.s : Int) = s) (hv : (C.w : Int) = v) (ht : (C.t : Int) = t) (hg : d.g ≤ 100000) (hl : l.length ≤ 9223372036854775800) :
    Calls Tryz.prog 138 #[.pointer (some ⟨b, 0, none⟩), .int .i64 s, .int .i64 v, .int .i64 t] w fun e w' => e = .returned (.int .i64 0) ∧ DecIs w' b T l (d.take (byteF l) C) ∧ Fr T w w' := by
  subst hs hv ht
  exact take_as w b T l d C.s C.w C.t h hd hC hg hl

theorem DecIs.fr {w w' : World} {b : Nat} {T U : Nat → Prop} {s : List UInt8} {d : Dt} (h : DecIs w b T s d) (hF : Fr U w w') (hU : ∀ k, T k → ¬ U k) : DecIs w' b T s d := DecMem.fr h hF hU

theorem DecIs.below {w w' : World} {b : Nat} {T : Nat → Prop} {s : List UInt8} {d : Dt} (h : DecIs w b T s d) (hB : Below w.heap.size w w') : DecIs w' b T s d := DecMem.below h hB

theorem DecIs.tight {w : World} {b : Nat} {T : Nat → Prop} {s : List UInt8} {d : Dt} (h : DecIs w b T s d) : ∃ T0, DecIs w b T0 s d ∧ ∀ k, T0 k → T k ∧ k < w.heap.size := by
  obtain ⟨h1, tb, h2, h3, h4, h5⟩ := h
  refine ⟨fun k => k = b ∨ k = tb, ⟨.inl rfl, tb, h2, .inr rfl, h4, h5⟩, fun k hk => ?_⟩
  rcases hk with rfl | rfl
  · exact ⟨h1, h4.lt⟩
  · exact ⟨h3, h5.lt⟩
end Go.Proofs.YtfohinlldchdpaaGreatDoor.Rg
end

section
/- Contract of rang's Bits (of a decoder). -/
set_option maxRecDepth 100000
set_option linter.unusedVariables false
namespace Go.Proofs.YtfohinlldchdpaaGreatDoor.Rg
open Go.RowKit Go.Proofs.YtfohinlldchdpaaGreatDoor.Row

theorem pow8 (n : Nat) : 1 ≤ 2 ^ min n 8 ∧ 2 ^ min n 8 ≤ 256 := by
  have h1 := Nat.pow_le_pow_right (n := 2) (by omega) (Nat.min_le_right n 8)
  have h2 : 1 ≤ 2 ^ min n 8 := Nat.one_le_two_pow
  exact ⟨h2, h1⟩

/-- A number of n bits, taken: the number, and the decoder then. -/
def decB (f : Nat → Nat) : Nat → Nat → Dt → Nat × Dt
  | 0, _, d => (0, d)
  | k + 1, n, d => if n = 0 then (0, d) else
    (d.place (2 ^ min n 8) + 256 * (decB f k (n - min n 8) (d.take f ⟨d.place (2 ^ min n 8), 1, 2 ^ min n 8⟩)).1, (decB f k (n - min n 8) (d.take f ⟨d.place (2 ^ min n 8), 1, 2 ^ min n 8⟩)).2)

theorem decB_zero (f : Nat → Nat) (k : Nat) (d : Dt) : decB f k 0 d = (0, d) := by cases k <;> rfl

theorem placeCl_ok (d : Dt) (n : Nat) : (Cl.mk (d.place (2 ^ min n 8)) 1 (2 ^ min n 8)).ok := by
  have h := pow8 n
  have := place_lt d h.1
  exact ⟨h.1, by show 2 ^ min n 8 ≤ 32768; omega, Nat.le_refl _, by show d.place (2 ^ min n 8) + 1 ≤ 2 ^ min n 8; omega⟩

theorem decB_ok {f : Nat → Nat} : ∀ (k n : Nat) {d : Dt}, d.ok → (decB f k n d).2.ok ∧ (decB f k n d).2.g ≤ d.g + 2 * k
  | 0, _, _, h => ⟨h, Nat.le_refl _⟩
  | k + 1, n, d, h => by
    unfold decB
    split
    · exact ⟨h, Nat.le_add_right _ _⟩
    · have h1 := take_dt (f := f) h (placeCl_ok d n)
      have h2 := take_g (f := f) h (placeCl_ok d n)
      obtain ⟨h3, h4⟩ := decB_ok (f := f) k (n - min n 8) h1
      exact ⟨h3, by dsimp only; omega⟩

theorem decB_lt {f : Nat → Nat} : ∀ (k n : Nat) {d : Dt}, n ≤ 8 * k → (decB f k n d).1 < 2 ^ n
  | 0, n, _, h => by
    obtain rfl : n = 0 := by omega
    show 0 < 1
    omega
  | k + 1, n, d, h => by
    unfold decB
    split
    · subst n; show 0 < 1; omega
    · dsimp only
      have ih := decB_lt (f := f) k (n - min n 8) (d := d.take f ⟨d.place (2 ^ min n 8), 1, 2 ^ min n 8⟩) (by omega)
      have hp := place_lt d (pow8 n).1
      by_cases h8 : n ≤ 8
      · have e : min n 8 = n := by omega
        rw [e] at ih hp ⊢
        rw [Nat.sub_self] at ih ⊢
        rw [decB_zero]
        simpa using hp
      · have e : min n 8 = 8 := by omega
        rw [e] at ih hp ⊢
        generalize (decB f k (n - 8) (d.take f ⟨d.place (2 ^ 8), 1, 2 ^ 8⟩)).1 = v at *
        have e2 : 2 ^ n = 256 * 2 ^ (n - 8) := by rw [show (256 : Nat) = 2 ^ 8 by rfl, ← Nat.pow_add]; congr 1; omega
        rw [e2]
        have h256 : (2 : Nat) ^ 8 = 256 := rfl
        omega

theorem or_bits (h : Nat) (x p : Nat) (hx : x < 2 ^ h) (hp : p < 256) (hh : h ≤ 16) : bits .or .i64 (x : Int) ((p : Int) * 2 ^ h) = ((x + p * 2 ^ h : Nat) : Int) := by
  have hw : ∀ n : Int, 0 ≤ n → n < 2 ^ 62 → IntKind.i64.wrap n = n := fun n h0 h1 => IntWalk.i64_in _ (by omega)
  have b1 : (2 : Nat) ^ h ≤ 65536 := Nat.pow_le_pow_right (by omega) hh
  have b2 : p * 2 ^ h ≤ 255 * 65536 := Nat.mul_le_mul (by omega) b1
  have e1 : ((p : Int) * 2 ^ h) = ((p * 2 ^ h : Nat) : Int) := by rw [Int.natCast_mul, Int.natCast_pow]; rfl
  have e := bits_join_low .i64 62 (by decide) hw h x ((p : Int) * 2 ^ h) (by omega) (by exact_mod_cast hx) (by omega) (by rw [e1]; omega) (by exact Int.mul_emod_left _ _) (by rw [e1]; omega)
  rw [e, e1]
  omega

theorem bits_next {F : Nat → Nat} {f n x h y p m Y K : Nat} {z E : Dt} (hz : z.ok) (hC : (Cl.mk p 1 (2 ^ m)).ok) (hB : decB F (f + 1) (n - h) z = (p + 256 * (decB F f (n - h - m) (z.take F ⟨p, 1, 2 ^ m⟩)).1, (decB F f (n - h - m) (z.take F ⟨p, 1, 2 ^ m⟩)).2))
    (hM : n - h - m = n - (h + 8)) (hZ : y + 2 ^ h * (decB F (f + 1) (n - h) z).1 = x ∧ (decB F (f + 1) (n - h) z).2 = E) (hY : y + p * 2 ^ h = Y) (hK : h + 8 = K) (hp : p < 256) (hy : y < 2 ^ h) (hn : n ≤ h + 8 * (f + 1)) (hf : h + 8 * (f + 1) = 24) (hg : z.g + 2 * (f + 1) ≤ 100000) (hf3 : f + 1 ≤ 3) :
    n ≤ K + 8 * f ∧ K + 8 * f = 24 ∧ Y < 2 ^ K ∧ (z.take F ⟨p, 1, 2 ^ m⟩).ok ∧ (z.take F ⟨p, 1, 2 ^ m⟩).g + 2 * f ≤ 100000 ∧ f ≤ 3 ∧ Hid (Y + 2 ^ K * (decB F f (n - K) (z.take F ⟨p, 1, 2 ^ m⟩)).1 = x ∧ (decB F f (n - K) (z.take F ⟨p, 1, 2 ^ m⟩)).2 = E) := by
  subst hY hK
  have h1 := take_g (f := F) hz hC
  have e : 2 ^ (h + 8) = 2 ^ h * 256 := by rw [Nat.pow_add]
  refine ⟨by omega, by omega, ?_, take_dt hz hC, by omega, by omega, Lib.hid ?_⟩
  · rw [e]
    have : p * 2 ^ h ≤ 255 * 2 ^ h := Nat.mul_le_mul_right _ (by omega)
    omega
  · rw [hB, hM] at hZ
    obtain ⟨z1, z2⟩ := hZ
    refine ⟨?_, z2⟩
    rw [← z1, e]
    dsimp only
    rw [Nat.mul_add, Nat.mul_comm p, Nat.mul_assoc, Nat.add_assoc]

set_option maxHeartbeats 2000000 in
theorem decBits_as (w : World) (b : Nat) (T : Nat → Prop) (s : List UInt8) (d : Dt) (n x : Nat) (h : DecIs w b T s d) (hd : d.ok) (hg : d.g ≤ 90000) (hn : n ≤ 24) (hs : s.length ≤ 9223372036854775800) (hx : (decB (byteF s) 3 n d).1 = x) :
    Calls Tryz.prog 87 #[.pointer (some ⟨b, 0, none⟩), .int .i64 n] w fun e w' => e = .returned (.tuple #[.int .i64 x, .int .i64 0]) ∧ DecIs w' b T s (decB (byteF s) 3 n d).2 ∧ Fr T w w' := by
  have H := Lib.hid h
  have HX := Lib.hid hx
  clear h hx
  go_enter Tryz.func87, Tryz.ntmps87
  go_wp2_with (go_at_call 136; (with_reducible refine (isCount_yes n _ (by omega) (by omega)).mono ?_); rintro e w' ⟨rfl, rfl⟩)
  go_loopw [6, 7] (fun a c w' => ∃ (f h y : Nat) (z : Dt), a = .int .i64 y ∧ c = .int .i64 h ∧ n ≤ h + 8 * f ∧ h + 8 * f = 24 ∧ y < 2 ^ h ∧ z.ok ∧ z.g + 2 * f ≤ 100000 ∧ f ≤ 3 ∧ Hid (y + 2 ^ h * (decB (byteF s) f (n - h) z).1 = x ∧ (decB (byteF s) f (n - h) z).2 = (decB (byteF s) 3 n d).2) ∧ DecIs w' b T s z ∧ Fr T w w') (fun _ c _ => (24 - intOf c).toNat)
  case atStart => exact ⟨3, 0, 0, d, rfl, rfl, by omega, by omega, by omega, hd, by omega, by omega, Lib.hid ⟨by rw [← HX.out]; simp, rfl⟩, H.out, Fr.refl _ _⟩
  case round =>
    obtain ⟨f, h, y, z, rfl, rfl, hnf, hf24, hy, hz, hzg, hf3, HZ, hD, hF⟩ := hrel
    have HD := Lib.hid hD
    have HF := Lib.hid hF
    clear hD hF H
    by_cases h0 : h < n
    · obtain ⟨f, rfl⟩ : ∃ f', f = f' + 1 := ⟨f - 1, by omega⟩
      have HB := Lib.hid (show decB (byteF s) (f + 1) (n - h) z = (z.place (2 ^ min (n - h) 8) + 256 * (decB (byteF s) f (n - h - min (n - h) 8) (z.take (byteF s) ⟨z.place (2 ^ min (n - h) 8), 1, 2 ^ min (n - h) 8⟩)).1, (decB (byteF s) f (n - h - min (n - h) 8) (z.take (byteF s) ⟨z.place (2 ^ min (n - h) 8), 1, 2 ^ min (n - h) 8⟩)).2) by rw [decB, if_neg (by omega)])
      have HC := Lib.hid (placeCl_ok z (n - h))
      obtain ⟨q1, q2⟩ := pow8 (n - h)
      obtain ⟨m, hm⟩ : ∃ m, min (n - h) 8 = m := ⟨_, rfl⟩
      have HMI := Lib.hid (show min ((n : Int) - h) 8 = (m : Int) by omega)
      have hm8 : m ≤ 8 := by omega
      have HM := Lib.hid (show n - h - m = n - (h + 8) by omega)
      rw [hm] at HB HC q1 q2
      obtain ⟨P, hP⟩ : ∃ P : Int, (2 : Int) ^ m = P := ⟨_, rfl⟩
      have hPn : ((2 ^ m : Nat) : Int) = P := by rw [← hP]; exact Int.natCast_pow 2 m
      have P1 : 1 ≤ P := by omega
      have P2 : P ≤ 256 := by omega
      have HPn := Lib.hid hPn
      obtain ⟨p, hp⟩ : ∃ p, z.place (2 ^ m) = p := ⟨_, rfl⟩
      have hp256 : p < 256 := by have := place_lt z q1; omega
      have HPP := Lib.hid hp
      rw [hp] at HB HC
      obtain ⟨Y, hY⟩ : ∃ Y, y + p * 2 ^ h = Y := ⟨_, rfl⟩
      have HOR := Lib.hid (show bits .or .i64 (y : Int) ((p : Int) * 2 ^ h) = (Y : Int) by rw [← hY]; exact or_bits h y p hy hp256 (by omega))
      obtain ⟨K, hK⟩ : ∃ K, h + 8 = K := ⟨_, rfl⟩
      have HK := Lib.hid hK
      have HNX := Lib.hid (bits_next (f := f) (x := x) hz HC.out HB.out HM.out HZ.out hY hK hp256 hy hnf hf24 hzg hf3)
      have hhv : h = 0 ∨ h = 8 ∨ h = 16 := by omega
      clear hm hPn hp
      rcases hhv with rfl | rfl | rfl
      all_goals
        have hmi := HMI.out
        simp only [Int.cast_ofNat_Int, Int.sub_zero] at hmi
        go_wp2_with fail
        refine (at_at _ b T s z P (2 ^ m) p HD.out hz HPn.out q1 (by omega) HPP.out).mono ?_
        rintro e w1 ⟨rfl, hb1⟩
        have HB1 := Lib.hid hb1
        clear hb1
        go_wp2_with fail
        refine (take_at _ b T s z ⟨p, 1, 2 ^ m⟩ _ _ _ (HD.out.below HB1.out) hz HC.out rfl rfl HPn.out (by omega) hs).mono ?_
        rintro e w2 ⟨rfl, hD2, hF2⟩
        have HD2 := Lib.hid hD2
        have HF2 := Lib.hid ((HF.out.below_trans HB1.out).same hF2)
        clear hD2 hF2
        go_wp2
        go_roundw
        case rel =>
          obtain ⟨n1, n2, n3, n4, n5, n6, n7⟩ := HNX.out
          exact ⟨f, K, Y, _, congrArg (Value.int .i64) (by have := HOR.out; simpa using this), by rw [← HK.out]; rfl, n1, n2, n3, n4, n5, n6, n7, HD2.out, HF2.out⟩
        case measure => simp [intOf]
    · have e0 : n - h = 0 := by omega
      have HQ := Lib.hid (show y = x ∧ z = (decB (byteF s) 3 n d).2 by have := HZ.out; rw [e0, decB_zero] at this; exact ⟨by simpa using this.1, this.2⟩)
      clear e0
      go_wp2
      go_ret2
      exact ⟨by rw [HQ.out.1]; rfl, by rw [← HQ.out.2]; exact HD.out, HF.out⟩
end Go.Proofs.YtfohinlldchdpaaGreatDoor.Rg
end

section
/- The cells of a number's bits: mathematics. -/
set_option maxRecDepth 100000
set_option linter.unusedVariables false
namespace Go.Proofs.YtfohinlldchdpaaGreatDoor.Rg
open Go.RowKit Go.Proofs.YtfohinlldchdpaaGreatDoor.Row

/-- A number's cells: k times eight bits at most. -/
def bitsC : Nat → Nat → Nat → List Cl
  | 0, _, _ => []
  | k + 1, x, n => if n = 0 then [] else ⟨x % 2 ^ min n 8, 1, 2 ^ min n 8⟩ :: bitsC k (x / 2 ^ min n 8) (n - min n 8)

theorem bitCl_ok (x n : Nat) : (Cl.mk (x % 2 ^ min n 8) 1 (2 ^ min n 8)).ok := by
  have h := pow8 n
  have := Nat.mod_lt x (show 2 ^ min n 8 > 0 by omega)
  exact ⟨h.1, by show 2 ^ min n 8 ≤ 32768; omega, Nat.le_refl _, by show x % 2 ^ min n 8 + 1 ≤ 2 ^ min n 8; omega⟩

theorem bitsC_ok : ∀ (k x n : Nat), ∀ C ∈ bitsC k x n, C.ok
  | 0, _, _, C, h => by cases h
  | k + 1, x, n, C, h => by
    unfold bitsC at h
    split at h
    · cases h
    · rcases List.mem_cons.1 h with rfl | h
      · exact bitCl_ok x n
      · exact bitsC_ok k _ _ C h

theorem bitsC_zero (k x : Nat) : bitsC k x 0 = [] := by cases k <;> rfl

theorem bitsC_len : ∀ (k x n : Nat), (bitsC k x n).length ≤ k
  | 0, _, _ => Nat.le_refl _
  | k + 1, x, n => by
    unfold bitsC
    split
    · exact Nat.zero_le _
    · have := bitsC_len k (x / 2 ^ min n 8) (n - min n 8)
      simp; omega
end Go.Proofs.YtfohinlldchdpaaGreatDoor.Rg
end

section
/- How many bytes a coder needs: its range hardly falls short of its share. Mathematics. -/
set_option maxRecDepth 100000
set_option linter.unusedVariables false
namespace Go.Proofs.YtfohinlldchdpaaGreatDoor.Rg
open Go.RowKit Go.Proofs.YtfohinlldchdpaaGreatDoor.Row

/-- K bits used at most, but for c parts of 65536. -/
def Fit (x : St) (c K : Nat) : Prop := 4294967296 * 256 ^ x.g * (65536 - c) ≤ x.r * 2 ^ K * 65536
theorem fit_new : Fit St.new 0 1 := by unfold Fit St.new; dsimp only; omega
theorem two_parts {c e : Nat} (h : c + e ≤ 65536) : (65536 - (c + e)) * 65536 ≤ (65536 - c) * (65536 - e) := by
  rw [Nat.mul_sub (65536 - c) 65536 e]
  have h1 : (65536 - c) * e ≤ 65536 * e := Nat.mul_le_mul_right _ (by omega)
  generalize (65536 - c) * e = w at *
  omega
theorem fit_put {x : St} {C : Cl} {c K e j : Nat} (hx : x.ok) (hC : C.ok) (h : Fit x c K) (hj : C.t ≤ C.w * 2 ^ j) (he : C.t * 65536 ≤ e * x.r) (hc : c + e ≤ 65536) : Fit (x.put C) (c + e) (K + j) := by
  obtain ⟨b1, b2, b3, b4⟩ := step_bd hx hC
  obtain ⟨t1, t2, w1, e0⟩ := hC
  unfold Fit at *
  show 4294967296 * 256 ^ (x.g + sh (x.r / C.t * C.w)) * (65536 - (c + e)) ≤ x.r / C.t * C.w * 256 ^ sh (x.r / C.t * C.w) * 2 ^ (K + j) * 65536
  generalize sh (x.r / C.t * C.w) = s
  -- the range's share
  have hr : x.r * (65536 - e) ≤ x.r / C.t * (C.w * 2 ^ j) * 65536 := by
    have h1 : x.r < (x.r / C.t + 1) * C.t := by
      have := Nat.lt_mul_div_succ x.r (show 0 < C.t by omega)
      rwa [Nat.mul_comm] at this
    have h2 : x.r / C.t * C.t ≤ x.r / C.t * (C.w * 2 ^ j) := Nat.mul_le_mul_left _ hj
    have h3 : (x.r / C.t + 1) * C.t = x.r / C.t * C.t + C.t := by rw [Nat.add_mul, Nat.one_mul]
    have h4 : x.r * (65536 - e) = x.r * 65536 - x.r * e := Nat.mul_sub _ _ _
    have h5 : x.r * e = e * x.r := Nat.mul_comm _ _
    generalize x.r / C.t * C.t = q at *
    generalize x.r / C.t * (C.w * 2 ^ j) = p at *
    generalize x.r * (65536 - e) = y at *
    generalize x.r * e = z at *
    omega
  have hm := two_parts hc
  refine Nat.le_of_mul_le_mul_right (c := 65536) ?_ (by omega)
  calc 4294967296 * 256 ^ (x.g + s) * (65536 - (c + e)) * 65536
      = 4294967296 * 256 ^ x.g * 256 ^ s * ((65536 - (c + e)) * 65536) := by rw [Nat.pow_add]; ac_rfl
    _ ≤ 4294967296 * 256 ^ x.g * 256 ^ s * ((65536 - c) * (65536 - e)) := Nat.mul_le_mul_left _ hm
    _ = 4294967296 * 256 ^ x.g * (65536 - c) * (256 ^ s * (65536 - e)) := by ac_rfl
    _ ≤ x.r * 2 ^ K * 65536 * (256 ^ s * (65536 - e)) := Nat.mul_le_mul_right _ h
    _ = x.r * (65536 - e) * (2 ^ K * 65536 * 256 ^ s) := by ac_rfl
    _ ≤ x.r / C.t * (C.w * 2 ^ j) * 65536 * (2 ^ K * 65536 * 256 ^ s) := Nat.mul_le_mul_right _ hr
    _ = x.r / C.t * C.w * 256 ^ s * 2 ^ (K + j) * 65536 * 65536 := by rw [Nat.pow_add]; ac_rfl
theorem fit_fits {x : St} {c K : Nat} (h : Fit x c K) (hc : c ≤ 32768) : Lp.Fits x (K + 1) := by
  unfold Fit at h
  unfold Lp.Fits
  have h1 : 4294967296 * 256 ^ x.g * 32768 ≤ 4294967296 * 256 ^ x.g * (65536 - c) := Nat.mul_le_mul_left _ (by omega)
  have h2 : x.r * 2 ^ (K + 1) = x.r * 2 ^ K * 2 := by rw [Nat.pow_succ, Nat.mul_assoc]
  rw [h2]
  generalize 4294967296 * 256 ^ x.g * (65536 - c) = p at *
  generalize x.r * 2 ^ K = q at *
  generalize 4294967296 * 256 ^ x.g = z at *
  omega
theorem fit_used {x : St} {c K : Nat} (hx : x.ok) (h : Fit x c K) (hc : c ≤ 32768) : x.used ≤ K := by
  have := Lp.fits_used hx (fit_fits h hc)
  omega
/-- What is used bounds what may be needed. -/
theorem fit_of {x : St} {u : Nat} (hx : x.ok) (hu : x.used = u) : Fit x 0 (u + 1) := by
  have hr := hx.2.1
  have hr0 := hx.1
  obtain ⟨h3, h5⟩ := (bl_spec 64 x.r (Nat.le_refl _) (by omega)).2.2 (by omega)
  unfold St.used at hu
  unfold Fit
  have e : 32 + 8 * x.g = u + Lib.bitLen x.r := by omega
  have h1 : 4294967296 * 256 ^ x.g = 2 ^ (32 + 8 * x.g) := by rw [Nat.pow_add, pow256]
  rw [h1, e, Nat.pow_add, Nat.pow_succ]
  have h2 : 2 ^ Lib.bitLen x.r ≤ 2 * x.r := by
    obtain ⟨k, hk⟩ : ∃ k, Lib.bitLen x.r = k + 1 := ⟨Lib.bitLen x.r - 1, by omega⟩
    rw [hk] at h5 ⊢
    rw [Nat.pow_succ]
    simp only [Nat.add_sub_cancel] at h5
    omega
  have h6 : 2 ^ u * 2 ^ Lib.bitLen x.r ≤ 2 ^ u * (2 * x.r) := Nat.mul_le_mul_left _ h2
  have h7 : 2 ^ u * (2 * x.r) = x.r * (2 ^ u * 2) := by ac_rfl
  omega
theorem fit_bits : ∀ (k X n : Nat) {x : St} {c K : Nat}, x.ok → Fit x c K → n ≤ 8 * k → c + k ≤ 65536 → Fit (x.run (bitsC k X n)) (c + k) (K + n)
  | 0, X, n, x, c, K, hx, h, hn, hc => by
    obtain rfl : n = 0 := by omega
    exact h
  | k + 1, X, n, x, c, K, hx, h, hn, hc => by
    by_cases h0 : n = 0
    · subst h0
      rw [bitsC_zero]
      unfold Fit at *
      have : 4294967296 * 256 ^ x.g * (65536 - (c + (k + 1))) ≤ 4294967296 * 256 ^ x.g * (65536 - c) := Nat.mul_le_mul_left _ (by omega)
      exact Nat.le_trans this h
    · have hC := bitCl_ok X n
      rw [bitsC, if_neg h0]
      have hp := pow8 n
      have h1 : Fit (x.put ⟨X % 2 ^ min n 8, 1, 2 ^ min n 8⟩) (c + 1) (K + min n 8) := by
        refine fit_put hx hC h (by dsimp only; omega) ?_ (by omega)
        dsimp only
        have := hx.1
        have h2 : 2 ^ min n 8 * 65536 ≤ 256 * 65536 := Nat.mul_le_mul_right _ hp.2
        omega
      have h2 := fit_bits k (X / 2 ^ min n 8) (n - min n 8) (put_ok hx hC) h1 (by omega) (by omega)
      rw [show c + 1 + k = c + (k + 1) by omega, show K + min n 8 + (n - min n 8) = K + n by omega] at h2
      exact h2
end Go.Proofs.YtfohinlldchdpaaGreatDoor.Rg
end

section
/- Plain mathematics of a range coder: a decoder in step with a coder. -/
set_option maxRecDepth 100000
set_option linter.unusedVariables false
namespace Go.Proofs.YtfohinlldchdpaaGreatDoor.Rg
open Go.RowKit Go.Proofs.YtfohinlldchdpaaGreatDoor.Row

theorem run_take {L : List Cl} (hL : ∀ C ∈ L, C.ok) (k : Nat) : (St.new.run (L.take k)).ok ∧ (St.new.run (L.take k)).g ≤ 2 * k := by
  have h : ∀ C ∈ L.take k, C.ok := fun C hC => hL C (List.mem_of_mem_take hC)
  refine ⟨run_ok new_ok h, ?_⟩
  have h1 := run_g_le (x := St.new) new_ok h
  have h2 : (L.take k).length ≤ k := List.length_take_le _ _
  have h3 : St.new.g = 0 := rfl
  omega

/-- The decoder of the number N of 4 + G bytes where the coder is x. -/
def dtOf (N G : Nat) (x : St) : Dt := ⟨code N G x, x.r, x.g⟩

theorem feed_nextC {N G : Nat} : ∀ (k i c q : Nat), c < q → q * 256 ^ k ≤ 4294967295 → feed (digit N G) i k c = nextC N G i k c
  | 0, _, _, _, _, _ => rfl
  | k + 1, i, c, q, hc, hq => by
    have hp : 1 ≤ 256 ^ k := Nat.pow_pos (by omega)
    have hq2 : q * 256 * 256 ^ k ≤ 4294967295 := by rw [Nat.mul_assoc, ← Nat.pow_succ']; exact hq
    have hq3 : q * 256 ≤ q * 256 * 256 ^ k := Nat.le_mul_of_pos_right _ (by omega)
    have hd := digit_lt N G i
    rw [feed, nextC, Nat.mod_eq_of_lt (by omega)]
    exact feed_nextC k (i + 1) _ (q * 256) (by omega) hq2

theorem dt_first {N G : Nat} (h : N < 4294967296 * 256 ^ G) : Dt.new (digit N G) = dtOf N G St.new := by
  have d0 := digit_lt N G 0
  have d1 := digit_lt N G 1
  have d2 := digit_lt N G 2
  have d3 := digit_lt N G 3
  unfold Dt.new dtOf
  have e : feed (digit N G) 0 4 0 = code N G St.new := by
    unfold code
    rw [show St.new.g = 0 from rfl, show St.new.L = 0 from rfl, Nat.sub_zero, Nat.sub_zero, code_first N G h]
    simp only [feed, Nat.zero_add, Nat.reduceAdd]
    omega
  rw [e]
  rfl

theorem in_step {N G : Nat} {x : St} {C : Cl} (hx : x.ok) (hC : C.ok) (h : In N G (x.put C)) :
    C.s ≤ (dtOf N G x).place C.t ∧ (dtOf N G x).place C.t < C.s + C.w ∧ (dtOf N G x).take (digit N G) C = dtOf N G (x.put C) := by
  obtain ⟨b1, b2, b3, b4⟩ := step_bd hx hC
  obtain ⟨p1, p2, p3⟩ := place_in hx hC h
  obtain ⟨q1, q2⟩ := sh_spec b3 b4
  have hp := place_of (by omega) p1 p2 hC.2.2.2
  have hcl : code N G x < x.r := by
    rw [Nat.mul_add] at p2
    omega
  refine ⟨hp.1, hp.2, ?_⟩
  unfold Dt.take dtOf
  dsimp only
  have e1 : (code N G x + 4294967296 - x.r / C.t * C.s) % 4294967296 = code N G x - x.r / C.t * C.s := by
    have := hx.2.1
    omega
  have e2 : feed (digit N G) (4 + x.g) (sh (x.r / C.t * C.w)) (code N G x - x.r / C.t * C.s) = code N G (x.put C) := by
    rw [feed_nextC _ _ _ (x.r / C.t * C.w) (by rw [Nat.mul_add] at p2; omega) q2]
    exact take_code hx hC h
  rw [e1, e2]
  rfl

theorem dtOf_used (N G : Nat) (x : St) : (dtOf N G x).used = x.used := rfl

/-- Where a coder has put all of L, it lies in the cells of the first ones. -/
theorem in_take {L : List Cl} (hL : ∀ C ∈ L, C.ok) (k : Nat) : In (St.new.run L).L (St.new.run L).g (St.new.run (L.take k)) := by
  have h := in_of (l := L.drop k) (x := St.new.run (L.take k)) (run_take hL k).1 fun C hC => hL C (List.mem_of_mem_drop hC)
  rw [← run_append, List.take_append_drop] at h
  exact h

theorem text_digit (x : St) (size : Nat) : byteF (x.text size) = digit x.L x.g := by
  funext i
  exact text_byte x size i
end Go.Proofs.YtfohinlldchdpaaGreatDoor.Rg
end

section
/- Numbers that are put in bits are met again: mathematics. -/
set_option maxRecDepth 100000
set_option linter.unusedVariables false
namespace Go.Proofs.YtfohinlldchdpaaGreatDoor.Rg
open Go.RowKit Go.Proofs.YtfohinlldchdpaaGreatDoor.Row

theorem in_back {N G : Nat} {x : St} {C : Cl} (hx : x.ok) (hC : C.ok) (h : In N G (x.put C)) : In N G x := by
  obtain ⟨p1, p2, p3⟩ := place_in hx hC h
  obtain ⟨b1, b2, b3, b4⟩ := step_bd hx hC
  have hg : (x.put C).g = x.g + sh (x.r / C.t * C.w) := rfl
  have h1 := h.1
  refine ⟨by omega, p3, ?_⟩
  unfold code at p2
  rw [Nat.mul_add] at p2
  omega

theorem in_run {N G : Nat} : ∀ {l : List Cl} {x : St}, x.ok → (∀ C ∈ l, C.ok) → In N G (x.run l) → In N G x
  | [], _, _, _, h => h
  | C :: l, x, hx, hl, h => in_back hx (hl C (by simp)) (in_run (l := l) (x := x.put C) (put_ok hx (hl C (by simp))) (fun D hD => hl D (by simp [hD])) h)

end Go.Proofs.YtfohinlldchdpaaGreatDoor.Rg
end
