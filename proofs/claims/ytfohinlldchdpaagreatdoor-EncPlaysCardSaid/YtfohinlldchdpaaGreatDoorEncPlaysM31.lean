/- Texts of the walk, one behind the other. -/
import Derived.Test.YtfohinlldchdpaaGreatDoorEncPlaysM18
import Derived.Test.YtfohinlldchdpaaGreatDoorEncPlaysM30
import Derived.Test.YtfohinlldchdpaaGreatDoorEncPlaysM1

section
/- Coders and decoders in a world that goes on, apart from what else it has: what needs no more than Put, At and Take. -/
set_option maxRecDepth 100000
set_option linter.unusedVariables false
namespace Go.Proofs.YtfohinlldchdpaaGreatDoor.Rg
open Go.RowKit Go.Proofs.YtfohinlldchdpaaGreatDoor.Row

/-- A coder of other bytes, in the same blocks or new ones, nothing else changed. -/
def EncGo (w : World) (b : Nat) (T : Nat → Prop) (size : Nat) (y : St) (w' : World) : Prop := ∃ T', EncIs w' b T' size y ∧ Fr T w w' ∧ ∀ k, T' k → T k ∨ w.heap.size ≤ k

theorem PutS.go {w w' : World} {b : Nat} {T : Nat → Prop} {size : Nat} {y : St} (h : PutS w b T size y.r y.g y w') : EncGo w b T size y w' := by
  obtain ⟨T', low, bs, rest, h1, h2, h3, h4⟩ := h
  exact ⟨T', ⟨low, bs, rest, h1, h2⟩, h3, h4⟩

theorem EncGo.start {w : World} {b : Nat} {T : Nat → Prop} {size : Nat} {y : St} (h : EncIs w b T size y) : EncGo w b T size y w := ⟨T, h, Fr.refl _ _, fun _ h => .inl h⟩

theorem EncGo.next {w w1 w2 : World} {b : Nat} {T T1 : Nat → Prop} {size : Nat} {y : St} (hF : Fr T w w1) (hT : ∀ k, T1 k → T k ∨ w.heap.size ≤ k) (h : EncGo w1 b T1 size y w2) : EncGo w b T size y w2 := by
  obtain ⟨T2, h1, h2, h3⟩ := h
  refine ⟨T2, h1, hF.trans h2 fun i hi hu => (hT i hu).elim id fun h => absurd h (by omega), fun k hk => ?_⟩
  rcases h3 k hk with h3 | h3
  · exact hT k h3
  · exact .inr (Nat.le_trans hF.size h3)

theorem put_at (w : World) (b : Nat) (T : Nat → Prop) (size : Nat) (x : St) (C : Cl) (s v t : Int) (h : EncIs w b T size x) (hx : x.ok) (hC : C.ok) (hs : (C.s : Int) = s) (hv : (C.w : Int) = v) (ht : (C.t : Int) = t) (hsz : size ≤ 4096) (hg : x.g ≤ 100000) :
    Calls Tryz.prog 115 #[.pointer (some ⟨b, 0, none⟩), .int .i64 s, .int .i64 v, .int .i64 t] w fun e w' => e = .returned (.int .i64 0) ∧ EncGo w b T size (x.put C) w' := by
  subst hs hv ht
  exact (put_as w b T size x C.s C.w C.t h hx hC hsz hg).mono fun e w' ⟨he, hp⟩ => ⟨he, hp.go⟩

theorem EncIs.fr {w w' : World} {b size : Nat} {T U : Nat → Prop} {x : St} (h : EncIs w b T size x) (hF : Fr U w w') (hU : ∀ k, T k → ¬ U k) : EncIs w' b T size x := by
  obtain ⟨low, bs, rest, ⟨h1, a, c, hA, hO, hK⟩, hR⟩ := h
  exact ⟨low, bs, rest, ⟨h1, a, c, hA.fr hF (hU b h1), hF.owns hO fun k hk => hU k (hK k hk).1, hK⟩, hR⟩

theorem EncIs.below {w w' : World} {b size : Nat} {T : Nat → Prop} {x : St} (h : EncIs w b T size x) (hB : Below w.heap.size w w') : EncIs w' b T size x := h.fr (U := fun _ => False) (.of_below hB) fun _ _ h => h

theorem EncIs.self {w : World} {b size : Nat} {T : Nat → Prop} {x : St} (h : EncIs w b T size x) : T b := by
  obtain ⟨_, _, _, h, _⟩ := h
  exact h.1

/-- A coder stands in a world where all that stood in w stands. -/
def EncOn (w : World) (b : Nat) (size : Nat) (x : St) (w' : World) : Prop := ∃ T, EncIs w' b T size x ∧ (∀ k, T k → w.heap.size ≤ k) ∧ Below w.heap.size w w'

theorem EncOn.new {w : World} {size : Nat} {e : Ending} {w' : World} (h : RetEnc w size e w') : ∃ b, e = .returned (.tuple #[.pointer (some ⟨b, 0, none⟩), .int .i64 0]) ∧ EncOn w b size St.new w' := by
  obtain ⟨b, he, hb, h1, h2⟩ := h
  exact ⟨b, he, Just b, h1, fun k hk => by rw [show k = b from hk]; exact hb, h2⟩

theorem EncOn.go {w w1 w2 : World} {b size : Nat} {x y : St} {T : Nat → Prop} (hT : ∀ k, T k → w.heap.size ≤ k) (hB : Below w.heap.size w w1) (h : EncGo w1 b T size y w2) : EncOn w b size y w2 := by
  obtain ⟨T', h1, h2, h3⟩ := h
  refine ⟨T', h1, fun k hk => (h3 k hk).elim (hT k) fun h => Nat.le_trans hB.size h, hB.trans (h2.below hB.size hT)⟩

theorem EncOn.below {w w1 w2 : World} {b size : Nat} {x : St} (h : EncOn w b size x w1) (hB : Below w1.heap.size w1 w2) : EncOn w b size x w2 := by
  obtain ⟨T, h1, h2, h3⟩ := h
  exact ⟨T, h1.below hB, h2, below_trans h3 hB h3.size⟩

theorem EncOn.from {w0 w w1 : World} {b size : Nat} {x : St} (h0 : Below w0.heap.size w0 w) (h : EncOn w b size x w1) : EncOn w0 b size x w1 := by
  obtain ⟨T, h1, h2, h3⟩ := h
  exact ⟨T, h1, fun k hk => Nat.le_trans h0.size (h2 k hk), below_trans h0 h3 h0.size⟩

/-- A's blocks stand as they were. -/
def Keeps (A : Nat → Prop) (w w' : World) : Prop := ∀ k, A k → w'.heap[k]? = w.heap[k]?

theorem Keeps.refl (A : Nat → Prop) (w : World) : Keeps A w w := fun _ _ => rfl

theorem Keeps.trans {A : Nat → Prop} {w w1 w2 : World} (h : Keeps A w w1) (k : Keeps A w1 w2) : Keeps A w w2 := fun i hi => (k i hi).trans (h i hi)

theorem Keeps.cell {A : Nat → Prop} {w w' : World} (h : Keeps A w w') {p : Addr} {v : Value} (hp : A p.block) (hc : w.cell? p = some v) : w'.cell? p = some v := (World.cell?_of_block (w := w) (h _ hp)).trans hc

theorem Keeps.mono {A C : Nat → Prop} {w w' : World} (h : Keeps A w w') (hC : ∀ k, C k → A k) : Keeps C w w' := fun k hk => h k (hC k hk)

/-- A coder of a law that began in w, apart from A's blocks. -/
def EncOff (w : World) (b size : Nat) (x : St) (A : Nat → Prop) (w' : World) : Prop :=
  ∃ T, EncIs w' b T size x ∧ (∀ k, T k → w.heap.size ≤ k ∧ k < w'.heap.size ∧ ¬ A k) ∧ Below w.heap.size w w' ∧ ∀ k, A k → k < w'.heap.size

theorem EncIs.tight {w : World} {b size : Nat} {T : Nat → Prop} {x : St} (h : EncIs w b T size x) : ∃ T0, EncIs w b T0 size x ∧ ∀ k, T0 k → T k ∧ k < w.heap.size := by
  obtain ⟨low, bs, rest, ⟨h1, a, c, hA, hO, hK⟩, hR⟩ := h
  refine ⟨fun k => k = b ∨ (Value.slice a bs.length c).ownBlock = some k, ⟨low, bs, rest, ⟨.inl rfl, a, c, hA, hO, fun k hk => ⟨.inr hk, (hK k hk).2⟩⟩, hR⟩, fun k hk => ?_⟩
  rcases hk with rfl | hk
  · exact ⟨h1, hA.lt⟩
  · refine ⟨(hK k hk).1, ?_⟩
    rcases hO.2 with ⟨h3, _⟩ | ⟨g3, _, _, h3, _, h4, _⟩
    · rw [h3] at hk; cases hk
    · rw [h3] at hk
      simp only [Value.ownBlock, Option.some.injEq] at hk
      subst hk
      exact (Array.getElem?_eq_some_iff.1 h4).1

theorem EncOff.of {w : World} {b size : Nat} {x : St} {w' : World} (h : EncOn w b size x w') (A : Nat → Prop) (hA : ∀ k, A k → k < w.heap.size) : EncOff w b size x A w' := by
  obtain ⟨T, h1, h2, h3⟩ := h
  obtain ⟨T0, h4, h5⟩ := h1.tight
  exact ⟨T0, h4, fun k hk => ⟨h2 k (h5 k hk).1, (h5 k hk).2, fun ha => by have := hA k ha; have := h2 k (h5 k hk).1; omega⟩, h3, fun k hk => Nat.lt_of_lt_of_le (hA k hk) h3.size⟩

theorem EncOff.go {w w1 w2 : World} {b size : Nat} {y : St} {T A : Nat → Prop} (hT : ∀ k, T k → w.heap.size ≤ k ∧ k < w1.heap.size ∧ ¬ A k) (hB : Below w.heap.size w w1) (hA : ∀ k, A k → k < w1.heap.size) (h : EncGo w1 b T size y w2) : EncOff w b size y A w2 ∧ Keeps A w1 w2 := by
  obtain ⟨T', h1, h2, h3⟩ := h
  obtain ⟨T0, h4, h5⟩ := h1.tight
  refine ⟨⟨T0, h4, fun k hk => ?_, hB.trans (h2.below hB.size fun k hk => (hT k hk).1), fun k hk => Nat.lt_of_lt_of_le (hA k hk) h2.size⟩, fun k hk => h2.block k (hA k hk) fun ht => (hT k ht).2.2 hk⟩
  obtain ⟨h6, h7⟩ := h5 k hk
  rcases h3 k h6 with h8 | h8
  · exact ⟨(hT k h8).1, h7, (hT k h8).2.2⟩
  · exact ⟨Nat.le_trans hB.size h8, h7, fun ha => by have := hA k ha; omega⟩

theorem EncOff.below {w w1 w2 : World} {b size : Nat} {x : St} {A : Nat → Prop} (h : EncOff w b size x A w1) (hB : Below w1.heap.size w1 w2) : EncOff w b size x A w2 := by
  obtain ⟨T, h1, h2, h3, h4⟩ := h
  exact ⟨T, h1.below hB, fun k hk => ⟨(h2 k hk).1, Nat.lt_of_lt_of_le (h2 k hk).2.1 hB.size, (h2 k hk).2.2⟩, below_trans h3 hB h3.size, fun k hk => Nat.lt_of_lt_of_le (h4 k hk) hB.size⟩

theorem EncOff.out {w w1 : World} {b size : Nat} {x : St} {A : Nat → Prop} (h : EncOff w b size x A w1) : Below w.heap.size w w1 := by
  obtain ⟨T, h1, h2, h3, h4⟩ := h
  exact h3

/-- New blocks are the coder's none. -/
theorem EncOff.add {w w1 w2 : World} {b size : Nat} {x : St} {A C : Nat → Prop} (h : EncOff w b size x A w1) (hF : Below w1.heap.size w1 w2) (hC : ∀ k, C k → A k ∨ (w1.heap.size ≤ k ∧ k < w2.heap.size)) : EncOff w b size x C w2 := by
  obtain ⟨T, h1, h2, h3, h4⟩ := h
  refine ⟨T, h1.below hF, fun k hk => ⟨(h2 k hk).1, Nat.lt_of_lt_of_le (h2 k hk).2.1 hF.size, fun hc => ?_⟩, below_trans h3 hF h3.size, fun k hk => ?_⟩
  · rcases hC k hc with h5 | h5
    · exact (h2 k hk).2.2 h5
    · have := (h2 k hk).2.1; omega
  · rcases hC k hk with h5 | h5
    · exact Nat.lt_of_lt_of_le (h4 k h5) hF.size
    · exact h5.2

theorem EncOff.grown {w w1 w2 : World} {b size : Nat} {x : St} {A C : Nat → Prop} {row : Option Nat} (h : EncOff w b size x A w1) (hg : w1.grownBy w2 row) (hr : ∀ k, row = some k → A k ∧ w.heap.size ≤ k)
    (hC : ∀ k, C k → A k ∨ (w1.heap.size ≤ k ∧ k < w2.heap.size)) : EncOff w b size x C w2 := by
  obtain ⟨T, h1, h2, h3, h4⟩ := h
  have hF : Fr (fun k => row = some k) w1 w2 := (Fr.refl _ _).grown hg fun k hk => .inl hk
  refine ⟨T, h1.fr hF fun k hk hr' => (h2 k hk).2.2 (hr k hr').1, fun k hk => ⟨(h2 k hk).1, Nat.lt_of_lt_of_le (h2 k hk).2.1 hF.size, fun hc => ?_⟩, h3.grown hg h3.size fun k hk => (hr k hk).2, fun k hk => ?_⟩
  · rcases hC k hc with h5 | h5
    · exact (h2 k hk).2.2 h5
    · have := (h2 k hk).2.1; omega
  · rcases hC k hk with h5 | h5
    · exact Nat.lt_of_lt_of_le (h4 k h5) hF.size
    · exact h5.2
end Go.Proofs.YtfohinlldchdpaaGreatDoor.Rg
end

section
/- Contracts of rang's Bits (of a coder, of a decoder). -/
set_option maxRecDepth 100000
set_option linter.unusedVariables false
namespace Go.Proofs.YtfohinlldchdpaaGreatDoor.Rg
open Go.RowKit Go.Proofs.YtfohinlldchdpaaGreatDoor.Row

set_option maxHeartbeats 2000000 in
theorem encBits_as (w : World) (b : Nat) (T : Nat → Prop) (size : Nat) (y : St) (x n : Nat) (h : EncIs w b T size y) (hy : y.ok) (hsz : size ≤ 4096) (hg : y.g ≤ 90000) (hn : n ≤ 24) (hx : x < 2 ^ n) :
    Calls Tryz.prog 122 #[.pointer (some ⟨b, 0, none⟩), .int .i64 x, .int .i64 n] w fun e w' => e = .returned (.int .i64 0) ∧ EncGo w b T size (y.run (bitsC 3 x n)) w' := by
  have G0 := Lib.hid (EncGo.start h)
  obtain ⟨P, hP⟩ : ∃ P : Int, (2 : Int) ^ n = P := ⟨_, rfl⟩
  have hxP : (x : Int) < P := by rw [← hP]; exact_mod_cast hx
  have hPb : P ≤ 16777216 := by
    have := (Ref01.pow_bd hn).2
    rw [hP] at this
    simpa using this
  have H24 := Lib.hid (show x < 2 ^ n from hx)
  clear h hx
  go_enter Tryz.func122, Tryz.ntmps122
  go_wp2_with (go_at_call 136; (with_reducible refine (isCount_yes n _ (by omega) (by omega)).mono ?_); rintro e w' ⟨rfl, rfl⟩)
  go_loopw [1, 2] (fun a c w' => ∃ (f x' n' : Nat) (z : St), a = .int .i64 x' ∧ c = .int .i64 n' ∧ n' ≤ 8 * f ∧ n' ≤ 24 ∧ x' < 2 ^ 24 ∧ z.ok ∧ z.g + 2 * f ≤ 100000 ∧ f ≤ 3 ∧ Hid (z.run (bitsC f x' n') = y.run (bitsC 3 x n)) ∧ EncGo w b T size z w') (fun _ c _ => (intOf c).toNat)
  case atStart => exact ⟨3, x, n, y, rfl, rfl, by omega, hn, by omega, hy, by omega, by omega, Lib.hid rfl, G0.out⟩
  case round =>
    obtain ⟨f, x', n', z, rfl, rfl, hnf, hn24, hx24, hz, hzg, hf3, HZ, hgo⟩ := hrel
    have HG := Lib.hid hgo
    clear hgo G0 hxP hPb hP hy hg hn
    by_cases h0 : 0 < n'
    · obtain ⟨f, rfl⟩ : ∃ f', f = f' + 1 := ⟨f - 1, by omega⟩
      have HB := Lib.hid (show bitsC (f + 1) x' n' = ⟨x' % 2 ^ min n' 8, 1, 2 ^ min n' 8⟩ :: bitsC f (x' / 2 ^ min n' 8) (n' - min n' 8) by rw [bitsC, if_neg (by omega)])
      have HC := Lib.hid (bitCl_ok x' n')
      obtain ⟨q1, q2⟩ := pow8 n'
      have hdiv := Nat.div_le_self x' (2 ^ min n' 8)
      have hmod := Nat.mod_lt x' (show 2 ^ min n' 8 > 0 by omega)
      obtain ⟨m, hm⟩ : ∃ m, min n' 8 = m := ⟨_, rfl⟩
      have hmin : ∀ W, (Builtin.min_ #[3, 3] 3 #[.int .i64 n', .int .i64 8]).run Tryz.prog W = .ok (.int .i64 m) W := fun W => by
        rw [← hm]
        simp [Builtin.min_, Builtin.min2]
        split <;> omega
      have hm8 : m ≤ 8 := by omega
      have hm1 : 1 ≤ m := by omega
      have hmn : m ≤ n' := by omega
      have hnm : n' - m ≤ 8 * f := by omega
      rw [hm] at HB HC q1 q2 hdiv hmod
      obtain ⟨P, hP⟩ : ∃ P : Int, (2 : Int) ^ m = P := ⟨_, rfl⟩
      have hPn : ((2 ^ m : Nat) : Int) = P := by rw [← hP]; exact Int.natCast_pow 2 m
      have P1 : 1 ≤ P := by omega
      have P0 : ¬ P = 0 := by omega
      have hwp : IntKind.i64.wrap P = P := IntWalk.i64_in _ (by omega)
      have P00 : (P == 0) = false := by rw [beq_eq_false_iff_ne]; exact P0
      have hrem : (x' : Int).tmod P = (x' : Int) % P := Int.tmod_eq_emod_of_nonneg (by omega)
      have P2 : P ≤ 256 := by omega
      have HE1 := Lib.hid (show ((x' % 2 ^ m : Nat) : Int) = (x' : Int) % P by rw [← hPn]; exact Int.natCast_emod _ _)
      have HE2 := Lib.hid (show ((x' / 2 ^ m : Nat) : Int) = (x' : Int) / P by rw [← hPn]; exact Int.natCast_ediv _ _)
      have HPn := Lib.hid hPn
      have HD := Lib.hid (show x' / 2 ^ m < 2 ^ 24 by omega)
      obtain ⟨T1, hE, hF, hT⟩ := HG.out
      have HE := Lib.hid hE
      have HF := Lib.hid hF
      have HT := Lib.hid hT
      have HZ1 := Lib.hid (put_ok hz HC.out)
      have HZG := Lib.hid (put_g hz HC.out)
      have hx63 : (x' : Int) ≤ 16777216 := by omega
      clear hm hPn hE hF hT hdiv hmod q1 q2
      go_wp2_with fail
      go_region_with ((go_at_call 115; refine (put_at _ b T1 size z ⟨x' % 2 ^ m, 1, 2 ^ m⟩ _ _ _ (by exact HE.out) hz HC.out HE1.out rfl HPn.out hsz (by omega)).mono ?_; rintro e w1 ⟨rfl, hg1⟩; have HG1 := Lib.hid hg1; clear hg1))
      have HG2 := Lib.hid (show EncGo w b T size (z.put ⟨x' % 2 ^ m, 1, 2 ^ m⟩) w1 from EncGo.next (HF.out.drew) HT.out HG1.out)
      clear hwp hrem P00 P0
      go_wp2
      go_roundw
      case rel =>
        refine ⟨f, x' / 2 ^ m, n' - m, z.put ⟨x' % 2 ^ m, 1, 2 ^ m⟩, by rw [HE2.out], by rw [Int.natCast_sub hmn], by omega, by omega, HD.out, HZ1.out, by have := HZG.out; omega, by omega, ?_, HG2.out⟩
        exact Lib.hid (by rw [← HZ.out, HB.out]; rfl)
      case measure => simp [intOf]; omega
    · obtain rfl : n' = 0 := by omega
      have HQ := Lib.hid (show z = y.run (bitsC 3 x n) by rw [← HZ.out, bitsC_zero]; rfl)
      go_wp2
      go_ret
      exact ⟨rfl, by rw [← HQ.out]; exact HG.out⟩
end Go.Proofs.YtfohinlldchdpaaGreatDoor.Rg
end
