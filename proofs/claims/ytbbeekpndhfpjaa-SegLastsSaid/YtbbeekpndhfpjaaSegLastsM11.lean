/- Texts of the walk, one behind the other. -/
import Derived.Test.YtbbeekpndhfpjaaSegLastsM10
import Derived.Test.YtbbeekpndhfpjaaSegLastsM7
import Derived.Laws.BitsLemmas

section
/- The program's disk beside a caller's own blocks (G), in a world that goes on from w0. -/
set_option maxRecDepth 100000
set_option linter.unusedVariables false
set_option linter.unusedSimpArgs false
namespace Go.Proofs.Ytbbeekpndhfpjaa.Dk
open Go.RowKit Go.Proofs.Ytbbeekpndhfpjaa.Row

theorem i64_and7 (n : Int) : bits .and .i64 n 7 = n % 8 := by
  have h7 : (BitVec.ofInt 64 7).toNat = 2 ^ 3 - 1 := by decide
  have key : (BitVec.ofInt 64 n &&& BitVec.ofInt 64 7).toNat = (n % ((2 ^ 64 : Nat) : Int)).toNat % 2 ^ 3 := by
    rw [BitVec.toNat_and, BitVec.toNat_ofInt, h7, Nat.and_two_pow_sub_one_eq_mod]
  show IntKind.i64.wrap ((BitVec.ofInt 64 n &&& BitVec.ofInt 64 7).toNat : Nat) = n % 8
  rw [key, IntKind.wrap_i64]
  omega

/-- The disk d stands at b, apart from G's blocks; all that stood in w0 stands. -/
def DkL (w0 : World) (b N : Nat) (d : Dsk) (G : Nat → Prop) (w : World) : Prop :=
  Below w0.heap.size w0 w ∧ (∃ T, DkIs w b T N d ∧ ∀ k, T k → w0.heap.size ≤ k ∧ ¬ G k) ∧ ∀ k, G k → w0.heap.size ≤ k ∧ k < w.heap.size
/-- G and one block more. -/
def Plus (G : Nat → Prop) (g k : Nat) : Prop := G k ∨ k = g
/-- G's blocks stand as they were. -/
def Kp (G : Nat → Prop) (w w' : World) : Prop := w.heap.size ≤ w'.heap.size ∧ ∀ k, G k → w'.heap[k]? = w.heap[k]?
theorem Kp.refl (G : Nat → Prop) (w : World) : Kp G w w := ⟨Nat.le_refl _, fun _ _ => rfl⟩
theorem Kp.trans {G : Nat → Prop} {w w1 w2 : World} (h : Kp G w w1) (k : Kp G w1 w2) : Kp G w w2 := ⟨Nat.le_trans h.1 k.1, fun i hi => (k.2 i hi).trans (h.2 i hi)⟩
theorem Kp.at {G : Nat → Prop} {w w' : World} (h : Kp G w w') {g : Nat} {A : Array Value} {t : TypeId} (hg : G g) (ha : At w g A t) : At w' g A t := (h.2 g hg).trans ha
theorem Kp.cell {G : Nat → Prop} {w w' : World} (h : Kp G w w') {p : Addr} {v : Value} (hg : G p.block) (hc : w.cell? p = some v) : w'.cell? p = some v := (World.cell?_of_block (w := w) (h.2 _ hg)).trans hc
theorem Kp.els {G : Nat → Prop} {w w' : World} (h : Kp G w w') {B : Nat} {te : TypeId} {m : Nat} {a : Option Addr} {n c : Nat} {F : Nat → Array Value} (hg : ∀ k, (Value.slice a n c).ownBlock = some k → G k) (he : Els w B te m a n c F) : Els w' B te m a n c F :=
  he.keep fun k hk => h.2 k (hg k hk)

section
variable {w0 w w' : World} {b N : Nat} {d : Dsk} {G : Nat → Prop}
theorem DkL.sub {H : Nat → Prop} (h : DkL w0 b N d G w) (hH : ∀ k, H k → G k) : DkL w0 b N d H w :=
  ⟨h.1, let ⟨T, h1, h2⟩ := h.2.1; ⟨T, h1, fun k hk => ⟨(h2 k hk).1, fun hk' => (h2 k hk).2 (hH k hk')⟩⟩, fun k hk => h.2.2 k (hH k hk)⟩
theorem DkL.mono (h : DkL w0 b N d G w) {N' : Nat} (hN : N ≤ N') : DkL w0 b N' d G w := ⟨h.1, let ⟨T, h1, h2⟩ := h.2.1; ⟨T, h1.mono hN, h2⟩, h.2.2⟩
/-- The caller changes its own blocks, and makes new ones. -/
theorem DkL.own (h : DkL w0 b N d G w) (hf : Fr G w w') : DkL w0 b N d (fun k => G k ∨ (w.heap.size ≤ k ∧ k < w'.heap.size)) w' := by
  obtain ⟨hb, ⟨T, h1, h2⟩, h3⟩ := h
  refine ⟨((Fr.of_below hb).trans (U := G) hf fun i hi hg => absurd (h3 i hg).1 (by omega)).none, ⟨T, h1.fr hf fun k hk => (h2 k hk).2, fun k hk => ⟨(h2 k hk).1, fun hx => ?_⟩⟩, fun k hk => ?_⟩
  · rcases hx with hx | hx
    · exact (h2 k hk).2 hx
    · have := h1.lt k hk; omega
  · have := hf.size
    have := hb.size
    rcases hk with hk | hk
    · have := h3 k hk; omega
    · omega
theorem DkL.alloc (h : DkL w0 b N d G w) (o : Obj) : DkL w0 b N d (Plus G w.heap.size) (w.alloc o) :=
  (h.own ((Fr.refl G w).alloc o)).sub fun k (hk : G k ∨ k = w.heap.size) => hk.imp id fun e => by subst e; rw [World.size_alloc]; omega
theorem DkL.setRow (h : DkL w0 b N d G w) {g : Nat} (hg : G g) (A : Array Value) : DkL w0 b N d G (w.setRow g A) :=
  (h.own ((Fr.refl G w).setRow (.inl hg) A)).sub fun k hk => .inl hk
theorem DkL.drew (h : DkL w0 b N d G w) : DkL w0 b N d G w.drew := (h.own (Fr.refl G w).drew).sub fun k hk => .inl hk
/-- A call of the disk's. -/
theorem DkL.to (h : DkL w0 b N d G w) {N' : Nat} {d' : Dsk} {T : Nat → Prop} (hT : ∀ k, T k → w0.heap.size ≤ k ∧ ¬ G k) (k : DkTo w b T N' d' w') : DkL w0 b N' d' G w' ∧ Kp G w w' := by
  obtain ⟨hb, _, h3⟩ := h
  obtain ⟨T', k1, k2, k3⟩ := k
  refine ⟨⟨((Fr.of_below hb).trans k2 fun i hi hg => absurd (hT i hg).1 (by omega)).none, ⟨T', k1, fun i hi => ?_⟩, fun i hi => ⟨(h3 i hi).1, Nat.lt_of_lt_of_le (h3 i hi).2 k2.size⟩⟩, k2.size, fun i hi => k2.block i (h3 i hi).2 fun hx => (hT i hx).2 hi⟩
  rcases k3 i hi with hx | hx
  · exact hT i hx
  · exact ⟨Nat.le_trans hb.size hx, fun hg => by have := (h3 i hg).2; omega⟩

theorem new_L (n : Nat) (h1 : 1 ≤ n) (h2 : n ≤ 1024) (hb : Below w0.heap.size w0 w) (hG : ∀ k, G k → w0.heap.size ≤ k ∧ k < w.heap.size) :
    Calls Try.prog 9 #[.int .i64 n] w fun e w' => ∃ b, e = .returned (.tuple #[.pointer (some ⟨b, 0, none⟩), .int .i64 0]) ∧ DkL w0 b 0 (fresh zP n) G w' ∧ Kp G w w' :=
  (new_yes n h1 h2 w).mono fun e w' ⟨b, T, he, hd, hb', hT⟩ => by
    have hz := hb'.size
    have hz0 := hb.size
    exact ⟨b, he, ⟨below_trans hb hb' hb.size, ⟨T, hd, fun k hk => ⟨by have := hT k hk; omega, fun hg => by have := (hG k hg).2; have := hT k hk; omega⟩⟩, fun k hk => by have := hG k hk; omega⟩, hz, fun k hk => hb'.block k (hG k hk).2⟩
theorem read_L (h : DkL w0 b N d G w) (i : Int) (hi : (Lit.int .i64 i).wf = true) (hN : N ≤ 1000000) :
    Calls Try.prog 27 #[.pointer (some ⟨b, 0, none⟩), .int .i64 i] w fun e w' => e = .returned (.tuple #[.agg (d.readP zP i), .int .i64 (d.reach i)]) ∧ DkL w0 b (N + 1) (d.readD i) G w' ∧ Kp G w w' := by
  obtain ⟨T, h1, h2⟩ := h.2.1
  by_cases hr : d.reach i = 0
  · refine (read_yes w b T N d h1 i hi hr hN).mono fun e w' ⟨he, hd⟩ => ⟨?_, ?_⟩
    · rw [he]; unfold Dsk.readP; rw [if_pos hr, hr]
    · unfold Dsk.readD; rw [if_pos hr]; exact h.to h2 hd
  · refine (read_no w b T N d h1 i hr).mono fun e w' ⟨he, hd⟩ => ⟨?_, ?_⟩
    · rw [he]; unfold Dsk.readP; rw [if_neg hr]
    · unfold Dsk.readD; rw [if_neg hr]; exact h.to h2 (hd.mono (by omega))
theorem write_L (h : DkL w0 b N d G w) (i : Int) (P : Array Value) (hP : Pag P) (hi : (Lit.int .i64 i).wf = true) (hN : N < 1000000) :
    Calls Try.prog 49 #[.pointer (some ⟨b, 0, none⟩), .int .i64 i, .agg P] w fun e w' => e = .returned (.int .i64 (d.writeE i)) ∧ DkL w0 b (N + 1) (d.writeD i P) G w' ∧ Kp G w w' := by
  obtain ⟨T, h1, h2⟩ := h.2.1
  by_cases hr : d.writeE i = 0
  · have hr' := hr
    unfold Dsk.writeE at hr'
    by_cases hq : d.reach i = 0
    · rw [if_pos hq] at hr'
      have hu : d.fuse ≠ 0 := fun h => by rw [if_pos h] at hr'; omega
      refine (write_yes w b T N d h1 i P hP hi hq hu hN).mono fun e w' ⟨he, hd⟩ => ⟨by rw [he, hr], ?_⟩
      unfold Dsk.writeD; rw [if_pos hr]; exact h.to h2 hd
    · rw [if_neg hq] at hr'; exact absurd hr' hq
  · refine (write_no w b T N d h1 i P hP hr).mono fun e w' ⟨he, hd⟩ => ⟨he, ?_⟩
    unfold Dsk.writeD; rw [if_neg hr]; exact h.to h2 (hd.mono (by omega))
theorem sync_L (h : DkL w0 b N d G w) (hN : N ≤ 1000000) :
    Calls Try.prog 23 #[.pointer (some ⟨b, 0, none⟩)] w fun e w' => e = .returned (.int .i64 d.syncE) ∧ DkL w0 b N d.syncD G w' ∧ Kp G w w' := by
  obtain ⟨T, h1, h2⟩ := h.2.1
  by_cases hr : d.syncE = 0
  · refine (sync_yes w b T N d h1 hN hr).mono fun e w' ⟨he, hd⟩ => ⟨by rw [he, hr], ?_⟩
    unfold Dsk.syncD; rw [if_pos hr]; exact h.to h2 hd
  · refine (sync_no w b T N d h1 hr).mono fun e w' ⟨he, hd⟩ => ⟨he, ?_⟩
    unfold Dsk.syncD; rw [if_neg hr]; exact h.to h2 hd
theorem crash_L (h : DkL w0 b N d G w) (hN : N ≤ 1000000) (ka : Option Addr) (kn kc : Nat) (t : Nat → Bool) (hB : SlB w ka kn kc t) (hk : 0 < kn → ∀ b o, ka = some ⟨b, o, none⟩ → b < w0.heap.size ∨ G b) :
    Calls Try.prog 13 #[.pointer (some ⟨b, 0, none⟩), .slice ka kn kc] w fun e w' => e = .returned (.tuple #[]) ∧ DkL w0 b N (d.crashed (keepB kn t)) G w' ∧ Kp G w w' := by
  obtain ⟨T, h1, h2⟩ := h.2.1
  exact (crash_of w b T N d h1 hN ka kn kc t hB fun hn b o e hx => by
    rcases hk hn b o e with h | h
    · have := (h2 b hx).1; omega
    · exact (h2 b hx).2 h).mono fun e w' ⟨he, hd⟩ => ⟨he, h.to h2 hd⟩
theorem up_L (h : DkL w0 b N d G w) :
    Calls Try.prog 14 #[.pointer (some ⟨b, 0, none⟩)] w fun e w' => e = .returned (.tuple #[]) ∧ DkL w0 b N d.upped G w' ∧ Kp G w w' := by
  obtain ⟨T, h1, h2⟩ := h.2.1
  exact (up_of w b T N d h1).mono fun e w' ⟨he, hd⟩ => ⟨he, h.to h2 hd⟩
theorem fuse_L (h : DkL w0 b N d G w) (n : Int) (hn : (Lit.int .i64 n).wf = true) :
    Calls Try.prog 12 #[.pointer (some ⟨b, 0, none⟩), .int .i64 n] w fun e w' => e = .returned (.tuple #[]) ∧ DkL w0 b N (d.fused n) G w' ∧ Kp G w w' := by
  obtain ⟨T, h1, h2⟩ := h.2.1
  exact (fuse_of w b T N d h1 n hn).mono fun e w' ⟨he, hd⟩ => ⟨he, h.to h2 hd⟩
theorem size_L (h : DkL w0 b N d G w) : Calls Try.prog 26 #[.pointer (some ⟨b, 0, none⟩)] w fun e w' => e = .returned (.int .i64 d.size) ∧ w' = w := by
  obtain ⟨T, h1, h2⟩ := h.2.1
  exact size_of w b T N d h1
theorem SlB.lt {w : World} {a : Option Addr} {n c : Nat} {t : Nat → Bool} (h : SlB w a n c t) (hn : 0 < n) : ∀ b o, a = some ⟨b, o, none⟩ → b < w.heap.size := fun b o e => by
  obtain ⟨b', o', e', hc⟩ := h.2.2 hn
  rw [e] at e'
  simp only [Option.some.injEq, Addr.mk.injEq] at e'
  obtain ⟨rfl, rfl, _⟩ := e'
  exact block_lt_of_cell (hc 0 hn)
theorem DkL.seen (h : DkL w0 b N d G w) (i : Int) : Pag (d.seen i) := let ⟨T, h1, _⟩ := h.2.1; seen_pag h1 i
theorem DkL.num (h : DkL w0 b N d G w) : d.n ≤ N ∧ d.size ≤ 1024 ∧ ∀ i, 0 ≤ d.reads i ∧ d.reads i ≤ N := by
  obtain ⟨T, ⟨bs, bl, br, a, c, h1⟩, _⟩ := h.2.1
  exact ⟨h1.num.1, h1.num.2.2.1, h1.num.2.1⟩
end
end Go.Proofs.Ytbbeekpndhfpjaa.Dk
end
