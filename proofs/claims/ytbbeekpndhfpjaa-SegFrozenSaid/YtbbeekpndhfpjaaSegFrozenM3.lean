/- Texts of the walk, one behind the other. -/
import Derived.Test.YtbbeekpndhfpjaaSegFrozenM1
import Derived.Test.YtbbeekpndhfpjaaDkMath
import Derived.Test.YtbbeekpndhfpjaaSegFrozenM2

section
/- SgDk: a log's pages on a disk: what the sectors are read as (mathematics of layer 19). -/
namespace Go.Proofs.Ytbbeekpndhfpjaa.Sg
open Go.Proofs.Ytbbeekpndhfpjaa.Pa Go.Proofs.Ytbbeekpndhfpjaa.Crc Go.Proofs.Ytbbeekpndhfpjaa.Fg Go.Proofs.Ytbbeekpndhfpjaa.Dk
set_option linter.unusedVariables false

/-- 64 bytes, as a row of cells, that are read as a page. -/
def IsPg (P : Array Value) (p : Pv) : Prop := ∃ l : List UInt8, l.length = 64 ∧ P = bl l ∧ SumOk l ∧ FormOk l ∧ p = pg l
theorem IsPg.one {P : Array Value} {p q : Pv} (h : IsPg P p) (k : IsPg P q) : p = q := by
  obtain ⟨l, _, h1, _, _, h2⟩ := h
  obtain ⟨m, _, k1, _, _, k2⟩ := k
  have e : l = m := bl_inj (h1.symm.trans k1)
  rw [h2, k2, e]
/-- What a row of cells is read as. -/
noncomputable def rdP (P : Array Value) : Option Pv := open Classical in if h : ∃ p, IsPg P p then some h.choose else none
theorem rdP_some {P : Array Value} {p : Pv} : rdP P = some p ↔ IsPg P p := by
  unfold rdP
  constructor
  · intro h
    split at h
    · rename_i hx
      injection h with h
      rw [← h]; exact hx.choose_spec
    · cases h
  · intro h
    rw [dif_pos ⟨p, h⟩]
    congr 1
    exact IsPg.one (Exists.choose_spec (⟨p, h⟩ : ∃ p, IsPg P p)) h
theorem rdP_lay {p : Pv} (hr : p.right) (ho : p.Ok) : rdP (bl p.lay) = some p := rdP_some.2 ⟨p.lay, Pv.lay_length hr, rfl, sum_lay, form_lay hr, (pg_lay hr ho).symm⟩
theorem rdP_yes {l : List UInt8} (hl : l.length = 64) (hs : SumOk l) (hf : FormOk l) : rdP (bl l) = some (pg l) := rdP_some.2 ⟨l, hl, rfl, hs, hf, rfl⟩
theorem rdP_no {l : List UInt8} (h : ¬ (SumOk l ∧ FormOk l)) : rdP (bl l) = none := by
  cases e : rdP (bl l) with
  | none => rfl
  | some p =>
    obtain ⟨m, _, h1, h2, h3, _⟩ := rdP_some.1 e
    rw [bl_inj h1] at h
    exact absurd ⟨h2, h3⟩ h
theorem IsPg.right {P : Array Value} {p : Pv} (h : IsPg P p) : p.right ∧ p.Ok := by
  obtain ⟨l, h0, _, _, h2, rfl⟩ := h
  exact pg_right h0 h2

/-- What is read of a disk's sectors. -/
noncomputable def rdS (d : Dsk) (i : Nat) : Option Pv := if i < d.size then rdP (d.seen i) else none
/-- What is sure of them. -/
noncomputable def rdU (d : Dsk) (i : Nat) : Option Pv := if i < d.size then rdP (d.sure i) else none
theorem rdS_out (d : Dsk) (i : Nat) (h : d.size ≤ i) : rdS d i = none := by unfold rdS; rw [if_neg (by omega)]

/-- A disk on which the writes that aren't sure are the pages W, from sector S on. -/
structure LogOn (d : Dsk) (n S : Nat) (f : Nat → Option Pv) (W : List Pv) : Prop where
  size : d.size = n
  n : d.n = W.length
  sec : ∀ k, k < W.length → d.sec k = (S + k : Nat)
  pg : ∀ k p, W[k]? = some p → d.pg k = bl p.lay
  ok : ∀ p, p ∈ W → p.right ∧ p.Ok
  sure : rdU d = f

theorem lay_on {d : Dsk} {n S : Nat} {f : Nat → Option Pv} {W : List Pv} (h : LogOn d n S f W) (kept : Nat → Bool) (i : Nat) : ∀ m, m ≤ W.length →
    lay kept d.sure d.sec d.pg m i = if S ≤ i ∧ i < S + m ∧ kept (i - S) = true then d.pg (i - S) else d.sure i
  | 0, _ => by rw [lay, if_neg (by omega)]
  | m + 1, hm => by
    have hs := h.sec m (by omega)
    rw [lay, lay_on h kept i m (by omega)]
    by_cases e : i = S + m
    · subst e
      by_cases hk : kept m = true
      · rw [if_pos ⟨hk, hs⟩, Nat.add_sub_cancel_left, if_pos ⟨by omega, by omega, hk⟩]
      · rw [if_neg (fun h => hk h.1), if_neg (by omega), Nat.add_sub_cancel_left, if_neg (fun h => hk h.2.2)]
    · rw [if_neg (fun h => e (by have := h.2; rw [hs] at this; omega))]
      by_cases c : S ≤ i ∧ i < S + m ∧ kept (i - S) = true
      · rw [if_pos c, if_pos ⟨c.1, by omega, c.2.2⟩]
      · rw [if_neg c, if_neg (fun h => c ⟨h.1, by omega, h.2.2⟩)]
theorem rd_on {d : Dsk} {n S : Nat} {f : Nat → Option Pv} {W : List Pv} (h : LogOn d n S f W) (kept : Nat → Bool) (hfit : S + W.length ≤ n) (i : Nat) :
    (if i < d.size then rdP (lay kept d.sure d.sec d.pg d.n i) else none) = over f S W kept i := by
  rw [h.n, lay_on h kept i _ (Nat.le_refl _), ← h.sure]
  unfold over
  by_cases c : S ≤ i ∧ i < S + W.length ∧ kept (i - S) = true
  · have hlt : i < d.size := by rw [h.size]; omega
    rw [if_pos hlt, if_pos c, if_pos c]
    have hw : W[i - S]? = some (W[i - S]'(by omega)) := List.getElem?_eq_getElem (by omega)
    have hok := h.ok _ (List.getElem_mem (show i - S < W.length by omega))
    rw [h.pg _ _ hw, rdP_lay hok.1 hok.2, hw]
  · rw [if_neg c, if_neg c]
    rfl
theorem LogOn.seen {d : Dsk} {n S : Nat} {f : Nat → Option Pv} {W : List Pv} (h : LogOn d n S f W) (hfit : S + W.length ≤ n) : rdS d = over f S W fun _ => true := by
  funext i
  rw [← rd_on h (fun _ => true) hfit i]
  unfold rdS
  rw [Dsk.seen_all]
theorem LogOn.settled {d : Dsk} {n S : Nat} {f : Nat → Option Pv} {W : List Pv} (h : LogOn d n S f W) (hfit : S + W.length ≤ n) (kept : Nat → Bool) (S' : Nat) : LogOn (d.settled kept) n S' (over f S W kept) [] := by
  refine ⟨h.size, rfl, fun k hk => absurd hk (Nat.not_lt_zero k), (fun k p hp => by simp at hp), (fun p hp => by cases hp), ?_⟩
  funext i
  rw [← rd_on h kept hfit i]
  rfl
theorem LogOn.at {d : Dsk} {n S S' : Nat} {f : Nat → Option Pv} (h : LogOn d n S f []) : LogOn d n S' f [] := ⟨h.size, h.n, fun k hk => absurd hk (Nat.not_lt_zero k), (fun k p hp => by simp at hp), (fun p hp => by cases hp), h.sure⟩
/-- The same sectors and writes. -/
theorem LogOn.same {d d' : Dsk} {n S : Nat} {f : Nat → Option Pv} {W : List Pv} (h : LogOn d n S f W) (h1 : d'.size = d.size) (h2 : d'.n = d.n) (h3 : d'.sec = d.sec) (h4 : d'.pg = d.pg) (h5 : d'.sure = d.sure) : LogOn d' n S f W :=
  ⟨h1.trans h.size, h2.trans h.n, by rw [h3]; exact h.sec, by rw [h4]; exact h.pg, h.ok, by rw [← h.sure]; unfold rdU; rw [h1, h5]⟩
/-- One page more. -/
theorem LogOn.wrote {d : Dsk} {n S : Nat} {f : Nat → Option Pv} {W : List Pv} (h : LogOn d n S f W) {p : Pv} (hp : p.right ∧ p.Ok) : LogOn (d.wrote ((S + W.length : Nat)) (bl p.lay)) n S f (W ++ [p]) := by
  refine ⟨h.size, by rw [List.length_append]; show d.n + 1 = _; rw [h.n]; rfl, fun k hk => ?_, fun k q hq => ?_, fun q hq => ?_, h.sure⟩
  · show (if k = d.n then _ else d.sec k) = _
    rw [List.length_append, List.length_singleton] at hk
    by_cases e : k = d.n
    · rw [if_pos e, e, h.n]
    · rw [if_neg e, h.sec k (by rw [← h.n] at hk ⊢; omega)]
  · show (if k = d.n then _ else d.pg k) = _
    by_cases e : k = d.n
    · rw [if_pos e]
      rw [e, h.n, List.getElem?_append_right (Nat.le_refl _), Nat.sub_self] at hq
      injection hq with hq
      rw [hq]
    · rw [if_neg e]
      have hlt : k < W.length := by
        have := (List.getElem?_eq_some_iff.1 hq).1
        rw [List.length_append, List.length_singleton] at this
        rw [h.n] at e
        omega
      rw [List.getElem?_append_left hlt] at hq
      exact h.pg k q hq
  · rcases List.mem_append.1 hq with hq | hq
    · exact h.ok q hq
    · rw [List.mem_singleton.1 hq]; exact hp
/-- Pages written one behind the other, until one is refused: the disk, how many were written, why it ended. -/
def put (d : Dsk) : Nat → List Pv → Dsk × Nat × Int
  | _, [] => (d, 0, 0)
  | i, p :: l => if d.writeE i = 0 then let x := put (d.writeD i (bl p.lay)) (i + 1) l; (x.1, x.2.1 + 1, x.2.2) else (d, 0, d.writeE i)
theorem put_on {n S : Nat} {f : Nat → Option Pv} : ∀ {l : List Pv} {d : Dsk} {W : List Pv}, LogOn d n S f W → d.down = false → S + W.length + l.length ≤ n → (∀ p, p ∈ l → p.right ∧ p.Ok) →
    ∃ m, (put d (S + W.length) l).2.1 = m ∧ m ≤ l.length ∧ LogOn (put d (S + W.length) l).1 n S f (W ++ l.take m) ∧ (put d (S + W.length) l).1.down = false ∧ ((put d (S + W.length) l).2.2 = 0 ∧ m = l.length ∨ (put d (S + W.length) l).2.2 = 6 ∧ m < l.length)
  | [], d, W, h, hd, _, _ => ⟨0, rfl, Nat.le_refl _, by rw [List.take_nil, List.append_nil]; exact h, hd, .inl ⟨rfl, rfl⟩⟩
  | p :: l, d, W, h, hd, hf, hl => by
    have hr : d.reach ((S + W.length : Nat)) = 0 := (Dsk.reach_all d _).2.1 hd (by omega) (by rw [h.size]; simp at hf; omega)
    unfold put
    by_cases hw : d.writeE ((S + W.length : Nat)) = 0
    · rw [if_pos hw]
      have h1 : LogOn (d.writeD ((S + W.length : Nat)) (bl p.lay)) n S f (W ++ [p]) := by
        unfold Dsk.writeD
        rw [if_pos hw]
        exact (h.same (d' := d.spent) rfl rfl rfl rfl rfl).wrote (hl p (List.mem_cons_self ..))
      have hd1 : (d.writeD ((S + W.length : Nat)) (bl p.lay)).down = false := by unfold Dsk.writeD; rw [if_pos hw]; exact hd
      have e : S + W.length + 1 = S + (W ++ [p]).length := by rw [List.length_append]; simp; omega
      rw [e]
      obtain ⟨m, m1, m2, m3, m4, m5⟩ := put_on (l := l) h1 hd1 (by rw [List.length_append]; simp at hf ⊢; omega) fun q hq => hl q (List.mem_cons_of_mem _ hq)
      refine ⟨m + 1, by dsimp only; rw [m1], by simp; omega, ?_, m4, ?_⟩
      · rw [List.append_assoc] at m3
        exact m3
      · dsimp only
        rcases m5 with ⟨a, b⟩ | ⟨a, b⟩
        · exact .inl ⟨a, by simp; omega⟩
        · exact .inr ⟨a, by simp; omega⟩
    · rw [if_neg hw]
      have e6 : d.writeE ((S + W.length : Nat)) = 6 := by
        unfold Dsk.writeE at hw ⊢
        rw [if_pos hr] at hw ⊢
        split at hw
        · rename_i h6; rw [if_pos h6]
        · exact absurd rfl hw
      exact ⟨0, rfl, Nat.zero_le _, by simpa using h, hd, .inr ⟨e6, by simp⟩⟩
end Go.Proofs.Ytbbeekpndhfpjaa.Sg
end
