/- Texts of the walk, one behind the other. -/
import Derived.Test.YtbbeekpndhfpjaaSegFrozenM24
import Derived.Test.YtbbeekpndhfpjaaSegFrozenM27
import Derived.Test.YtbbeekpndhfpjaaSegFrozenM30

section
/- SgRun: a scan's course, sector by sector (mathematics of layer 19; for the proof of Scan). -/
set_option linter.unusedVariables false
namespace Go.Proofs.Ytbbeekpndhfpjaa.Sg
open Go.RowKit Go.Proofs.Ytbbeekpndhfpjaa.Row Go.Proofs.Ytbbeekpndhfpjaa.Pa Go.Proofs.Ytbbeekpndhfpjaa.Fg Go.Proofs.Ytbbeekpndhfpjaa.Dk Go.Proofs.Ytbbeekpndhfpjaa.Crc

theorem like_read (d : Dsk) (i : Int) : Like d (d.readD i) := by
  unfold Dsk.readD
  split
  · exact ⟨rfl, rfl, rfl, rfl, rfl, rfl, rfl⟩
  · exact Like.refl d
/-- A sector is there, and is read. -/
theorem read_ok {d : Dsk} (hd : d.down = false) {i : Nat} (hi : i < d.size) : d.reach i = 0 ∧ d.readP zP i = d.seen i ∧ rdS d i = rdP (d.seen i) := by
  have h := (Dsk.reach_all d i).2.1 hd (by omega) (by omega)
  refine ⟨h, ?_, ?_⟩
  · unfold Dsk.readP; rw [if_pos h]
  · unfold rdS; rw [if_pos hi]

/-- Behind i sectors: the chain goes on with s (en = false), or it ended ahead of sector i0. -/
structure Goes (f : Nat → Option Pv) (i : Nat) (en : Bool) (s : St) (i0 : Nat) : Prop where
  st : st f i0 = some s
  le : i0 ≤ i
  on : en = false → i0 = i
  off : en = true → Sg.st f (i0 + 1) = none
section
variable {f : Nat → Option Pv} {i i0 : Nat} {en : Bool} {s t : St} {p : Pv}
theorem Goes.zero (f : Nat → Option Pv) : Goes f 0 false s0 0 := ⟨rfl, Nat.le_refl _, fun _ => rfl, fun h => by cases h⟩
theorem Goes.fin (h : Goes f i en s i0) : fin f i = (s, i0) := fin_eq h.st h.le (by
  cases en with
  | false => exact .inl (h.on rfl)
  | true => exact .inr (h.off rfl))
theorem Goes.done (h : Goes f i en s i0) : recs f i = s.rs ∧ nxt f i = s.at i0 := by
  unfold recs nxt
  rw [h.fin]
  exact ⟨rfl, rfl⟩
theorem Goes.over (h : Goes f i true s i0) : Goes f (i + 1) true s i0 := ⟨h.st, Nat.le_succ_of_le h.le, fun h => (by cases h), h.off⟩
theorem Goes.stops (h : Goes f i false s i0) (hn : step s i (f i) = none) : Goes f (i + 1) true s i := by
  obtain rfl := h.on rfl
  exact ⟨h.st, Nat.le_succ _, fun h => (by cases h), fun _ => by rw [st_next h.st]; exact hn⟩
theorem Goes.more (h : Goes f i false s i0) (hn : step s i (f i) = some t) : Goes f (i + 1) false t (i + 1) := by
  obtain rfl := h.on rfl
  exact ⟨by rw [st_next h.st]; exact hn, Nat.le_refl _, fun _ => rfl, fun h => by cases h⟩
theorem most_next (f : Nat → Option Pv) (i : Nat) : most f (i + 1) = max (most f i) (eo (f i)) := rfl
/-- What doesn't stand. -/
theorem step_not (h : ¬ Stands s i p) : step s i (some p) = none := if_neg h
theorem step_number (h : p.n ≠ i) : step s i (some p) = none := step_not fun hs => h hs.2.1
theorem step_epoch (h : p.e < s.ep) : step s i (some p) = none := step_not fun hs => by have := hs.2.2.1; omega
theorem step_no_head (hi : i % 16 = 0) (h : ¬ (p.k = 1 ∧ p.d = fourL (i / 16))) : step s i (some p) = none := step_not fun hs => by
  have := hs.2.2.2
  rw [if_pos hi] at this
  exact h this
theorem step_no_data (hi : i % 16 ≠ 0) (h : p.k ≠ 2) : step s i (some p) = none := step_not fun hs => by
  have := hs.2.2.2
  rw [if_neg hi] at this
  exact h this.1
theorem step_refused (hi : i % 16 ≠ 0) (h : refused s.j p = true) : step s i (some p) = none := step_not fun hs => by
  have := hs.2.2.2
  rw [if_neg hi, h] at this
  cases this.2
/-- A head that stands: the joiner is as it was, whether it takes the head or not. -/
theorem step_head (hr : p.right) (hn : p.n = i) (he : s.ep ≤ p.e) (hi : i % 16 = 0) (hk : p.k = 1) (hd : p.d = fourL (i / 16)) :
    step s i (some p) = some { s with ep := p.e } ∧ jt s.j p = s.j ∧ told s.j p = [] ∧ ended s.j p = false ∧ terr s.j p = 0 := by
  refine ⟨?_, jt_head s.j hr hk⟩
  rw [step_yes ⟨hr, hn, he, by rw [if_pos hi]; exact ⟨hk, hd⟩⟩]
  unfold St.on
  rw [if_pos hk]
/-- A page of data that the joiner takes. -/
theorem step_data (hr : p.right) (hn : p.n = i) (he : s.ep ≤ p.e) (hi : i % 16 ≠ 0) (hk : p.k = 2) (hf : refused s.j p = false) :
    step s i (some p) = some ⟨jt s.j p, p.e, s.at i, if p.l then s.rs ++ [(s.at i, joined s.j p)] else s.rs⟩ ∧ terr s.j p = 0 ∧ ended s.j p = p.l ∧ told s.j p = (if p.l then joined s.j p else []) ∧ (jt s.j p).isSome = !p.l := by
  have hk1 : p.k ≠ 1 := by omega
  obtain ⟨e1, e2, e3, e4⟩ := fit_is hr hk1 hf
  refine ⟨?_, e4, e3, e2, ?_⟩
  · rw [step_yes ⟨hr, hn, he, by rw [if_neg hi]; exact ⟨hk, hf⟩⟩, e1]
    unfold St.on
    rw [if_neg hk1]
  · rw [e1]; cases p.l <;> rfl
/-- One that it refuses. -/
theorem step_data_no (hr : p.right) (hi : i % 16 ≠ 0) (hk : p.k = 2) (hf : refused s.j p = true) : step s i (some p) = none ∧ terr s.j p = 4 ∧ ended s.j p = false :=
  have h := jt_bad hr (show p.k ≠ 1 by omega) hf
  ⟨step_refused hi hf, h.2.2.2, h.2.2.1⟩
/-- Where the next page is, of an ended chain or not. -/
theorem at_none (h : s.j = none) (i : Nat) : s.at i = i := by unfold St.at; rw [h]; rfl
theorem at_some (h : s.j.isSome = true) (i : Nat) : s.at i = s.bg := by unfold St.at; rw [if_pos h]
end

/-- Pages laid one behind another: the outcome is that of what is left. -/
theorem put_yes {d : Dsk} {i : Nat} {p : Pv} {l : List Pv} (h : d.writeE i = 0) : (put d i (p :: l)).1 = (put (d.writeD i (bl p.lay)) (i + 1) l).1 ∧ (put d i (p :: l)).2.2 = (put (d.writeD i (bl p.lay)) (i + 1) l).2.2 := by
  have e : put d i (p :: l) = ((put (d.writeD i (bl p.lay)) (i + 1) l).1, (put (d.writeD i (bl p.lay)) (i + 1) l).2.1 + 1, (put (d.writeD i (bl p.lay)) (i + 1) l).2.2) := by
    rw [put, if_pos h]
  rw [e]; exact ⟨rfl, rfl⟩
theorem put_no {d : Dsk} {i : Nat} {p : Pv} {l : List Pv} (h : d.writeE i ≠ 0) : (put d i (p :: l)).1 = d ∧ (put d i (p :: l)).2.2 = d.writeE i := by
  have e : put d i (p :: l) = (d, 0, d.writeE i) := by rw [put, if_neg h]
  rw [e]; exact ⟨rfl, rfl⟩
theorem writeD_no {d : Dsk} {i : Int} {P : Array Value} (h : d.writeE i ≠ 0) : d.writeD i P = d := if_neg h
theorem wrs_head {E : Nat} {r : List UInt8} {c i N : Nat} (h : N % 16 = 0) : wrs E r (c + 1) i N = hd E N :: pcN E r i (N + 1) :: wrs E r c (i + 1) (N + 2) := if_pos h
theorem wrs_data {E : Nat} {r : List UInt8} {c i N : Nat} (h : N % 16 ≠ 0) : wrs E r (c + 1) i N = pcN E r i N :: wrs E r c (i + 1) (N + 1) := if_neg h
end Go.Proofs.Ytbbeekpndhfpjaa.Sg
end
