/- FgMath: a record's pieces, and what is joined of pages (mathematics of layer 18). -/
import Derived.Test.YtmaelcjmojhlpaaPaMath
namespace Go.Proofs.Ytmaelcjmojhlpaa.Fg
open Go.Proofs.Ytmaelcjmojhlpaa.Pa Go.Proofs.Ytmaelcjmojhlpaa.Crc
set_option linter.unusedVariables false

/-- How many pieces so many bytes have. -/
def np (n : Nat) : Nat := (n + 48) / 49
/-- The i-th piece of a record. -/
def pc (e : Nat) (r : List UInt8) (i : Nat) : Pv := ⟨e, 0, 2, decide (i = 0), decide (r.length ≤ 49 * (i + 1)), (r.drop (49 * i)).take 49⟩
theorem np_lt {n i : Nat} (h : i < np n) : 49 * i < n := by unfold np at h; omega
theorem np_ge {n i : Nat} (h : ¬ i < np n) : n ≤ 49 * i := by unfold np at h; omega
theorem np_last {n i : Nat} (h : i < np n) : n ≤ 49 * (i + 1) ↔ i + 1 = np n := by unfold np at *; omega
theorem np_pos {n : Nat} (h : 1 ≤ n) : 1 ≤ np n := by unfold np; omega
theorem pc_len {e : Nat} {r : List UInt8} {i : Nat} (h : i < np r.length) : 1 ≤ (pc e r i).d.length ∧ (pc e r i).d.length ≤ 49 := by
  have := np_lt h
  show 1 ≤ ((r.drop (49 * i)).take 49).length ∧ ((r.drop (49 * i)).take 49).length ≤ 49
  rw [List.length_take, List.length_drop]
  omega
theorem pc_len_full {e : Nat} {r : List UInt8} {i : Nat} (h : i + 1 < np r.length) : (pc e r i).d.length = 49 := by
  have := np_lt h
  show ((r.drop (49 * i)).take 49).length = 49
  rw [List.length_take, List.length_drop]
  omega
theorem pc_right {e : Nat} {r : List UInt8} {i : Nat} (h : i < np r.length) : (pc e r i).right := ⟨(pc_len h).1, (pc_len h).2, .inl rfl⟩
theorem pc_ok {e : Nat} {r : List UInt8} {i : Nat} (h : e < 4294967296) : (pc e r i).Ok := ⟨h, by show 0 < 4294967296; omega⟩

/-- What is begun: nothing, or bytes of an epoch. -/
abbrev Jn := Option (Nat × List UInt8)
/-- A page refused; bytes told. -/
def MaxRec : Nat := 4096
/-- Whether a right page of data is refused. -/
def refused : Jn → Pv → Bool
  | none, p => !p.f
  | some (e, r), p => p.f || decide (p.e ≠ e) || decide (MaxRec < r.length + p.d.length)
/-- The bytes behind a page that isn't refused. -/
def joined : Jn → Pv → List UInt8
  | none, p => p.d
  | some (_, r), p => r ++ p.d
/-- A joiner behind a page. -/
def jt (j : Jn) (p : Pv) : Jn := if ¬ p.right ∨ p.k = 1 then j else if refused j p then none else if p.l then none else some (p.e, joined j p)
/-- What is told, whether a record is ended, and the error. -/
def told (j : Jn) (p : Pv) : List UInt8 := if ¬ p.right ∨ p.k = 1 ∨ refused j p ∨ ¬ p.l then [] else joined j p
def ended (j : Jn) (p : Pv) : Bool := decide (p.right ∧ p.k ≠ 1) && (!refused j p && p.l)
def terr (j : Jn) (p : Pv) : Nat := if ¬ p.right then 1 else if p.k = 1 then 0 else if refused j p then 4 else 0

/-- A joiner behind the first i pieces of a record (none begun ahead of it). -/
def jn (e : Nat) (r : List UInt8) (i : Nat) : Jn := if i = 0 then none else if i = np r.length then none else some (e, r.take (49 * i))
theorem jn_0 (e : Nat) (r : List UInt8) : jn e r 0 = none := rfl
theorem jn_end {e : Nat} {r : List UInt8} : jn e r (np r.length) = none := by
  unfold jn
  split
  · rfl
  · rw [if_pos rfl]
theorem jn_mid {e : Nat} {r : List UInt8} {i : Nat} (h0 : 0 < i) (h : i < np r.length) : jn e r i = some (e, r.take (49 * i)) := by
  unfold jn
  rw [if_neg (by omega), if_neg (by omega)]
theorem take_more (r : List UInt8) (i : Nat) : r.take (49 * i) ++ (r.drop (49 * i)).take 49 = r.take (49 * (i + 1)) := by
  rw [Nat.mul_succ, List.take_add]
theorem jn_ok {e : Nat} {r : List UInt8} {i : Nat} (hn : r.length ≤ 4096) (h : i < np r.length) : refused (jn e r i) (pc e r i) = false ∧ joined (jn e r i) (pc e r i) = r.take (49 * (i + 1)) := by
  by_cases h0 : i = 0
  · subst h0
    rw [jn_0]
    exact ⟨rfl, by show (r.drop (49 * 0)).take 49 = _; simp⟩
  · rw [jn_mid (by omega) h]
    refine ⟨?_, ?_⟩
    · show (decide (i = 0) || decide (e ≠ e) || decide (MaxRec < (r.take (49 * i)).length + ((r.drop (49 * i)).take 49).length)) = false
      have hl : (r.take (49 * i)).length + ((r.drop (49 * i)).take 49).length ≤ 4096 := by
        rw [List.length_take, List.length_take, List.length_drop]
        omega
      rw [decide_eq_false h0, decide_eq_false (by simp), decide_eq_false (by unfold MaxRec; omega)]
      rfl
    · exact take_more r i
/-- One piece more. -/
theorem jn_next {e : Nat} {r : List UInt8} {i : Nat} (hn : r.length ≤ 4096) (h : i < np r.length) : jt (jn e r i) (pc e r i) = jn e r (i + 1) := by
  obtain ⟨h1, h2⟩ := jn_ok (e := e) hn h
  have hr := pc_right (e := e) h
  have hk : (pc e r i).k = 2 := rfl
  unfold jt
  rw [if_neg (by rw [hk]; simp [hr]), h1, h2]
  simp only [Bool.false_eq_true, if_false]
  have hl : (pc e r i).l = decide (r.length ≤ 49 * (i + 1)) := rfl
  rw [hl]
  by_cases c : r.length ≤ 49 * (i + 1)
  · rw [decide_eq_true c, if_pos rfl, (np_last h).1 c, jn_end]
  · rw [decide_eq_false c, if_neg (by simp)]
    have hx : i + 1 < np r.length := by
      have h2 : ¬ (i + 1 = np r.length) := fun e => c ((np_last h).2 e)
      omega
    rw [jn_mid (by omega) hx]
    rfl
theorem ended_pc {e : Nat} {r : List UInt8} {i : Nat} (hn : r.length ≤ 4096) (h : i < np r.length) : ended (jn e r i) (pc e r i) = decide (i + 1 = np r.length) := by
  obtain ⟨h1, h2⟩ := jn_ok (e := e) hn h
  have hr := pc_right (e := e) h
  have hk : (pc e r i).k ≠ 1 := by show (2 : Int) ≠ 1; omega
  unfold ended
  rw [h1, decide_eq_true ⟨hr, hk⟩]
  show (true && (true && decide (r.length ≤ 49 * (i + 1)))) = _
  rw [Bool.true_and, Bool.true_and]
  exact decide_eq_decide.2 (np_last h)
theorem terr_pc {e : Nat} {r : List UInt8} {i : Nat} (hn : r.length ≤ 4096) (h : i < np r.length) : terr (jn e r i) (pc e r i) = 0 := by
  obtain ⟨h1, h2⟩ := jn_ok (e := e) hn h
  have hr := pc_right (e := e) h
  unfold terr
  rw [if_neg (by simp [hr]), h1]
  simp
theorem told_end {e : Nat} {r : List UInt8} {i : Nat} (hn : r.length ≤ 4096) (h : i < np r.length) (hi : i + 1 = np r.length) : told (jn e r i) (pc e r i) = r := by
  obtain ⟨h1, h2⟩ := jn_ok (e := e) hn h
  have hr := pc_right (e := e) h
  have hk : (pc e r i).k ≠ 1 := by show (2 : Int) ≠ 1; omega
  have hl : (pc e r i).l = true := by show decide (r.length ≤ 49 * (i + 1)) = true; exact decide_eq_true ((np_last h).2 hi)
  unfold told
  rw [if_neg (by simp [hr, hk, h1, hl]), h2]
  exact List.take_of_length_le ((np_last h).2 hi)
theorem told_mid {e : Nat} {r : List UInt8} {i : Nat} (hn : r.length ≤ 4096) (h : i < np r.length) (hi : i + 1 ≠ np r.length) : told (jn e r i) (pc e r i) = [] := by
  have hl : (pc e r i).l = false := by show decide (r.length ≤ 49 * (i + 1)) = false; exact decide_eq_false fun c => hi ((np_last h).1 c)
  unfold told
  rw [if_pos (by simp [hl])]
/-- A head changes nothing. -/
theorem jt_head (j : Jn) {p : Pv} (hr : p.right) (hk : p.k = 1) : jt j p = j ∧ told j p = [] ∧ ended j p = false ∧ terr j p = 0 := by
  refine ⟨?_, ?_, ?_, ?_⟩
  · unfold jt; rw [if_pos (.inr hk)]
  · unfold told; rw [if_pos (.inr (.inl hk))]
  · unfold ended; rw [decide_eq_false (by simp [hk])]; rfl
  · unfold terr; rw [if_neg (by simp [hr]), if_pos hk]
/-- What is refused is dropped. -/
theorem jt_bad {j : Jn} {p : Pv} (hr : p.right) (hk : p.k ≠ 1) (h : refused j p = true) : jt j p = none ∧ told j p = [] ∧ ended j p = false ∧ terr j p = 4 := by
  refine ⟨?_, ?_, ?_, ?_⟩
  · unfold jt; rw [if_neg (by simp [hr, hk]), if_pos h]
  · unfold told; rw [if_pos (.inr (.inr (.inl h)))]
  · unfold ended; rw [h]; simp
  · unfold terr; rw [if_neg (by simp [hr]), if_neg hk, if_pos h]
end Go.Proofs.Ytmaelcjmojhlpaa.Fg
