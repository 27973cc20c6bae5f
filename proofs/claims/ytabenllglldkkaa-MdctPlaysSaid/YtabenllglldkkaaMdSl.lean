/- A slice of frames written out: where its numbers lie. -/
import Derived.Test.YtabenllglldkkaaMdMost
namespace Go.Proofs.Ytabenllglldkkaa.Md
open Go.RowKit Go.Proofs.Ytabenllglldkkaa.Ang

theorem put_list (off : Nat) : ∀ (l : List Value) (s : Nat) (cs : Array Value), off + s + l.length ≤ cs.size →
    ((l.zipIdx s).foldl (fun cs (p : Value × Nat) => cs.setIfInBounds (off + p.2) p.1) cs).size = cs.size ∧
    ∀ q, ((l.zipIdx s).foldl (fun cs (p : Value × Nat) => cs.setIfInBounds (off + p.2) p.1) cs)[q]? = if off + s ≤ q ∧ q < off + s + l.length then l[q - (off + s)]? else cs[q]?
  | [], s, cs, _ => ⟨rfl, fun q => by
      rw [if_neg (fun h => by have := h.2; simp at this; omega)]
      rfl⟩
  | x :: l, s, cs, h => by
    rw [List.zipIdx_cons, List.foldl_cons]
    simp only [List.length_cons] at h
    obtain ⟨h1, h2⟩ := put_list off l (s + 1) (cs.setIfInBounds (off + s) x) (by rw [Array.size_setIfInBounds]; omega)
    refine ⟨by rw [h1, Array.size_setIfInBounds], fun q => ?_⟩
    rw [h2 q]
    simp only [List.length_cons]
    by_cases e : q = off + s
    · subst e
      rw [if_neg (by omega), if_pos (by omega), Array.getElem?_setIfInBounds_self_of_lt (by omega)]
      simp
    · by_cases hq : off + (s + 1) ≤ q ∧ q < off + (s + 1) + l.length
      · rw [if_pos hq, if_pos (by omega), show q - (off + s) = (q - (off + (s + 1))) + 1 by omega, List.getElem?_cons_succ]
      · rw [if_neg hq, if_neg (by omega), Array.getElem?_setIfInBounds_ne (by omega)]

theorem put_arr (off : Nat) (A cs : Array Value) (h : off + A.size ≤ cs.size) :
    (A.zipIdx.foldl (fun cs (c, j) => cs.setIfInBounds (off + j) c) cs).size = cs.size ∧
    ∀ q, (A.zipIdx.foldl (fun cs (c, j) => cs.setIfInBounds (off + j) c) cs)[q]? = if off ≤ q ∧ q < off + A.size then A[q - off]? else cs[q]? := by
  have e : A.zipIdx.foldl (fun cs (c, j) => cs.setIfInBounds (off + j) c) cs = (A.toList.zipIdx 0).foldl (fun cs (p : Value × Nat) => cs.setIfInBounds (off + p.2) p.1) cs := by
    rw [← Array.foldl_toList]
    simp
  rw [e]
  have := put_list off A.toList 0 cs (by simpa using h)
  simpa using this

/-- Rows laid into a row of rows. -/
theorem fill_rows (As : Nat → Array Value) (hA : ∀ i, (As i).size = 16) : ∀ (m s : Nat) (cs : Array Value), (s + m) * 16 ≤ cs.size →
    ∃ R, Instr.fill (fun i => some (i * 16, 16)) cs ((List.range' s m).map fun i => (i, .agg (As i))) = some R ∧ R.size = cs.size ∧
      ∀ q, R[q]? = if s * 16 ≤ q ∧ q < (s + m) * 16 then (As (q / 16))[q % 16]? else cs[q]?
  | 0, s, cs, _ => ⟨cs, rfl, rfl, fun q => by rw [if_neg (by omega)]⟩
  | m + 1, s, cs, h => by
    obtain ⟨p1, p2⟩ := put_arr (s * 16) (As s) cs (by rw [hA]; omega)
    obtain ⟨R, r1, r2, r3⟩ := fill_rows As hA m (s + 1) ((As s).zipIdx.foldl (fun cs (c, j) => cs.setIfInBounds (s * 16 + j) c) cs) (by rw [p1]; omega)
    refine ⟨R, ?_, by rw [r2, p1], fun q => ?_⟩
    · rw [List.range'_succ, List.map_cons, Instr.fill]
      simp only [Value.cells, hA]
      rw [if_neg (by simp; omega)]
      exact r1
    · rw [r3 q]
      by_cases hq : (s + 1) * 16 ≤ q ∧ q < (s + 1 + m) * 16
      · rw [if_pos hq, if_pos (by omega)]
      · rw [if_neg hq, p2 q, hA]
        by_cases hq2 : s * 16 ≤ q ∧ q < s * 16 + 16
        · rw [if_pos hq2, if_pos (by omega), show q / 16 = s by omega, show q - s * 16 = q % 16 by omega]
        · rw [if_neg hq2, if_neg (by omega)]

theorem slice_rows (n : Nat) (hn : 0 < n) (hn3 : n ≤ 3) (As : Nat → Array Value) (G : Nat → Nat → Int) (hA : ∀ i, (As i).size = 16) (hG : ∀ i, i < n → IsRow 16 (G i) (As i)) :
    ∃ C, Rows16 n G C ∧ ∀ w, (Instr.buildSlice 44 n ((List.range' 0 n).map fun i => (i, .agg (As i))).toArray).run Try.prog w = .ok (.slice (some ⟨w.heap.size, 0, none⟩) n n) (w.alloc (.cells C 24)) := by
  obtain ⟨Z, hZ, _, hz, hi⟩ := zero_block
  have hsz : ∀ w, (sizeOf 24).run Try.prog w = .ok 16 w := fun w => by
    have h : (Try.prog.info? 24).map (·.size) = some 16 := by kernel_rfl
    cases he : Try.prog.info? 24 with
    | none => rw [he] at h; cases h
    | some i =>
      rw [he] at h
      injection h with h
      simp [sizeOf, typeInfo, he, h]
  obtain ⟨R, r1, r2, r3⟩ := fill_rows As hA n 0 ((Array.range (n * 16)).map (Z[· % Z.size]!)) (by simp)
  refine ⟨R, ⟨by rw [r2]; simp, fun i hi k hk => ?_⟩, fun w => ?_⟩
  · rw [r3, if_pos (by omega), show (i * 16 + k) / 16 = i by omega, show (i * 16 + k) % 16 = k by omega]
    exact (hG i hi).2.2 k hk
  · have hlt : ¬ (n * 16 > 2 ^ 24) := by omega
    have h0 : ¬ (n * 16 = 0) := by omega
    unfold Instr.buildSlice
    simp only [Sem.run_bind, run_underlying Try.underlying44, Result.andThen_ok, hsz, hlt, h0, if_false, hz, Value.cells, Sem.run_pure, r1]
    rfl
end Go.Proofs.Ytabenllglldkkaa.Md
