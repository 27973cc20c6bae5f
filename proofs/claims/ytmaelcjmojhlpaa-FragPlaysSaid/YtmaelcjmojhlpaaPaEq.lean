/- Pages compared (carved out of PaH). -/
import Derived.Test.YtmaelcjmojhlpaaPaV
import Derived.Laws.StructEq
set_option maxRecDepth 100000
set_option linter.unusedVariables false
set_option linter.unusedSimpArgs false
namespace Go.Proofs.Ytmaelcjmojhlpaa.Pa
open Go.RowKit Go.Proofs.Ytmaelcjmojhlpaa.Row

/-- Whether two pages are one. -/
def pEq (p q : Pv) : Bool := decide (p.e = q.e) && (decide (p.n = q.n) && (decide (p.k = q.k) && ((p.f == q.f) && ((p.l == q.l) && decide (p.d = q.d)))))
theorem pEq_iff {p q : Pv} : pEq p q = true ↔ p = q := by
  obtain ⟨a, b, c, d, e, f⟩ := p
  obtain ⟨a', b', c', d', e', f'⟩ := q
  simp [pEq]
theorem pEq_self (p : Pv) : pEq p p = true := pEq_iff.2 rfl
theorem str_eq (l m : List UInt8) : ((⟨l.toArray⟩ : ByteArray).toList == (⟨m.toArray⟩ : ByteArray).toList) = decide (l = m) := by
  rw [ByteArray.toList_eq, ByteArray.toList_eq]
  show (l == m) = _
  by_cases h : l = m
  · rw [h]; simp
  · rw [decide_eq_false h]; simpa using h
theorem nat_eq (m n : Nat) : ((m : Int) == (n : Int)) = decide (m = n) := by
  by_cases h : m = n
  · rw [h]; simp
  · rw [decide_eq_false h, beq_eq_false_iff_ne]; omega
theorem int_eq (m n : Int) : (m == n) = decide (m = n) := by
  by_cases h : m = n
  · rw [h]; simp
  · rw [decide_eq_false h, beq_eq_false_iff_ne]; exact h
section
variable {t : TypeId} (p : Pv) (w : World)
theorem prt_0 : (part 22 (pgV p) 0).run Try.prog w = .ok (.int .u32 p.e) w := by simp [part, isAgg, run_underlying Try.underlying22, pgV]
theorem prt_1 : (part 22 (pgV p) 1).run Try.prog w = .ok (.int .u32 p.n) w := by simp [part, isAgg, run_underlying Try.underlying22, pgV]
theorem prt_2 : (part 3 (pgV p) 2).run Try.prog w = .ok (.int .i64 p.k) w := by simp [part, isAgg, run_underlying Try.underlying3, pgV]
theorem prt_3 : (part 4 (pgV p) 3).run Try.prog w = .ok (.bool p.f) w := by simp [part, isAgg, run_underlying Try.underlying4, pgV]
theorem prt_4 : (part 4 (pgV p) 4).run Try.prog w = .ok (.bool p.l) w := by simp [part, isAgg, run_underlying Try.underlying4, pgV]
theorem prt_5 : (part 9 (pgV p) 5).run Try.prog w = .ok (.string ⟨p.d.toArray⟩) w := by simp [part, isAgg, run_underlying Try.underlying9, pgV]
end
theorem fields_is (p q : Pv) (w : World) (n0 n1 n2 n3 n4 n5 : String) (h0 : n0 ≠ "_") (h1 : n1 ≠ "_") (h2 : n2 ≠ "_") (h3 : n3 ≠ "_") (h4 : n4 ≠ "_") (h5 : n5 ≠ "_") (f0 f1 f2 f3 f4 f5 : Field)
    (e0 : f0.name = n0 ∧ f0.type = 22 ∧ f0.offset = 0) (e1 : f1.name = n1 ∧ f1.type = 22 ∧ f1.offset = 1) (e2 : f2.name = n2 ∧ f2.type = 3 ∧ f2.offset = 2) (e3 : f3.name = n3 ∧ f3.type = 4 ∧ f3.offset = 3) (e4 : f4.name = n4 ∧ f4.type = 4 ∧ f4.offset = 4) (e5 : f5.name = n5 ∧ f5.type = 9 ∧ f5.offset = 5) :
    (Op.eqFields 9999 (pgV p) (pgV q) [f0, f1, f2, f3, f4, f5]).run Try.prog w = .ok (pEq p q) w := by
  obtain ⟨a0, b0, c0⟩ := e0
  obtain ⟨a1, b1, c1⟩ := e1
  obtain ⟨a2, b2, c2⟩ := e2
  obtain ⟨a3, b3, c3⟩ := e3
  obtain ⟨a4, b4, c4⟩ := e4
  obtain ⟨a5, b5, c5⟩ := e5
  have i0 := fun x y => run_equalIn_int (P := Try.prog) w 9998 22 .u32 .u32 x y Try.underlying22
  have i2 := fun x y => run_equalIn_int (P := Try.prog) w 9998 3 .i64 .i64 x y Try.underlying3
  have i3 := fun x y => run_equalIn_bool' (P := Try.prog) w 9998 4 x y Try.underlying4
  have i5 := fun x y => run_equalIn_string (P := Try.prog) w 9998 9 x y Try.underlying9
  unfold pEq
  unfold Op.eqFields
  rw [if_pos (by rw [a0]; exact h0), b0, c0]
  simp only [Sem.run_bind, prt_0, Result.andThen_ok, i0, nat_eq]
  cases decide (p.e = q.e)
  · simp
  simp only [Bool.not_true, Bool.false_eq_true, if_false, Bool.true_and]
  unfold Op.eqFields
  rw [if_pos (by rw [a1]; exact h1), b1, c1]
  simp only [Sem.run_bind, prt_1, Result.andThen_ok, i0, nat_eq]
  cases decide (p.n = q.n)
  · simp
  simp only [Bool.not_true, Bool.false_eq_true, if_false, Bool.true_and]
  unfold Op.eqFields
  rw [if_pos (by rw [a2]; exact h2), b2, c2]
  simp only [Sem.run_bind, prt_2, Result.andThen_ok, i2, int_eq]
  cases decide (p.k = q.k)
  · simp
  simp only [Bool.not_true, Bool.false_eq_true, if_false, Bool.true_and]
  unfold Op.eqFields
  rw [if_pos (by rw [a3]; exact h3), b3, c3]
  simp only [Sem.run_bind, prt_3, Result.andThen_ok, i3]
  cases (p.f == q.f)
  · simp
  simp only [Bool.not_true, Bool.false_eq_true, if_false, Bool.true_and]
  unfold Op.eqFields
  rw [if_pos (by rw [a4]; exact h4), b4, c4]
  simp only [Sem.run_bind, prt_4, Result.andThen_ok, i3]
  cases (p.l == q.l)
  · simp
  simp only [Bool.not_true, Bool.false_eq_true, if_false, Bool.true_and]
  unfold Op.eqFields
  rw [if_pos (by rw [a5]; exact h5), b5, c5]
  simp only [Sem.run_bind, prt_5, Result.andThen_ok, i5, str_eq]
  cases decide (p.d = q.d)
  · simp
  simp [Op.eqFields]
theorem pages_is (p q : Pv) (w : World) : (Op.equalIn 10000 36 (.agg (pgV p)) (.agg (pgV q))).run Try.prog w = .ok (pEq p q) w := by
  rw [run_equalIn_agg w 9999 _ _ _ (by unfold Program.fieldsOf; rw [Try.underlying36]) Try.stoodInHeld36]
  unfold Program.fieldsOf
  rw [Try.underlying36]
  exact fields_is p q w _ _ _ _ _ _ (by decide) (by decide) (by decide) (by decide) (by decide) (by decide) _ _ _ _ _ _ ⟨rfl, rfl, rfl⟩ ⟨rfl, rfl, rfl⟩ ⟨rfl, rfl, rfl⟩ ⟨rfl, rfl, rfl⟩ ⟨rfl, rfl, rfl⟩ ⟨rfl, rfl, rfl⟩
theorem rpages_is (p q : Pv) (w : World) : (Op.equalIn 10000 42 (.agg (pgV p)) (.agg (pgV q))).run Try.prog w = .ok (pEq p q) w := by
  rw [run_equalIn_agg w 9999 _ _ _ (by unfold Program.fieldsOf; rw [Try.underlying42]) Try.stoodInHeld42]
  unfold Program.fieldsOf
  rw [Try.underlying42]
  exact fields_is p q w _ _ _ _ _ _ (by decide) (by decide) (by decide) (by decide) (by decide) (by decide) _ _ _ _ _ _ ⟨rfl, rfl, rfl⟩ ⟨rfl, rfl, rfl⟩ ⟨rfl, rfl, rfl⟩ ⟨rfl, rfl, rfl⟩ ⟨rfl, rfl, rfl⟩ ⟨rfl, rfl, rfl⟩
end Go.Proofs.Ytmaelcjmojhlpaa.Pa
