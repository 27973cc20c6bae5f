/- Pg0: rows of bytes: compared, zero (Pg's first part). For every package; the types are handed in. -/
import Derived.Test.YtbbeekpndhfpjaaRowMv2
import Derived.Deep.MidRow
set_option maxRecDepth 100000
set_option linter.unusedVariables false
namespace Go.Proofs.Ytbbeekpndhfpjaa.Row
open Go.RowKit

/-- T is a row of m bytes: p's. -/
def IsRow8 (m : Nat) (p : Nat → Int) (T : Array Value) : Prop := T.size = m ∧ T.all (·.oneCell') = true ∧ ∀ k, k < m → T[k]? = some (.int .u8 (p k))
theorem isRow8_of {m : Nat} {p : Nat → Int} {T : Array Value} (h : T.size = m) (h3 : ∀ k, k < m → T[k]? = some (.int .u8 (p k))) : IsRow8 m p T := by
  refine ⟨h, ?_, h3⟩
  rw [Array.all_eq_true]
  intro i hi
  have := h3 i (by omega)
  rw [Array.getElem?_eq_getElem hi] at this
  injection this with this
  rw [this]; rfl
theorem isRow8 (m : Nat) (p : Nat → Int) : IsRow8 m p (Array.ofFn (n := m) fun k => .int .u8 (p k)) :=
  isRow8_of (by simp) fun k hk => by simp [hk]
theorem IsRow8.eq {m : Nat} {p q : Nat → Int} {T U : Array Value} (h : IsRow8 m p T) (h' : IsRow8 m q U) (e : ∀ k, k < m → p k = q k) : T = U := by
  apply Array.ext_getElem?
  intro i
  by_cases hi : i < m
  · rw [h.2.2 i hi, h'.2.2 i hi, e i hi]
  · rw [Array.getElem?_eq_none (by rw [h.1]; omega), Array.getElem?_eq_none (by rw [h'.1]; omega)]
theorem IsRow8.ext {m : Nat} {p q : Nat → Int} {T : Array Value} (h : IsRow8 m p T) (e : ∀ k, k < m → p k = q k) : IsRow8 m q T :=
  ⟨h.1, h.2.1, fun k hk => by rw [h.2.2 k hk, e k hk]⟩
/-- A number in a row of bytes that stands. -/
theorem IsRow8.cell {w : World} {g m : Nat} {p : Nat → Int} {T : Array Value} {t : TypeId} (hT : IsRow8 m p T) (h : At w g T t) (k : Nat) (hk : k < m) : w.cell? ⟨g, k, none⟩ = some (.int .u8 (p k)) := by
  rw [cell_of_row _ _ k _ _ _ h, hT.2.2 k hk]

theorem size_one {e : TypeId} (h : (Try.prog.info? e).map (·.size) = some 1) (w : World) : (sizeOf e).run Try.prog w = .ok 1 w := by
  cases hi : Try.prog.info? e with
  | none => rw [hi] at h; cases h
  | some i =>
    rw [hi] at h
    injection h with h
    simp [sizeOf, typeInfo, hi, h]
theorem part_u8 {e : TypeId} (hu : Try.prog.underlying e = some (.int .u8)) {T : Array Value} {i : Nat} {x : Int} (h : T[i]? = some (.int .u8 x)) (w : World) : (part e T (i * 1)).run Try.prog w = .ok (.int .u8 x) w := by
  simp [part, isAgg, run_underlying hu, h]
/-- Rows of bytes compared, byte by byte. -/
theorem run_rows8 {t e : TypeId} {m d : Nat} {f g : Nat → Int} {T U : Array Value} (hu : Try.prog.underlying t = some (.array m e)) (he : Try.prog.underlying e = some (.int .u8)) (hs : (Try.prog.info? e).map (·.size) = some 1)
    (hT : IsRow8 m f T) (hU : IsRow8 m g U) (w : World) :
    (Op.equalIn (d + 2) t (.agg T) (.agg U)).run Try.prog w = .ok ((List.range' 0 m 1).all fun i => f i == g i) w := by
  rw [Op.equalIn]
  simp only [Sem.run_bind, run_underlying hu, Result.andThen_ok, size_one hs, Std.Legacy.Range.forIn_eq_forIn_range', Std.Legacy.Range.size, Nat.sub_zero, Nat.add_sub_cancel, Nat.div_one]
  have hl : ∀ i ∈ List.range' 0 m 1, i < m := fun i hi => by simpa using (List.mem_range'_1.1 hi).2
  generalize List.range' 0 m 1 = l at hl ⊢
  induction l with
  | nil => simp
  | cons i l ih =>
    have hi : i < m := hl i (by simp)
    have pe : (Op.equalIn (d + 1) e (.int .u8 (f i)) (.int .u8 (g i))).run Try.prog w = .ok (f i == g i) w := run_equalIn_int w d _ .u8 .u8 _ _ he
    simp only [List.forIn_cons, Sem.run_bind, part_u8 he (hT.2.2 i hi), part_u8 he (hU.2.2 i hi), pe, Result.andThen_ok, List.all_cons]
    cases hb : (f i == g i)
    · simp
    · simp only [Bool.not_true, Bool.false_eq_true, if_false, Sem.run_pure, Result.andThen_ok, Bool.true_and]
      exact ih fun j hj => hl j (by simp [hj])
theorem rows8_eq {m : Nat} {f g : Nat → Int} {T U : Array Value} (hT : IsRow8 m f T) (hU : IsRow8 m g U) (h : ∀ i, i < m → f i = g i) {t e : TypeId} (hu : Try.prog.underlying t = some (.array m e)) (he : Try.prog.underlying e = some (.int .u8)) (hs : (Try.prog.info? e).map (·.size) = some 1) (w : World) :
    (Op.equalIn 10000 t (.agg T) (.agg U)).run Try.prog w = .ok true w := by
  rw [run_rows8 (d := 9998) hu he hs hT hU w]
  congr 1
  rw [List.all_eq_true]
  intro i hi
  rw [beq_iff_eq]
  exact h i (by simpa using (List.mem_range'_1.1 hi).2)
theorem rows8_ne {m : Nat} {f g : Nat → Int} {T U : Array Value} (hT : IsRow8 m f T) (hU : IsRow8 m g U) (i : Nat) (hi : i < m) (h : f i ≠ g i) {t e : TypeId} (hu : Try.prog.underlying t = some (.array m e)) (he : Try.prog.underlying e = some (.int .u8)) (hs : (Try.prog.info? e).map (·.size) = some 1) (w : World) :
    (Op.equalIn 10000 t (.agg T) (.agg U)).run Try.prog w = .ok false w := by
  rw [run_rows8 (d := 9998) hu he hs hT hU w]
  congr 1
  rw [List.all_eq_false]
  exact ⟨i, by simpa using hi, by simpa using h⟩
/-- Rows of bytes compared: whether they are one. -/
theorem rows8_is {m : Nat} {f g : Nat → Int} {T U : Array Value} (hT : IsRow8 m f T) (hU : IsRow8 m g U) {t e : TypeId} (hu : Try.prog.underlying t = some (.array m e)) (he : Try.prog.underlying e = some (.int .u8)) (hs : (Try.prog.info? e).map (·.size) = some 1) :
    ∃ b : Bool, (b = true ↔ ∀ i, i < m → f i = g i) ∧ ∀ w, (Op.equalIn 10000 t (.agg T) (.agg U)).run Try.prog w = .ok b w :=
  ⟨(List.range' 0 m 1).all fun i => f i == g i, by
    rw [List.all_eq_true]
    constructor
    · intro h i hi; simpa using h i (by rw [List.mem_range'_1]; omega)
    · intro h i hi; rw [beq_iff_eq]; exact h i (by simpa using (List.mem_range'_1.1 hi).2), run_rows8 (d := 9998) hu he hs hT hU⟩
end Go.Proofs.Ytbbeekpndhfpjaa.Row
