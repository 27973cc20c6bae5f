/- Slices of blocks in regions: an index, a block or a number loaded, whether the region draws its order or not. For every package. -/
import Derived.Test.YtfpmajlgbipbmaaBks
import Derived.Test.YtfpmajlgbipbmaaRowMvY
set_option maxRecDepth 100000
set_option linter.unusedVariables false
namespace Go.Proofs.Ytfpmajlgbipbmaa.Row
open Go.RowKit

theorem size_block (w : World) : (sizeOf 29).run Try.prog w = .ok 16 w := by
  obtain ⟨i, h1, _, h2, _⟩ := info_block
  simp [sizeOf, typeInfo, h1, h2]
theorem run_bx {g n c k : Nat} (hk : k < n) (w : World) :
    (Instr.indexAt 28 (.slice (some ⟨g, 0, none⟩) n c) (.int .i64 k)).run Try.prog w = .ok (.pointer (some ⟨g, k * 16, none⟩)) w := by
  have h : (0 : Int) ≤ (k : Int) ∧ (k : Int) < (n : Int) := by omega
  unfold Instr.indexAt
  simp only [Sem.run_bind, asIntOf, Sem.run_pure, Result.andThen_ok, run_underlying Try.underlying28, if_pos h, size_block]
  simp only [Addr.add, Int.toNat_natCast, Nat.zero_add]
  split <;> simp_all
theorem run_bj {t : TypeId} {g o k m : Nat} (hu : Try.prog.underlying t = some (.array m 3)) (hk : k < m) (w : World) :
    (Instr.indexAt t (.pointer (some ⟨g, o, none⟩)) (.int .i64 k)).run Try.prog w = .ok (.pointer (some ⟨g, o + k, none⟩)) w := by
  have h : (0 : Int) ≤ (k : Int) ∧ (k : Int) < (m : Int) := by omega
  unfold Instr.indexAt
  simp only [Sem.run_bind, asIntOf, Sem.run_pure, Result.andThen_ok, Instr.sureAddr, run_underlying hu, if_pos h, sizeOf_int]
  simp only [Addr.add, Nat.mul_one, Int.toNat_natCast]
  split <;> simp_all
/-- A row loaded of a part of a block that is known by its cells. -/
theorem wpList_load_range {ops : Array Oper} {rest : List Oper} {o : Oper} {a : Act} {w : World} {Q : Exit → Act → World → Prop} (hw : Region.wanted o (yielded ops a.tmps) = true) (ty : TypeId) (x : Operand) (ho : o.op = .load ty x)
    (g l : Nat) (hx : a.eval x = .pointer (some ⟨g, l, none⟩)) {U : Array Value} (hc : w.rangeAt g l U.toList) {d : TypeDesc} (hu : Try.prog.underlying ty = some d) (hd : d.isRow = true) (hi : (Try.prog.info? ty).map (·.size) = some U.size)
    (hK : wpList Try.prog ops Q rest (a.put o.dst (.agg U)) w) : wpList Try.prog ops Q (o :: rest) a w := by
  rw [wpList, if_pos hw]
  refine .inl (wp_load_mid ty x ho g l hx U.toList d hc hu hd (by rw [Array.length_toList]; exact hi) ?_)
  rw [Array.toArray_toList]
  exact hK

section
variable {ops : Array Oper} {S : World → Prop} {a : Act} {oi : Oper}
theorem y_bx {y z : Operand} {g n c k : Nat} {x : Int} (hw : Region.wanted oi (yielded ops a.tmps) = true) (ho : oi.op = .indexAddr 28 y z) (hy : a.eval y = .slice (some ⟨g, 0, none⟩) n c) (hz : a.eval z = .int .i64 x)
    (hx : x = k) (hk : k < n) : YieldsIf Try.prog ops S oi (.pointer (some ⟨g, k * 16, none⟩)) a :=
  y_run hw fun w => by
    subst hx
    unfold execOp
    simp only [ho, hy, hz, run_bx hk, Sem.run_bind, Result.andThen_ok, Sem.run_pure]
theorem y_bj {t : TypeId} {y z : Operand} {g o k m : Nat} {x : Int} (hw : Region.wanted oi (yielded ops a.tmps) = true) (ho : oi.op = .indexAddr t y z) (hu : Try.prog.underlying t = some (.array m 3)) (hy : a.eval y = .pointer (some ⟨g, o, none⟩)) (hz : a.eval z = .int .i64 x)
    (hx : x = k) (hk : k < m) : YieldsIf Try.prog ops S oi (.pointer (some ⟨g, o + k, none⟩)) a :=
  y_run hw fun w => by
    subst hx
    unfold execOp
    simp only [ho, hy, hz, run_bj hu hk, Sem.run_bind, Result.andThen_ok, Sem.run_pure]
theorem y_load_range {ty : TypeId} {x : Operand} (hw : Region.wanted oi (yielded ops a.tmps) = true) (ho : oi.op = .load ty x) {g l : Nat} (hx : a.eval x = .pointer (some ⟨g, l, none⟩)) {U : Array Value} (hc : ∀ w, S w → w.rangeAt g l U.toList)
    {d : TypeDesc} (hu : Try.prog.underlying ty = some d) (hd : d.isRow = true) (hi : (Try.prog.info? ty).map (·.size) = some U.size) : YieldsIf Try.prog ops S oi (.agg U) a := by
  have := yieldsIf_load_mid (P := Try.prog) (S := S) hw ty x ho g l hx U.toList d hc hu hd (by rw [Array.length_toList]; exact hi)
  rwa [Array.toArray_toList] at this
theorem y_geq {t t' : TypeId} {y z : Operand} {m n : Int} {b : Bool} (hw : Region.wanted oi (yielded ops a.tmps) = true) (ho : oi.op = .binOp .geq t y z t') (hy : a.eval y = .int .i64 m) (hz : a.eval z = .int .i64 n) (hb : decide (m ≥ n) = b) : YieldsIf Try.prog ops S oi (.bool b) a :=
  y_run hw fun w => by
    unfold execOp
    simp only [ho, hy, hz]
    simp [go_sem, ← hb]
end
end Go.Proofs.Ytfpmajlgbipbmaa.Row
