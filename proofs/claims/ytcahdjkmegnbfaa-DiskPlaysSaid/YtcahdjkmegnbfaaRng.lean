/- A row loaded of a part of a block that is known by its cells, whether the region draws its order or not; a row stored into a part. For every package. -/
import Derived.Test.YtcahdjkmegnbfaaRowMvY
import Derived.Test.YtcahdjkmegnbfaaStA0
set_option maxRecDepth 100000
set_option linter.unusedVariables false
namespace Go.Proofs.Ytcahdjkmegnbfaa.Row
open Go.RowKit

/-- A row loaded of a part of a block that is known by its cells. -/
theorem wpList_load_range {ops : Array Oper} {rest : List Oper} {o : Oper} {a : Act} {w : World} {Q : Exit → Act → World → Prop} (hw : Region.wanted o (yielded ops a.tmps) = true) (ty : TypeId) (x : Operand) (ho : o.op = .load ty x)
    (g l : Nat) (hx : a.eval x = .pointer (some ⟨g, l, none⟩)) {U : Array Value} (hc : w.rangeAt g l U.toList) {d : TypeDesc} (hu : Try.prog.underlying ty = some d) (hd : d.isRow = true) (hi : (Try.prog.info? ty).map (·.size) = some U.size)
    (hK : wpList Try.prog ops Q rest (a.put o.dst (.agg U)) w) : wpList Try.prog ops Q (o :: rest) a w := by
  rw [wpList, if_pos hw]
  refine .inl (wp_load_mid ty x ho g l hx U.toList d hc hu hd (by rw [Array.length_toList]; exact hi) ?_)
  rw [Array.toArray_toList]
  exact hK

section
variable {ops : Array Oper} {S : World → Prop} {a : Act} {oi : Oper}
theorem y_load_range {ty : TypeId} {x : Operand} (hw : Region.wanted oi (yielded ops a.tmps) = true) (ho : oi.op = .load ty x) {g l : Nat} (hx : a.eval x = .pointer (some ⟨g, l, none⟩)) {U : Array Value} (hc : ∀ w, S w → w.rangeAt g l U.toList)
    {d : TypeDesc} (hu : Try.prog.underlying ty = some d) (hd : d.isRow = true) (hi : (Try.prog.info? ty).map (·.size) = some U.size) : YieldsIf Try.prog ops S oi (.agg U) a := by
  have := yieldsIf_load_mid (P := Try.prog) (S := S) hw ty x ho g l hx U.toList d hc hu hd (by rw [Array.length_toList]; exact hi)
  rwa [Array.toArray_toList] at this
end
end Go.Proofs.Ytcahdjkmegnbfaa.Row
