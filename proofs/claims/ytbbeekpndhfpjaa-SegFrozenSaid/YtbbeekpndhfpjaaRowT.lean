/- Rows and structs of whatever type: loaded whole or in part, handed back, written out; one row as a result. For every package. -/
import Derived.Test.YtbbeekpndhfpjaaRowMv2
import Derived.Deep.MidRow
set_option maxRecDepth 100000
set_option linter.unusedVariables false
namespace Go.Proofs.Ytbbeekpndhfpjaa.Row
open Go.RowKit

/-- A row loaded of a part of a block that is known by its cells. -/
theorem wpList_load_range {ops : Array Oper} {rest : List Oper} {o : Oper} {a : Act} {w : World} {Q : Exit → Act → World → Prop} (hw : Region.wanted o (yielded ops a.tmps) = true) (ty : TypeId) (x : Operand) (ho : o.op = .load ty x)
    (g l : Nat) (hx : a.eval x = .pointer (some ⟨g, l, none⟩)) {U : Array Value} (hc : w.rangeAt g l U.toList) {d : TypeDesc} (hu : Try.prog.underlying ty = some d) (hd : d.isRow = true) (hi : (Try.prog.info? ty).map (·.size) = some U.size)
    (hK : wpList Try.prog ops Q rest (a.put o.dst (.agg U)) w) : wpList Try.prog ops Q (o :: rest) a w := by
  rw [wpList, if_pos hw]
  refine .inl (wp_load_mid ty x ho g l hx U.toList d hc hu hd (by rw [Array.length_toList]; exact hi) ?_)
  rw [Array.toArray_toList]
  exact hK

section
variable {ops : Array Oper} {S : World → Prop} {a : Act} {oi : Oper}
theorem y_load_range {ty : TypeId} {x : Operand} (hw : Region.wanted oi (yielded ops a.tmps) = true) (ho : oi.op = .load ty x) {g l : Nat} (hx : a.eval x = .pointer (some ⟨g, l, none⟩)) {U : Array Value} (hc : ∀ w, S w → w.rangeAt g l U.toList)
    {d : TypeDesc} (hu : Try.prog.underlying ty = some d) (hd : d.isRow = true) (hi : (Try.prog.info? ty).map (·.size) = some U.size) : YieldsIf Try.prog ops S oi (.agg U) a := by
  have := yieldsIf_load_mid (P := Try.prog) (S := S) hw ty x ho g l hx U.toList d hc hu hd (by rw [Array.length_toList]; exact hi)
  rwa [Array.toArray_toList] at this
end

/-- A row or a struct, and a number, as results. -/
theorem results_any_int {fn : Func} {p q : Tmp} {t u : TypeId} {z : Value} (h : fn.results = #[.cell p t, .tmp q]) (tmps : Array Value) (w : World) (g : Nat) (A : Array Value) (d : TypeDesc)
    (hp : tmps.getD p undef = .pointer (some ⟨g, 0, none⟩)) (hq : tmps.getD q undef = z) (hg : At w g A u)
    (hu : Try.prog.underlying t = some d) (hd : d.isRow = true) (hA : (Try.prog.info? t).map (·.size) = some A.size) :
    (results fn tmps).run Try.prog w = .ok (.tuple #[.agg A, z]) w := by
  have hp' : tmps[p]?.getD undef = .pointer (some ⟨g, 0, none⟩) := by simpa using hp
  have hq' : tmps[q]?.getD undef = z := by simpa using hq
  have h1 := run_loadVar_row w g u t A (0, 0) _ hg hu (by cases d <;> first | rfl | cases hd) hA
  simp [results, h, hp', hq', asAddr, h1]
/-- Two rows or structs as results. -/
theorem results_any_two {fn : Func} {p q : Tmp} {t u t' u' : TypeId} (h : fn.results = #[.cell p t, .cell q u]) (tmps : Array Value) (w : World) (g k : Nat) (A B : Array Value) (d d' : TypeDesc)
    (hp : tmps.getD p undef = .pointer (some ⟨g, 0, none⟩)) (hq : tmps.getD q undef = .pointer (some ⟨k, 0, none⟩)) (hg : At w g A t') (hk : At w k B u')
    (hu : Try.prog.underlying t = some d) (hd : d.isRow = true) (hA : (Try.prog.info? t).map (·.size) = some A.size)
    (hu' : Try.prog.underlying u = some d') (hd' : d'.isRow = true) (hB : (Try.prog.info? u).map (·.size) = some B.size) :
    (results fn tmps).run Try.prog w = .ok (.tuple #[.agg A, .agg B]) w := by
  have hp' : tmps[p]?.getD undef = .pointer (some ⟨g, 0, none⟩) := by simpa using hp
  have hq' : tmps[q]?.getD undef = .pointer (some ⟨k, 0, none⟩) := by simpa using hq
  have h1 := run_loadVar_row w g t' t A (0, 0) _ hg hu (by cases d <;> first | rfl | cases hd) hA
  have h2 := run_loadVar_row w k u' u B (0, 0) _ hk hu' (by cases d' <;> first | rfl | cases hd') hB
  simp [results, h, hp', hq', asAddr, h1, h2]

/-- A row or a struct written out, its parts as a list of values. -/
theorem wpList_build_parts {ops : Array Oper} {rest : List Oper} {o : Oper} {a : Act} {w : World} {Q : Exit → Act → World → Prop} (hw : Region.wanted o (yielded ops a.tmps) = true) (t : TypeId) (L : List (Nat × Operand)) (ho : o.op = .build t L.toArray)
    (vs : List (Nat × Value)) (hv : (L.map fun x => (x.1, a.eval x.2)) = vs) {C : Array Value} (hc : Try.prog.built t vs = some C)
    (h : wpList Try.prog ops Q rest (a.put o.dst (.agg C)) w) : wpList Try.prog ops Q (o :: rest) a w := by
  refine wpList_build_wanted hw t L.toArray ho C ?_ h
  rw [List.map_toArray, List.toList_toArray, ← hc, ← hv]
theorem y_build_parts {ops : Array Oper} {S : World → Prop} {oi : Oper} {a : Act} {t : TypeId} {L : List (Nat × Operand)} (hw : Region.wanted oi (yielded ops a.tmps) = true) (ho : oi.op = .build t L.toArray)
    (vs : List (Nat × Value)) (hv : (L.map fun x => (x.1, a.eval x.2)) = vs) {C : Array Value} (hc : Try.prog.built t vs = some C) : YieldsIf Try.prog ops S oi (.agg C) a := by
  refine y_build hw ho ?_
  rw [List.map_toArray, List.toList_toArray, ← hc, ← hv]

theorem At.all {w : World} {g : Nat} {T : Array Value} {t : TypeId} (h : At w g T t) : w.rangeAt g 0 T.toList := fun j v hj => by
  rw [Nat.zero_add, cell_of_row _ _ _ _ _ _ h, ← Array.getElem?_toList]
  exact hj
/-- A whole row or struct loaded. -/
theorem wpList_load_w {ops : Array Oper} {rest : List Oper} {o : Oper} {a : Act} {w : World} {Q : Exit → Act → World → Prop} (hw : Region.wanted o (yielded ops a.tmps) = true) (ty : TypeId) (x : Operand) (ho : o.op = .load ty x)
    (g : Nat) (hx : a.eval x = .pointer (some ⟨g, 0, none⟩)) {U : Array Value} {t : TypeId} (hA : At w g U t) {d : TypeDesc} (hu : Try.prog.underlying ty = some d) (hd : d.isRow = true) (hi : (Try.prog.info? ty).map (·.size) = some U.size)
    (hK : wpList Try.prog ops Q rest (a.put o.dst (.agg U)) w) : wpList Try.prog ops Q (o :: rest) a w :=
  wpList_load_range hw ty x ho g 0 hx hA.all hu hd hi hK
theorem y_load_w {ops : Array Oper} {S : World → Prop} {a : Act} {oi : Oper} {ty : TypeId} {x : Operand} (hw : Region.wanted oi (yielded ops a.tmps) = true) (ho : oi.op = .load ty x) {g : Nat} (hx : a.eval x = .pointer (some ⟨g, 0, none⟩)) {U : Array Value} {t : TypeId} (hc : ∀ w, S w → At w g U t)
    {d : TypeDesc} (hu : Try.prog.underlying ty = some d) (hd : d.isRow = true) (hi : (Try.prog.info? ty).map (·.size) = some U.size) : YieldsIf Try.prog ops S oi (.agg U) a :=
  y_load_range hw ho hx (fun w h => (hc w h).all) hu hd hi
/-- One row or struct as a result. -/
theorem results_any_one {fn : Func} {p : Tmp} {t u : TypeId} (h : fn.results = #[.cell p t]) (tmps : Array Value) (w : World) (g : Nat) (A : Array Value) (d : TypeDesc)
    (hp : tmps.getD p undef = .pointer (some ⟨g, 0, none⟩)) (hg : At w g A u) (hu : Try.prog.underlying t = some d) (hd : d.isRow = true) (hA : (Try.prog.info? t).map (·.size) = some A.size) :
    (results fn tmps).run Try.prog w = .ok (.agg A) w := by
  have hp' : tmps[p]?.getD undef = .pointer (some ⟨g, 0, none⟩) := by simpa using hp
  have h1 := run_loadVar_row w g u t A (0, 0) _ hg hu (by cases d <;> first | rfl | cases hd) hA
  simp [results, h, hp', asAddr, h1]
end Go.Proofs.Ytbbeekpndhfpjaa.Row
