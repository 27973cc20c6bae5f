/- Texts of the walk, one behind the other. -/
import Derived.Test.YtfohinlldchdpaaGreatDoorRows
import Derived.WalkKit
import Derived.ProofKit
import Derived.OpenShut
import Derived.IntWalk
import Derived.Lib.Hide
import Derived.Laws.Rows
import Derived.Deep.WholeRow
import Derived.Deep.QuietTactic
import Derived.BigQuiet
import Derived.Deep.RegionHeld3
import Derived.Deep.MidRow
import Derived.Laws.StructEq
import Derived.Laws.Tables
import Derived.Carry
import Derived.ChangeSame
import Derived.ChangeArms
import Derived.OwnWalk
import Derived.Maps.AppendAt
import Derived.RangeFuncNested
import Derived.RangeFuncLeaves
import Derived.Shelf.Abstract

section
/- Rows of whole numbers in memory, for every package: what stands at a block, and what stays there; rows loaded, stored, compared, written out; numbers out of rows. -/
set_option maxRecDepth 100000
namespace Go.Proofs.YtfohinlldchdpaaGreatDoor.Row
open Go.ChangeShapes Go.WideShapes Go.ChangeAt Go.RowKit

theorem ret_int {k : IntKind} {a b : Int} (h : a = b) : Ending.returned (.int k a) = .returned (.int k b) := by rw [h]
theorem ret_bool {a b : Bool} (h : a = b) : Ending.returned (.bool a) = .returned (.bool b) := by rw [h]

/-- A row of m numbers: the first n are f's, the others 0. -/
def rowL (m : Nat) (f : Nat → Int) (n : Nat) : Array Value := Array.ofFn (n := m) fun i => Value.int .i64 (if i.val < n then f i.val else 0)

theorem rowL_size (m : Nat) (f : Nat → Int) (n : Nat) : (rowL m f n).size = m := by unfold rowL; exact Array.size_ofFn

theorem rowL_get (m : Nat) (f : Nat → Int) (n k : Nat) (hk : k < m) : (rowL m f n)[k]? = some (Value.int .i64 (if k < n then f k else 0)) := by
  unfold rowL
  rw [Array.getElem?_ofFn, dif_pos hk]

theorem rowL_next (m : Nat) (f : Nat → Int) (k : Nat) (hk : k < m) : (rowL m f k).setIfInBounds k (.int .i64 (f k)) = rowL m f (k + 1) := by
  apply Array.ext_getElem?
  intro i
  by_cases hi : i < m
  · by_cases e : k = i
    · subst e
      rw [Array.getElem?_setIfInBounds_self_of_lt (by rw [rowL_size]; exact hk), rowL_get _ _ _ _ hk, if_pos (by omega)]
    · rw [Array.getElem?_setIfInBounds_ne e, rowL_get _ _ _ _ hi, rowL_get _ _ _ _ hi]
      by_cases h : i < k
      · rw [if_pos h, if_pos (by omega)]
      · rw [if_neg h, if_neg (by omega)]
  · rw [Array.getElem?_eq_none (by rw [Array.size_setIfInBounds, rowL_size]; omega), Array.getElem?_eq_none (by rw [rowL_size]; omega)]

theorem rowL_one (m : Nat) (f : Nat → Int) (n : Nat) : (rowL m f n).all (·.oneCell') = true := by
  rw [Array.all_eq_true]
  intro i hi
  rw [rowL_size] at hi
  have := rowL_get m f n i hi
  rw [Array.getElem?_eq_getElem (by rw [rowL_size]; exact hi)] at this
  injection this with this
  rw [this]
  rfl

theorem below_setRow {w w' : World} (h : Below w.heap.size w w') (cs : Array Value) : Below w.heap.size w (w'.setRow w.heap.size cs) :=
  ⟨h.os, h.tape, h.output, by rw [size_setRow]; exact h.size, fun k hk => (setRow_other w' w.heap.size k cs (by omega)).trans (h.block k hk)⟩

theorem row_of0 (m : Nat) (f : Nat → Int) : rowL m f 0 = Array.replicate m (.int .i64 0) := by
  apply Array.ext_getElem?
  intro i
  by_cases hi : i < m
  · rw [rowL_get _ _ _ _ hi, if_neg (by omega), Array.getElem?_replicate, if_pos hi]
  · rw [Array.getElem?_eq_none (by rw [rowL_size]; omega), Array.getElem?_eq_none (by simp; omega)]


/-- At block b stands the row A. -/
def At (w : World) (b : Nat) (A : Array Value) (t : TypeId) : Prop := w.heap[b]? = some (.cells A t (0, 0))

theorem At.lt {w : World} {b : Nat} {A : Array Value} {t : TypeId} (h : At w b A t) : b < w.heap.size := by
  unfold At at h
  exact (Array.getElem?_eq_some_iff.1 h).1
theorem At.new (w : World) (A : Array Value) (t : TypeId) : At (w.alloc (.cells A t)) w.heap.size A t := heap_alloc_new _ _
theorem At.alloc {w : World} {b : Nat} {A : Array Value} {t : TypeId} (h : At w b A t) (o : Obj) : At (w.alloc o) b A t := (heap_alloc_old _ _ h.lt).trans h
theorem At.below {B : Nat} {w w' : World} {b : Nat} {A : Array Value} {t : TypeId} (h : At w b A t) (hb : Below B w w') (hl : b < B) : At w' b A t := (hb.block b hl).trans h
theorem At.setRow {w : World} {b : Nat} {A C : Array Value} {t : TypeId} (h : At w b A t) : At (w.setRow b C) b C t := setRow_heap _ _ _ _ _ _ h
theorem At.setRow_other {w : World} {b g : Nat} {A C : Array Value} {t : TypeId} (h : At w b A t) (hg : b ≠ g) : At (w.setRow g C) b A t := (Go.setRow_other _ _ _ _ hg).trans h
theorem At.setCell {w : World} {b i : Nat} {A : Array Value} {t : TypeId} {v : Value} (h : At w b A t) : At (w.setCell ⟨b, i, none⟩ v) b (A.setIfInBounds i v) t := heap_setCell_same _ _ _ _ _ _ h
theorem At.setCell_other {w : World} {b : Nat} {A : Array Value} {t : TypeId} {a : Addr} {v : Value} (h : At w b A t) (hg : b ≠ a.block) : At (w.setCell a v) b A t := (heap_setCell_other _ _ _ _ hg).trans h
theorem At.drewN {w : World} {b : Nat} {A : Array Value} {t : TypeId} (h : At w b A t) (n : Nat) : At (w.drewN n) b A t := h
theorem At.frozen {w : World} {b : Nat} {A : Array Value} {t : TypeId} (h : At w b A t) (j : Nat) : w.frozen? ⟨b, j, none⟩ = false := frozen_of_row _ _ _ _ _ h

/-- A is a row of m numbers: f's. -/
def IsRow (m : Nat) (f : Nat → Int) (T : Array Value) : Prop := T.size = m ∧ T.all (·.oneCell') = true ∧ ∀ k, k < m → T[k]? = some (.int .i64 (f k))

theorem isRow (m : Nat) (f : Nat → Int) : IsRow m f (rowL m f m) := ⟨rowL_size _ _ _, rowL_one _ _ _, fun k hk => by rw [rowL_get _ _ _ _ hk, if_pos hk]⟩
theorem IsRow.ext {m : Nat} {f g : Nat → Int} {T : Array Value} (h : IsRow m f T) (e : ∀ k, k < m → f k = g k) : IsRow m g T := ⟨h.1, h.2.1, fun k hk => by rw [← e k hk]; exact h.2.2 k hk⟩
theorem IsRow.eq {m : Nat} {f g : Nat → Int} {T U : Array Value} (h : IsRow m f T) (h' : IsRow m g U) (e : ∀ k, k < m → f k = g k) : T = U := by
  apply Array.ext_getElem?
  intro i
  by_cases hi : i < m
  · rw [h.2.2 i hi, h'.2.2 i hi, e i hi]
  · rw [Array.getElem?_eq_none (by rw [h.1]; omega), Array.getElem?_eq_none (by rw [h'.1]; omega)]
theorem IsRow.at {m : Nat} {f : Nat → Int} {T : Array Value} (h : IsRow m f T) : T = rowL m f m := h.eq (isRow m f) fun _ _ => rfl
theorem IsRow.cell {w : World} {g m : Nat} {f : Nat → Int} {T : Array Value} {t : TypeId} (hT : IsRow m f T) (h : At w g T t) (k : Nat) (hk : k < m) : w.cell? ⟨g, k, none⟩ = some (.int .i64 (f k)) := by
  rw [cell_of_row _ _ k _ _ _ h, hT.2.2 k hk]
theorem rowL_cell {w : World} {g m n : Nat} {f : Nat → Int} {t : TypeId} (h : At w g (rowL m f n) t) (k : Nat) (hk : k < m) : w.cell? ⟨g, k, none⟩ = some (.int .i64 (if k < n then f k else 0)) := by
  rw [cell_of_row _ _ k _ _ _ h, rowL_get _ _ _ _ hk]
theorem At.put {w : World} {b m k : Nat} {f : Nat → Int} {t : TypeId} (h : At w b (rowL m f k) t) (hk : k < m) : At (w.setCell ⟨b, k, none⟩ (.int .i64 (f k))) b (rowL m f (k + 1)) t := by
  rw [← rowL_next m f k hk]; exact h.setCell

theorem below_drewN {B : Nat} {w0 w : World} (h : Below B w0 w) (k : Nat) : Below B w0 (w.drewN k) := ⟨h.os, h.tape, h.output, h.size, h.block⟩
theorem below_setRow' {B b : Nat} {w w' : World} (h : Below B w w') (hb : B ≤ b) (cs : Array Value) : Below B w (w'.setRow b cs) :=
  ⟨h.os, h.tape, h.output, by rw [size_setRow]; exact h.size, fun k hk => (Go.setRow_other w' b k cs (by omega)).trans (h.block k hk)⟩
theorem below_trans {B : Nat} {w w1 w2 : World} (h : Below B w w1) (h2 : Below w1.heap.size w1 w2) (hB : B ≤ w1.heap.size) : Below B w w2 :=
  ⟨h2.os.trans h.os, h2.tape.trans h.tape, h2.output.trans h.output, Nat.le_trans h.size h2.size, fun k hk => (h2.block k (by omega)).trans (h.block k hk)⟩

/-- The zero value of a row's type, and its size, of one closed fact. -/
theorem zero_row {t : TypeId} {m : Nat} (h : (Tryz.prog.info? t).map (fun i => (i.zero, i.size)) = some (some (.agg (Array.replicate m (.int .i64 0))), m)) :
    ∃ Z, IsRow m (fun _ => 0) Z ∧ (∀ f, rowL m f 0 = Z) ∧ (∀ w, (zeroValue t).run Tryz.prog w = .ok (.agg Z) w) ∧ ∀ A : Array Value, A.size = m → (Tryz.prog.info? t).map (·.size) = some A.size := by
  obtain ⟨h1, h2⟩ := zero_of_info h
  refine ⟨_, ?_, row_of0 m, h1, fun A hA => by rw [h2, hA]⟩
  rw [← row_of0 m (fun _ => 0)]
  refine ⟨rowL_size _ _ _, rowL_one _ _ _, fun k hk => ?_⟩
  rw [rowL_get _ _ _ _ hk]
  by_cases e : k < 0
  · omega
  · rw [if_neg e]

theorem cell_set_other (w : World) (a b : Addr) (v : Value) (h : b.block ≠ a.block) : (w.setCell a v).cell? b = w.cell? b := by
  unfold World.cell?
  rw [heap_setCell_other _ _ _ _ h]
theorem cells2 {w : World} {a p q : Addr} {v x y : Value} (h : w.cell? p = some x ∧ w.cell? q = some y) (hp : p.block ≠ a.block) (hq : q.block ≠ a.block) : (w.setCell a v).drew.cell? p = some x ∧ (w.setCell a v).drew.cell? q = some y :=
  ⟨(cell_set_other w a p v hp).trans h.1, (cell_set_other w a q v hq).trans h.2⟩

/-- A number out of a row by value. -/
theorem run_index {t : TypeId} {m k : Nat} {x : Int} {T : Array Value} (hu : Tryz.prog.underlying t = some (.array m 3)) (hk : k < m) (hc : T[k]? = some (.int .i64 x)) (w : World) :
    (Instr.index t (.agg T) (.int .i64 k)).run Tryz.prog w = .ok (.int .i64 x) w := by
  simp [Instr.index, run_underlying hu, asIntOf, hk, hc, go_sem]

theorem first_bad {n : Nat} {P : Nat → Prop} (h : ¬ ∀ i, i < n → P i) : ∃ j, j < n ∧ ¬ P j ∧ ∀ i, i < j → P i := by
  induction n with
  | zero => exact absurd (fun i hi => absurd hi (Nat.not_lt_zero i)) h
  | succ n ih =>
    by_cases hn : ∀ i, i < n → P i
    · refine ⟨n, by omega, fun hp => h fun i hi => ?_, hn⟩
      by_cases e : i = n
      · subst e; exact hp
      · exact hn i (by omega)
    · obtain ⟨j, h1, h2, h3⟩ := ih hn
      exact ⟨j, by omega, h2, h3⟩

theorem IsRow.set {m k : Nat} {f : Nat → Int} {T : Array Value} (h : IsRow m f T) (x : Int) (hk : k < m) : IsRow m (fun i => if i = k then x else f i) (T.setIfInBounds k (.int .i64 x)) := by
  obtain ⟨h1, h2, h3⟩ := h
  refine ⟨by rw [Array.size_setIfInBounds, h1], ?_, fun i hi => ?_⟩
  · rw [Array.all_eq_true] at h2 ⊢
    intro i hi
    rw [Array.size_setIfInBounds] at hi
    by_cases e : k = i
    · subst e; rw [Array.getElem_setIfInBounds_self]; rfl
    · rw [Array.getElem_setIfInBounds_ne hi e]; exact h2 i hi
  · by_cases e : k = i
    · subst e
      show _ = some (Value.int .i64 (if k = k then x else f k))
      rw [if_pos rfl, Array.getElem?_setIfInBounds_self_of_lt (by omega)]
    · show _ = some (Value.int .i64 (if i = k then x else f i))
      rw [if_neg (by omega), Array.getElem?_setIfInBounds_ne e]; exact h3 i hi

theorem quiet_int {f : FuncId} {xs : Array Value} {w0 : World} {n : Nat} {c : Int}
    (h : Calls Tryz.prog f xs (w0.drewN n) fun e w' => e = .returned (.int .i64 c) ∧ w0.drewN n = w') :
    Calls Tryz.prog f xs (w0.drewN n) fun e w' => e = .returned (.int .i64 c) ∧ ∃ m, w' = w0.drewN m :=
  h.mono fun _ _ ⟨he, hw⟩ => ⟨he, n, hw.symm⟩

/-- A whole row out of its block. -/
theorem run_load {t : TypeId} {w : World} {g m : Nat} {e t' : TypeId} {A : Array Value} (hu : Tryz.prog.underlying t = some (.array m e)) (hA : At w g A t') (hi : (Tryz.prog.info? t).map (·.size) = some A.size) :
    (Instr.loadAt t (.pointer (some ⟨g, 0, none⟩))).run Tryz.prog w = .ok (.agg A) w := by
  simp only [Instr.loadAt, Instr.sureAddr, Sem.run_bind, Sem.run_pure, Result.andThen]
  exact run_loadVar_row w g t' t A (0, 0) _ hA hu rfl hi

/-- The same in a region, whether guarded or not. -/
theorem wpList_load_wanted {ops : Array Oper} {rest : List Oper} {o : Oper} {a : Act} {w : World} {Q : Exit → Act → World → Prop} (hw : Region.wanted o (yielded ops a.tmps) = true) (ty : TypeId) (x : Operand) (ho : o.op = .load ty x)
    (g : Nat) (hx : a.eval x = .pointer (some ⟨g, 0, none⟩)) (t : TypeId) (cs : Array Value) (m : Nat) (e : TypeId) (hg : At w g cs t)
    (hu : Tryz.prog.underlying ty = some (.array m e)) (hi : (Tryz.prog.info? ty).map (·.size) = some cs.size)
    (h : wpList Tryz.prog ops Q rest (a.put o.dst (.agg cs)) w) : wpList Tryz.prog ops Q (o :: rest) a w := by
  rw [wpList, if_pos hw]
  exact .inl (wp_load_row ty x ho g hx t cs (0, 0) _ hg hu rfl hi h)

/-- A whole row loaded in a region that draws its order. -/
theorem yields_load {ops : Array Oper} {S : World → Prop} {op : Oper} {a : Act} (hw : Region.wanted op (yielded ops a.tmps) = true) (ty : TypeId) (x : Operand) (ho : op.op = .load ty x)
    (b : Nat) (hx : a.eval x = .pointer (some ⟨b, 0, none⟩)) (A : Array Value) (m : Nat) (e : TypeId) (hS : ∀ w, S w → At w b A ty)
    (hu : Tryz.prog.underlying ty = some (.array m e)) (hi : (Tryz.prog.info? ty).map (·.size) = some A.size) : YieldsIf Tryz.prog ops S op (.agg A) a :=
  .inl ⟨hw, fun w hw' => by
    unfold execOp
    simp only [ho, hx, run_load hu (hS w hw') hi, Sem.run_bind, Sem.run_pure, Result.andThen_ok]⟩

/-- Two results that are rows. -/
theorem results_rows {fn : Func} {p q : Tmp} {t : TypeId} (h : fn.results = #[.cell p t, .cell q t]) (tmps : Array Value) (w : World) (g k : Nat) (A B : Array Value) (m : Nat) (e : TypeId)
    (hp : tmps.getD p undef = .pointer (some ⟨g, 0, none⟩)) (hq : tmps.getD q undef = .pointer (some ⟨k, 0, none⟩)) (hg : At w g A t) (hk : At w k B t)
    (hu : Tryz.prog.underlying t = some (.array m e)) (hA : (Tryz.prog.info? t).map (·.size) = some A.size) (hB : (Tryz.prog.info? t).map (·.size) = some B.size) :
    (results fn tmps).run Tryz.prog w = .ok (.tuple #[.agg A, .agg B]) w := by
  have hp' : tmps[p]?.getD undef = .pointer (some ⟨g, 0, none⟩) := by simpa using hp
  have hq' : tmps[q]?.getD undef = .pointer (some ⟨k, 0, none⟩) := by simpa using hq
  have h1 := run_loadVar_row w g t t A (0, 0) _ hg hu rfl hA
  have h2 := run_loadVar_row w k t t B (0, 0) _ hk hu rfl hB
  simp [results, h, hp', hq', asAddr, h1, h2]

theorem sizeOf_int (w : World) : (sizeOf 3).run Tryz.prog w = .ok 1 w := by
  have h : (Tryz.prog.info? 3).map (·.size) = some 1 := by kernel_rfl
  cases hi : Tryz.prog.info? 3 with
  | none => rw [hi] at h; cases h
  | some i =>
    rw [hi] at h
    injection h with h
    simp [sizeOf, typeInfo, hi, h]

theorem part_int {T : Array Value} {i : Nat} {x : Int} (h : T[i]? = some (.int .i64 x)) (w : World) : (part 3 T (i * 1)).run Tryz.prog w = .ok (.int .i64 x) w := by
  simp [part, isAgg, run_underlying Tryz.underlying3, h]

/-- Rows compared, number by number. -/
theorem run_rows {t : TypeId} {m d : Nat} {f g : Nat → Int} {T U : Array Value} (hu : Tryz.prog.underlying t = some (.array m 3)) (hT : IsRow m f T) (hU : IsRow m g U) (w : World) :
    (Op.equalIn (d + 2) t (.agg T) (.agg U)).run Tryz.prog w = .ok ((List.range' 0 m 1).all fun i => f i == g i) w := by
  rw [Op.equalIn]
  simp only [Sem.run_bind, run_underlying hu, Result.andThen_ok, sizeOf_int, Std.Legacy.Range.forIn_eq_forIn_range', Std.Legacy.Range.size, Nat.sub_zero, Nat.add_sub_cancel, Nat.div_one]
  have hl : ∀ i ∈ List.range' 0 m 1, i < m := fun i hi => by simpa using (List.mem_range'_1.1 hi).2
  generalize List.range' 0 m 1 = l at hl ⊢
  induction l with
  | nil => simp
  | cons i l ih =>
    have hi : i < m := hl i (by simp)
    have pe : (Op.equalIn (d + 1) 3 (.int .i64 (f i)) (.int .i64 (g i))).run Tryz.prog w = .ok (f i == g i) w := run_equalIn_int w d _ .i64 .i64 _ _ Tryz.underlying3
    simp only [List.forIn_cons, Sem.run_bind, part_int (hT.2.2 i hi), part_int (hU.2.2 i hi), pe, Result.andThen_ok, List.all_cons]
    cases hb : (f i == g i)
    · simp
    · simp only [Bool.not_true, Bool.false_eq_true, if_false, Sem.run_pure, Result.andThen_ok, Bool.true_and]
      exact ih fun j hj => hl j (by simp [hj])

theorem rows_eq {m : Nat} {f g : Nat → Int} {T U : Array Value} (hT : IsRow m f T) (hU : IsRow m g U) (h : ∀ i, i < m → f i = g i) {t : TypeId} (hu : Tryz.prog.underlying t = some (.array m 3)) (w : World) :
    (Op.equalIn 10000 t (.agg T) (.agg U)).run Tryz.prog w = .ok true w := by
  rw [run_rows (d := 9998) hu hT hU w]
  congr 1
  rw [List.all_eq_true]
  intro i hi
  rw [beq_iff_eq]
  exact h i (by simpa using (List.mem_range'_1.1 hi).2)
theorem rows_ne {m : Nat} {f g : Nat → Int} {T U : Array Value} (hT : IsRow m f T) (hU : IsRow m g U) (i : Nat) (hi : i < m) (h : f i ≠ g i) {t : TypeId} (hu : Tryz.prog.underlying t = some (.array m 3)) (w : World) :
    (Op.equalIn 10000 t (.agg T) (.agg U)).run Tryz.prog w = .ok false w := by
  rw [run_rows (d := 9998) hu hT hU w]
  congr 1
  rw [List.all_eq_false]
  exact ⟨i, by simpa using hi, by simpa using h⟩

/-- A row written out. -/
theorem wpList_build_wanted {ops : Array Oper} {rest : List Oper} {o : Oper} {a : Act} {w : World} {Q : Exit → Act → World → Prop} (hw : Region.wanted o (yielded ops a.tmps) = true) (t : TypeId) (parts : Array (Nat × Operand)) (ho : o.op = .build t parts)
    (C : Array Value) (hc : Tryz.prog.built t (parts.map fun (i, x) => (i, a.eval x)).toList = some C)
    (h : wpList Tryz.prog ops Q rest (a.put o.dst (.agg C)) w) : wpList Tryz.prog ops Q (o :: rest) a w := by
  rw [wpList, if_pos hw]
  refine .inl (wp_build t parts ho (by rw [hc]; rfl) ?_)
  rw [hc]
  exact h

theorem isRow_zero (m : Nat) : IsRow m (fun _ => 0) (Array.replicate m (.int .i64 0)) := by
  rw [← row_of0 m (fun _ => 0)]
  refine ⟨rowL_size _ _ _, rowL_one _ _ _, fun k hk => ?_⟩
  rw [rowL_get _ _ _ _ hk]
  by_cases e : k < 0
  · omega
  · rw [if_neg e]

def intsOf (T : Array Value) (k : Nat) : Int := match T[k]? with
  | some (.int _ x) => x
  | _ => 0

theorem mapM_each {α β : Type} {g : α → Option β} : ∀ {L : List α} {ys : List β}, L.mapM g = some ys → ∀ i ∈ L, ∃ y, g i = some y
  | [], _, _, _, hi => by cases hi
  | j :: L, ys, h, i, hi => by
    rw [List.mapM_cons] at h
    simp only [bind, Option.bind_eq_some_iff, pure, Option.some.injEq] at h
    obtain ⟨y, hy, zs, hz, rfl⟩ := h
    rcases List.mem_cons.1 hi with rfl | hi
    · exact ⟨y, hy⟩
    · exact mapM_each hz i hi

theorem open_row {H : Type} {enc : TypeId × Value → H} {W : World} {r : Reach} {base b0 : Nat} {sp : Nat → Bool} {held : Bool} {t e : TypeId} {m : Nat} {v : Value} {d : DataW H} {ps : List MemPlace}
    (hu : Tryz.prog.underlying t = some (.array m e)) (he : Tryz.prog.underlying e = some (.int .i64)) (hc : Tryz.prog.cellsOf e = 1) (hm : Tryz.prog.cellsOf t = m)
    (hok : Value.okWide Tryz.prog W r b0 t v) (h : DataW.Trod enc Tryz.prog W base sp held t v d ps) :
    ∃ T : Array Value, v = .agg T ∧ IsRow m (intsOf T) T ∧ ∀ k, k < m → (Lit.int .i64 (intsOf T k)).wf = true := by
  simp only [Value.okWide, hu] at hok
  obtain ⟨T, rfl, hs, _⟩ := hok
  rw [hm] at hs
  have key : ∀ k, k < m → ∃ x : Int, T[k]? = some (.int .i64 x) ∧ (Lit.int .i64 x).wf = true := by
    obtain ⟨fuel, hf⟩ := h
    cases fuel with
    | zero => simp [DataW.trod] at hf
    | succ n =>
      rw [DataW.trod_step] at hf
      unfold DataW.trodStep at hf
      simp only [hu, Value.cells] at hf
      rw [if_pos (by rw [hm]; simpa using hs)] at hf
      simp only [Option.map_eq_some_iff] at hf
      obtain ⟨ys, hy, _⟩ := hf
      intro k hk
      obtain ⟨y, hy⟩ := mapM_each hy k (by simpa using hk)
      obtain ⟨x, ex, _, wx⟩ := DataW.trod_int he hy
      refine ⟨x, ?_, wx⟩
      rw [hc, Nat.mul_one] at ex
      have : (T.toList.drop k)[0]? = some (.int .i64 x) := by
        have h2 : ((T.toList.drop k).take 1)[0]? = some (.int .i64 x) := by rw [ex]; rfl
        rw [List.getElem?_take_of_lt (by omega)] at h2
        exact h2
      simpa using this
  have hi : ∀ k, k < m → T[k]? = some (.int .i64 (intsOf T k)) ∧ (Lit.int .i64 (intsOf T k)).wf = true := fun k hk => by
    obtain ⟨x, hx, wx⟩ := key k hk
    have : intsOf T k = x := by unfold intsOf; rw [hx]
    rw [this]
    exact ⟨hx, wx⟩
  refine ⟨T, rfl, ⟨hs, ?_, fun k hk => (hi k hk).1⟩, fun k hk => (hi k hk).2⟩
  rw [Array.all_eq_true]
  intro i hi'
  have := (hi i (by omega)).1
  rw [Array.getElem?_eq_getElem hi'] at this
  injection this with this
  rw [this]
  rfl
end Go.Proofs.YtfohinlldchdpaaGreatDoor.Row
end

section
/- vect's number without its sign. -/
set_option maxRecDepth 100000
set_option linter.unusedVariables false
namespace Go.Proofs.YtfohinlldchdpaaGreatDoor.Ve
open Go.RowKit Go.Proofs.YtfohinlldchdpaaGreatDoor.Row

theorem unsigned_any (v : Int) (w : World) (h : -6975757441 ≤ v) (h' : v ≤ 6975757441) :
    Calls Tryz.prog 170 #[.int .i64 v] w fun e w' => e = .returned (.int .i64 v.natAbs) ∧ w = w' := by
  go_enter Tryz.func170, Tryz.ntmps170
  go_wp2
  all_goals
    go_ret
    refine ⟨ret_int ?_, rfl⟩
    omega
end Go.Proofs.YtfohinlldchdpaaGreatDoor.Ve
end

section
/- The document's size of a number. -/
set_option maxRecDepth 100000
set_option linter.unusedVariables false
namespace Go.Proofs.YtfohinlldchdpaaGreatDoor.Ve
open Go.RowKit Go.Proofs.YtfohinlldchdpaaGreatDoor.Row

/-- The document's size of a number. -/
def sz (x : Int) : Int := if x < -1099511627776 ∨ 1099511627776 < x then 1099511627776 else x.natAbs

theorem sz_small {x : Int} (h : -1099511627776 ≤ x) (h' : x ≤ 1099511627776) : sz x = x.natAbs := by unfold sz; rw [if_neg (by omega)]

theorem rowL_is (n : Nat) (f : Nat → Int) : IsRow n (fun _ => 0) (rowL n f 0) := by rw [row_of0]; exact isRow_zero n
end Go.Proofs.YtfohinlldchdpaaGreatDoor.Ve
end

section
/- Contract of the document's Pow. -/
namespace Go.Proofs.YtfohinlldchdpaaGreatDoor.Ref01
open Go.RowKit Go.Proofs.YtfohinlldchdpaaGreatDoor.Row
set_option linter.unusedVariables false

theorem pow_bd {k m : Nat} (h : k ≤ m) : (1 : Int) ≤ 2 ^ k ∧ (2 : Int) ^ k ≤ 2 ^ m := by
  have h1 : 1 ≤ 2 ^ k := Nat.one_le_two_pow
  have h2 : 2 ^ k ≤ 2 ^ m := Nat.pow_le_pow_right (by omega) h
  exact ⟨by exact_mod_cast h1, by exact_mod_cast h2⟩

theorem pow_any (n : Int) (w : World) (h1 : 0 ≤ n) (h2 : n ≤ 62) :
    Calls Tryz.prog 99 #[.int .i64 n] w fun e w' => e = .returned (.int .i64 (2 ^ n.toNat)) ∧ w = w' := by
  go_enter Tryz.func99, Tryz.ntmps99
  go_wp2
  go_loop [3, 4] (fun p i => ∃ k : Nat, (k : Int) ≤ n ∧ i = .int .i64 k ∧ p = .int .i64 (2 ^ k)) (fun _ i => n.toNat - (intOf i).toNat)
  case atStart => exact ⟨0, by omega, rfl, rfl⟩
  case round =>
    obtain ⟨k, hk, rfl, rfl⟩ := hrel
    by_cases hlt : (k : Int) < n
    · obtain ⟨hp, hq⟩ := pow_bd (show k ≤ 61 by omega)
      simp only [Int.reducePow] at hq
      go_wp2
      go_round
      case rel => exact ⟨k + 1, by omega, by go_num, by rw [Int.pow_succ, Int.mul_comm]⟩
      case measure => simp [intOf]; omega
    · go_wp2
      go_ret
      exact ⟨ret_int (by rw [show n.toNat = k by omega]), rfl⟩

theorem pow_as (n p : Int) (w : World) (h1 : 0 ≤ n) (h2 : n ≤ 62) (h : 2 ^ n.toNat = p) :
    Calls Tryz.prog 99 #[.int .i64 n] w fun e w' => e = .returned (.int .i64 p) ∧ w = w' := by
  subst h; exact pow_any n w h1 h2
end Go.Proofs.YtfohinlldchdpaaGreatDoor.Ref01
end

section
/- A struct (or a row) all of whose cells are whole numbers, however deep, that comes in as an argument: its numbers. -/
set_option linter.unusedVariables false
set_option maxRecDepth 100000
namespace Go.Proofs.YtfohinlldchdpaaGreatDoor.Row
open Go.ChangeShapes Go.WideShapes Go.ChangeAt Go.RowKit

/-- Whatever is read as t is numbers, cell by cell. -/
def Flat {H : Type} (enc : TypeId × Value → H) (W : World) (base : Nat) (sp : Nat → Bool) (held : Bool) (t : TypeId) : Prop :=
  ∀ fuel cs x, DataW.trod enc Tryz.prog W base sp held fuel t cs = some x → ∀ k, k < Tryz.prog.cellsOf t → ∃ n : Int, cs[k]? = some (.int .i64 n) ∧ (Lit.int .i64 n).wf = true

section
variable {H : Type} {enc : TypeId × Value → H} {W : World} {base : Nat} {sp : Nat → Bool} {held : Bool} {t e : TypeId} {m : Nat}

theorem Flat.int (ht : Tryz.prog.underlying t = some (.int .i64)) (hc : Tryz.prog.cellsOf t = 1) : Flat enc W base sp held t := fun fuel cs x h k hk => by
  obtain ⟨n, rfl, _, hw⟩ := DataW.trod_int ht h
  obtain rfl : k = 0 := by omega
  exact ⟨n, rfl, hw⟩

theorem Flat.part {cs : List Value} {o c k : Nat} {v : Value} (h : ((cs.drop o).take c)[k]? = some v) : cs[o + k]? = some v := by
  have hk : k < c := by
    have h1 := (List.getElem?_eq_some_iff.1 h).1
    simp only [List.length_take] at h1
    omega
  rw [List.getElem?_take_of_lt hk, List.getElem?_drop] at h
  exact h

theorem Flat.array (hf : Flat enc W base sp held e) (ht : Tryz.prog.underlying t = some (.array m e)) (hc : Tryz.prog.cellsOf t = m * Tryz.prog.cellsOf e) : Flat enc W base sp held t := fun fuel cs x h k hk => by
  obtain ⟨xs, n, _, _, hl, hx, hi⟩ := DataW.trod_array ht h
  rw [hc] at hk
  have hc0 : 0 < Tryz.prog.cellsOf e := by
    rcases Nat.eq_zero_or_pos (Tryz.prog.cellsOf e) with h0 | h0
    · rw [h0] at hk; omega
    · exact h0
  have hd : k / Tryz.prog.cellsOf e < m := (Nat.div_lt_iff_lt_mul hc0).2 hk
  have hr := hi _ hd
  rw [List.getElem?_eq_getElem (by omega)] at hr
  obtain ⟨v, hv, hw⟩ := hf _ _ _ hr _ (Nat.mod_lt k hc0)
  refine ⟨v, ?_, hw⟩
  have := Flat.part hv
  rwa [Nat.mul_comm, Nat.div_add_mod] at this

theorem Flat.struct {fs : Array Field} (ht : Tryz.prog.underlying t = some (.struct fs)) (hf : ∀ (i : Nat) (f : Field), fs[i]? = some f → Flat enc W base sp held f.type)
    (hc : ∀ k, k < Tryz.prog.cellsOf t → ∃ (i : Nat) (f : Field), fs[i]? = some f ∧ f.offset ≤ k ∧ k < f.offset + Tryz.prog.cellsOf f.type) : Flat enc W base sp held t := fun fuel cs x h k hk => by
  obtain ⟨xs, n, _, _, hl, hx, hi⟩ := DataW.trod_struct ht h
  obtain ⟨i, f, h1, h2, h3⟩ := hc k hk
  have hs : i < xs.length := by rw [hx]; exact (Array.getElem?_eq_some_iff.1 h1).1
  have hr := hi i f h1
  rw [List.getElem?_eq_getElem hs] at hr
  obtain ⟨v, hv, hw⟩ := hf i f h1 _ _ _ hr (k - f.offset) (by omega)
  refine ⟨v, ?_, hw⟩
  have := Flat.part hv
  rwa [Nat.add_sub_cancel' h2] at this

theorem open_flat {r : Reach} {b0 : Nat} {v : Value} {d : DataW H} {ps : List MemPlace} {td : TypeDesc} (hu : Tryz.prog.underlying t = some td) (hd : td.isRow = true) (hf : Flat enc W base sp held t) (hm : Tryz.prog.cellsOf t = m)
    (hok : Value.okWide Tryz.prog W r b0 t v) (h : DataW.Trod enc Tryz.prog W base sp held t v d ps) :
    ∃ T : Array Value, v = .agg T ∧ IsRow m (intsOf T) T ∧ ∀ k, k < m → (Lit.int .i64 (intsOf T k)).wf = true := by
  have hok' : ∃ T : Array Value, v = .agg T ∧ T.size = m := by
    unfold Value.okWide at hok
    rw [hu, hm] at hok
    cases td <;> first | (cases hd; done) | (obtain ⟨T, h1, h2, _⟩ := hok; exact ⟨T, h1, h2⟩)
  obtain ⟨T, rfl, hs⟩ := hok'
  obtain ⟨fuel, hfu⟩ := h
  have key : ∀ k, k < m → ∃ x : Int, T[k]? = some (.int .i64 x) ∧ (Lit.int .i64 x).wf = true := fun k hk => by
    obtain ⟨x, hx, wx⟩ := hf _ _ _ hfu k (by omega)
    exact ⟨x, by simpa [Value.cells] using hx, wx⟩
  have hi : ∀ k, k < m → T[k]? = some (.int .i64 (intsOf T k)) ∧ (Lit.int .i64 (intsOf T k)).wf = true := fun k hk => by
    obtain ⟨x, hx, wx⟩ := key k hk
    have : intsOf T k = x := by unfold intsOf; rw [hx]
    rw [this]
    exact ⟨hx, wx⟩
  refine ⟨T, rfl, ⟨hs, ?_, fun k hk => (hi k hk).1⟩, fun k hk => (hi k hk).2⟩
  rw [Array.all_eq_true]
  intro i hi'
  have := (hi i (by omega)).1
  rw [Array.getElem?_eq_getElem hi'] at this
  injection this with this
  rw [this]
  rfl
end
end Go.Proofs.YtfohinlldchdpaaGreatDoor.Row
end

section
/- What a call may have changed: the blocks that T names, and new ones. -/
set_option maxRecDepth 100000
namespace Go.Proofs.YtfohinlldchdpaaGreatDoor.Row
open Go.RowKit

/-- All blocks that stood in w, but T's, stand as they were. -/
structure Fr (T : Nat → Prop) (w w' : World) : Prop where
  os : w'.os = w.os
  tape : w'.tape = w.tape
  output : w'.output = w.output
  size : w.heap.size ≤ w'.heap.size
  block : ∀ k, k < w.heap.size → ¬ T k → w'.heap[k]? = w.heap[k]?

theorem Fr.refl (T : Nat → Prop) (w : World) : Fr T w w := ⟨rfl, rfl, rfl, Nat.le_refl _, fun _ _ _ => rfl⟩
theorem Fr.of_below {T : Nat → Prop} {w w' : World} (h : Below w.heap.size w w') : Fr T w w' := ⟨h.os, h.tape, h.output, h.size, fun k hk _ => h.block k hk⟩
theorem Fr.trans {T U : Nat → Prop} {w w1 w2 : World} (h : Fr T w w1) (k : Fr U w1 w2) (hU : ∀ i, i < w.heap.size → U i → T i) : Fr T w w2 :=
  ⟨k.os.trans h.os, k.tape.trans h.tape, k.output.trans h.output, Nat.le_trans h.size k.size, fun i hi hT => (k.block i (Nat.lt_of_lt_of_le hi h.size) fun hu => hT (hU i hi hu)).trans (h.block i hi hT)⟩
theorem Fr.same {T : Nat → Prop} {w w1 w2 : World} (h : Fr T w w1) (k : Fr T w1 w2) : Fr T w w2 := h.trans k fun _ _ h => h
theorem Fr.below_trans {T : Nat → Prop} {w w1 w2 : World} (h : Fr T w w1) (k : Below w1.heap.size w1 w2) : Fr T w w2 := h.same (.of_below k)
theorem Fr.mono {T U : Nat → Prop} {w w' : World} (h : Fr T w w') (hT : ∀ i, i < w.heap.size → T i → U i) : Fr U w w' := ⟨h.os, h.tape, h.output, h.size, fun k hk hu => h.block k hk fun ht => hu (hT k hk ht)⟩
theorem Fr.drew {T : Nat → Prop} {w w' : World} (h : Fr T w w') : Fr T w w'.drew := ⟨h.os, h.tape, h.output, h.size, h.block⟩
theorem Fr.drewN {T : Nat → Prop} {w w' : World} (h : Fr T w w') (n : Nat) : Fr T w (w'.drewN n) := ⟨h.os, h.tape, h.output, h.size, h.block⟩
theorem Fr.alloc {T : Nat → Prop} {w w' : World} (h : Fr T w w') (o : Obj) : Fr T w (w'.alloc o) :=
  h.below_trans ((Below.refl _ _).alloc (Nat.le_refl _) o)
theorem Fr.setCell {T : Nat → Prop} {w w' : World} (h : Fr T w w') {p : Addr} (hp : T p.block ∨ w.heap.size ≤ p.block) (v : Value) : Fr T w (w'.setCell p v) :=
  ⟨h.os, h.tape, h.output, by simpa [World.setCell] using h.size, fun k hk hT => (Below.heap_setCell _ _ _ _ (fun e => by subst e; rcases hp with hp | hp; exact hT hp; omega)).trans (h.block k hk hT)⟩
theorem Fr.setRow {T : Nat → Prop} {w w' : World} (h : Fr T w w') {b : Nat} (hp : T b ∨ w.heap.size ≤ b) (A : Array Value) : Fr T w (w'.setRow b A) :=
  ⟨h.os, h.tape, h.output, by rw [size_setRow]; exact h.size, fun k hk hT => (Go.setRow_other _ _ _ _ (fun e => by subst e; rcases hp with hp | hp; exact hT hp; omega)).trans (h.block k hk hT)⟩
theorem Fr.grown {T : Nat → Prop} {w w1 w2 : World} {row : Option Nat} (h : Fr T w w1) (hg : w1.grownBy w2 row) (hr : ∀ k, row = some k → T k ∨ w.heap.size ≤ k) : Fr T w w2 :=
  ⟨hg.os.trans h.os, hg.tape.trans h.tape, hg.output.trans h.output, Nat.le_trans h.size hg.size, fun k hk hT => (hg.block k (Nat.lt_of_lt_of_le hk h.size) (fun e => by rcases hr k e.symm with h | h; exact hT h; omega)).trans (h.block k hk hT)⟩
theorem Fr.below {T : Nat → Prop} {B : Nat} {w w' : World} (h : Fr T w w') (hB : B ≤ w.heap.size) (hT : ∀ k, T k → B ≤ k) : Below B w w' :=
  ⟨h.os, h.tape, h.output, h.size, fun k hk => h.block k (by omega) fun ht => by have := hT k ht; omega⟩
theorem Fr.none {w w' : World} (h : Fr (fun _ => False) w w') : Below w.heap.size w w' := h.below (Nat.le_refl _) fun _ h => h.elim
theorem At.fr {T : Nat → Prop} {w w' : World} {b : Nat} {A : Array Value} {t : TypeId} (hA : At w b A t) (h : Fr T w w') (hT : ¬ T b) : At w' b A t := (h.block b hA.lt hT).trans hA
theorem Fr.cell {T : Nat → Prop} {w w' : World} (h : Fr T w w') {p : Addr} {x : Value} (hc : w.cell? p = some x) (hT : ¬ T p.block) : w'.cell? p = some x :=
  (World.cell?_of_block (w := w) (h.block _ (block_lt_of_cell hc) hT)).trans hc
theorem Fr.owns {T : Nat → Prop} {w w' : World} {B sz n : Nat} {e : TypeId} {v : Value} {xs : List Value} (h : Fr T w w') (ho : w.ownsRow B e sz v n xs) (hT : ∀ k, v.ownBlock = some k → ¬ T k) : w'.ownsRow B e sz v n xs := by
  obtain ⟨h1, h2⟩ := ho
  refine ⟨h1, ?_⟩
  rcases h2 with h2 | ⟨g, cap, cur, rfl, h3, h4, h5⟩
  · exact .inl h2
  · exact .inr ⟨g, cap, cur, rfl, h3, (h.block g (Array.getElem?_eq_some_iff.1 h4).1 (hT g rfl)).trans h4, h5⟩
theorem owns_below {w w' : World} {B sz n : Nat} {e : TypeId} {v : Value} {xs : List Value} (ho : w.ownsRow B e sz v n xs) (h : Below w.heap.size w w') : w'.ownsRow B e sz v n xs :=
  Fr.owns (T := fun _ => False) (.of_below h) ho fun _ _ h => h

/-- Just block alone. -/
def Just (b k : Nat) : Prop := k = b
theorem Just.self (b : Nat) : Just b b := rfl
theorem just_iff {b k : Nat} : Just b k ↔ k = b := Iff.rfl

/-- The cell at number i of a row at a block. -/
theorem At.cell {w : World} {b : Nat} {A : Array Value} {t : TypeId} (h : At w b A t) (i : Nat) : w.cell? ⟨b, i, none⟩ = A[i]? := cell_of_row _ _ i _ _ _ h
end Go.Proofs.YtfohinlldchdpaaGreatDoor.Row
end

section
/- A range over a function whose own state lies in cells: the iterator's contract, by the number of rounds, and the law of the statement over it, at the wide fence. -/
set_option maxRecDepth 100000
set_option linter.unusedVariables false
namespace Go.Proofs.YtfohinlldchdpaaGreatDoor.Rf
open Go.RowKit Go.Proofs.YtfohinlldchdpaaGreatDoor.Row Go.Shelf

/-- What holds of a world holds when new blocks are laid, and one at or beyond B is turned, whatever it is. -/
def Deaf (B : Nat) (J : World → Prop) : Prop := ∀ W W' row, J W → W.grownBy W' row → (∀ r, row = some r → B ≤ r) → J W'
theorem Deaf.mono {B C : Nat} {J : World → Prop} (h : Deaf B J) (hBC : B ≤ C) : Deaf C J := fun W W' row hj hg hr => h W W' row hj hg fun r e => Nat.le_trans hBC (hr r e)
theorem Deaf.and {B : Nat} {J K : World → Prop} (h : Deaf B J) (k : Deaf B K) : Deaf B fun W => J W ∧ K W := fun W W' row hj hg hr => ⟨h W W' row hj.1 hg hr, k W W' row hj.2 hg hr⟩
theorem Deaf.const (B : Nat) (p : Prop) : Deaf B fun _ => p := fun _ _ _ hj _ _ => hj
theorem Deaf.below {B n : Nat} {w : World} (hn : n ≤ w.heap.size) (hB : n ≤ B) : Deaf B fun W => Below n w W := fun W W' row hj hg hr => hj.grown hg (Nat.le_trans hn hj.size) fun k e => Nat.le_trans hB (hr k e)
theorem Deaf.at {B b : Nat} {A : Array Value} {t : TypeId} (hb : b < B) : Deaf B fun W => At W b A t := fun W W' row hj hg hr => (hg.block b hj.lt fun e => by have := hr b e.symm; omega).trans hj
theorem Deaf.put {B l : Nat} {J : World → Prop} (h : Deaf B J) (hl : B ≤ l) (o : Obj) {W : World} (hj : J W) : J (W.putObj l o) := h W _ (some l) hj (grownBy_putObj' W l o) fun r e => by cases e; exact hl
theorem Deaf.alloc {B : Nat} {J : World → Prop} (h : Deaf B J) (o : Obj) {W : World} (hj : J W) : J (W.alloc o) := h W _ none hj (World.grownBy_alloc W o none) fun r e => by cases e
theorem grownBy_setCell (W : World) (p : Addr) (v : Value) : W.grownBy (W.setCell p v) (some p.block) :=
  ⟨rfl, rfl, rfl, by simp [World.setCell], fun k _ hk => heap_setCell_other _ _ _ _ fun e => hk (by rw [e])⟩
theorem Deaf.setCell {B : Nat} {J : World → Prop} (h : Deaf B J) {p : Addr} (hp : B ≤ p.block) (v : Value) {W : World} (hj : J W) : J (W.setCell p v) := h W _ (some p.block) hj (grownBy_setCell W p v) fun r e => by cases e; exact hp
theorem Deaf.setRow {B : Nat} {J : World → Prop} (h : Deaf B J) {b : Nat} (hb : B ≤ b) (A : Array Value) {W : World} (hj : J W) : J (W.setRow b A) :=
  h W _ (some b) hj ⟨rfl, rfl, rfl, by rw [size_setRow]; exact Nat.le_refl _, fun k _ hk => setRow_other _ _ _ _ fun e => hk (by rw [e])⟩ fun r e => by cases e; exact hb

/-- The blocks from B on stand as they stood. -/
structure Kept (B : Nat) (W W' : World) : Prop where
  size : W.heap.size ≤ W'.heap.size
  same : ∀ k, B ≤ k → k < W.heap.size → W'.heap[k]? = W.heap[k]?
theorem Kept.refl (B : Nat) (W : World) : Kept B W W := ⟨Nat.le_refl _, fun _ _ _ => rfl⟩
theorem Kept.trans {B : Nat} {W W1 W2 : World} (h : Kept B W W1) (k : Kept B W1 W2) : Kept B W W2 := ⟨Nat.le_trans h.size k.size, fun i hB hi => (k.same i hB (Nat.lt_of_lt_of_le hi h.size)).trans (h.same i hB hi)⟩
theorem Kept.mono {B C : Nat} {W W' : World} (h : Kept B W W') (hBC : B ≤ C) : Kept C W W' := ⟨h.size, fun k hk => h.same k (Nat.le_trans hBC hk)⟩
theorem Kept.at {B b : Nat} {W W' : World} {A : Array Value} {t : TypeId} (h : Kept B W W') (hA : At W b A t) (hb : B ≤ b) : At W' b A t := (h.same b hb hA.lt).trans hA
theorem Kept.of_below {B : Nat} {W W' : World} (h : Below W.heap.size W W') : Kept B W W' := ⟨h.size, fun k _ hk => h.block k hk⟩
theorem Kept.put {B l : Nat} (W : World) (hl : l < B) (o : Obj) : Kept B W (W.putObj l o) := ⟨(grownBy_putObj' W l o).size, fun k hk _ => World.putObj_heap_other (by omega)⟩
theorem Kept.alloc (B : Nat) (W : World) (o : Obj) : Kept B W (W.alloc o) := .of_below ((Below.refl _ _).alloc (Nat.le_refl _) o)
theorem Kept.setCell {B : Nat} (W : World) {p : Addr} (hp : p.block < B) (v : Value) : Kept B W (W.setCell p v) := ⟨(grownBy_setCell W p v).size, fun k hk _ => heap_setCell_other _ _ _ _ (by omega)⟩
theorem Kept.drew (B : Nat) (W : World) : Kept B W W.drew := ⟨Nat.le_refl _, fun _ _ _ => rfl⟩

/-- An iterator hands E 0, E 1 .. to N rounds, one by one; it stops where a round says so; what it keeps itself lies in blocks of its own, which the rounds leave alone. -/
def Hands (n : Nat) (P : Program) (g N : Nat) (E : Nat → Array Value) : Prop :=
  ∀ (l : Nat) (J : Nat → World → Prop) (Jx : World → Prop) (W : World), (∀ i, Deaf W.heap.size (J i)) → Deaf W.heap.size Jx →
    (∀ i W1, i < N → J i W1 → YieldAt Fence.wide (n - 1) P l (E i) W1 fun e W' => (e = .returned (.bool true) ∧ J (i + 1) W' ∧ Kept W.heap.size W1 W') ∨ (e = .returned (.bool false) ∧ Jx W')) →
    J 0 W → CallsIn Fence.wide n P g #[.func (.yield l) #[] #[]] W fun e W' => (∃ v, e = .returned v) ∧ (J N W' ∨ Jx W')

/-- What a round's body must come to. -/
def RoundEnd (B : Nat) (I' Ix : World → Prop) (W : World) : Exit → Act → World → Prop
  | .normal, _, W' => Kept B W W' ∧ I' W'
  | .ret, _, W' => Kept B W W' ∧ Ix W'
  | _, _, _ => False

/-- The law of the statement: I i holds between two rounds, i of them done; Ix where a round has left by a return; Ax of the activation in which a round's body begins. -/
theorem range_over {n : Nat} {P : Program} {g : Operand} {ps : Array Tmp} {assign body : Code} {Q : Exit → Act → World → Prop} {a : Act} {w : World} {gf N : Nat} {E : Nat → Array Value}
    (hg : a.eval g = .func (.func gf) #[] #[]) (eg : ∀ args w, (callFunc gf args).run P w = .ok (.enter gf args) w) (hs : Hands (n - 1) P gf N E) (hps : ∀ i, (E i).size = ps.size)
    (I : Nat → World → Prop) (Ix : World → Prop) (hI : ∀ i, Deaf w.heap.size (I i)) (hIx : Deaf w.heap.size Ix) (h0 : I 0 w) (Ax : Nat → Act → World → Prop)
    (hAx : ∀ i a' W W', Ax i a' W → Kept (w.heap.size + 2) W W' → Ax i a' W')
    (hassign : ∀ (l i : Nat) (W : World) (K : Act → World → Prop), i < N → I i W → w.heap.size + 2 ≤ W.heap.size → (∀ a' W', Kept w.heap.size W W' → I i W' → Ax i a' W' → K a' W') →
      assign.wpIn (Fence.wide.inRound l) (n - 1 - 1) P (Exit.then K (fun _ _ _ => False)) { tmps := (ps.zip (E i)).foldl (fun t (p, v) => t.setIfInBounds p v) a.tmps, defers := [] } W)
    (hbody : ∀ (l i : Nat) (a' : Act) (W : World), i < N → I i W → Ax i a' W → body.wpIn (Fence.wide.inRound l) (n - 1 - 1) P (RoundEnd w.heap.size (I (i + 1)) Ix W) a' W)
    (hdone : ∀ (D : Nat) (W : World), w.heap.size ≤ D → I N W → W.heap[D]? = some (.deferred (some [])) → Q .normal { a with defers := { target := .collected D, args := #[] } :: a.defers } W)
    (hstop : ∀ (D : Nat) (W : World), w.heap.size ≤ D → Ix W → W.heap[D]? = some (.deferred (some [])) → Code.ret.wpIn Fence.wide n P Q { a with defers := { target := .collected D, args := #[] } :: a.defers } W) :
    (Code.rangeFunc g ps assign body).wpIn Fence.wide n P Q a w := by
  refine wpIn_rangeFunc fun fn hfn => ?_
  rw [show Fence.wide.round = none from rfl]
  -- the record, in its states
  obtain ⟨R, hR⟩ : ∃ R : LoopState → Option Code → Obj, R = fun st pe => .loop { state := st, pending := pe, fn, tmps := a.tmps, params := ps, assign, body, defers := w.heap.size } := ⟨_, rfl⟩
  obtain ⟨V, hV⟩ : ∃ V, (w.alloc (.deferred (some []))).alloc (R .ready none) = V := ⟨_, rfl⟩
  have hsz : V.heap.size = w.heap.size + 2 := by rw [← hV]; simp
  -- the two blocks of the statement
  obtain ⟨Two, hTwo⟩ : ∃ Two : LoopState → Option Code → World → Prop, Two = fun st pe W => W.heap[w.heap.size + 1]? = some (R st pe) ∧ W.heap[w.heap.size]? = some (.deferred (some [])) := ⟨_, rfl⟩
  have two_deaf : ∀ st pe, Deaf V.heap.size (Two st pe) := by
    intro st pe W W' row hj hg' hr
    rw [hTwo] at hj ⊢
    exact ⟨(hg'.block _ (Array.getElem?_eq_some_iff.1 hj.1).1 fun e => by have := hr _ e.symm; omega).trans hj.1, (hg'.block _ (Array.getElem?_eq_some_iff.1 hj.2).1 fun e => by have := hr _ e.symm; omega).trans hj.2⟩
  have two_kept : ∀ {st pe W W'}, Two st pe W → Kept w.heap.size W W' → Two st pe W' := by
    intro st pe W W' hj hk
    rw [hTwo] at hj ⊢
    exact ⟨(hk.same _ (by omega) (Array.getElem?_eq_some_iff.1 hj.1).1).trans hj.1, (hk.same _ (Nat.le_refl _) (Array.getElem?_eq_some_iff.1 hj.2).1).trans hj.2⟩
  have two_put : ∀ {st pe st' pe' W}, Two st pe W → Two st' pe' (W.putObj (w.heap.size + 1) (R st' pe')) := by
    intro st pe st' pe' W hj
    rw [hTwo] at hj ⊢
    exact ⟨World.putObj_heap_same (Array.getElem?_eq_some_iff.1 hj.1).1, (World.putObj_heap_other (by omega)).trans hj.2⟩
  have two0 : Two .ready none V := by
    rw [hTwo, ← hV]
    refine ⟨?_, (Below.heap_alloc _ _ _ (by simp)).trans (World.alloc_heap_new w _)⟩
    have := World.alloc_heap_new (w.alloc (.deferred (some []))) (R .ready none)
    rwa [World.size_alloc] at this
  refine ⟨w.heap.size + 1, [{ target := .collected w.heap.size, args := #[] }], V, { target := .fn (.func gf) #[], args := #[.func (.yield (w.heap.size + 1)) #[] #[]] }, V, gf, #[.func (.yield (w.heap.size + 1)) #[] #[]], V, ?_, ?_, fun _ _ => trivial, ?_, (fun h => nomatch h), ?_⟩
  · rw [← hV, hR]; exact run_enterLoop_outer _ _ _ _ _
  · simp only [resolve, hg]; simp [go_sem]
  · simp [invoke, go_sem, eg]
  refine (hs (w.heap.size + 1) (fun i W => I i W ∧ Two .ready none W ∧ V.heap.size ≤ W.heap.size) (fun W => Ix W ∧ Two .done (some .ret) W) V ?_ ?_ ?_ ?_).mono ?_
  · exact fun i => ((hI i).mono (by omega)).and ((two_deaf _ _).and fun W W' row hj hg' _ => Nat.le_trans hj hg'.size)
  · exact (hIx.mono (by omega)).and (two_deaf _ _)
  · -- a round
    rintro i W hi ⟨hj, ht, hW⟩
    have hl := ht
    rw [hTwo, hR] at hl
    refine ⟨fn, _, assign, body, run_yield (args := E i) hl.1 (hps i), roundIn_of_wpIn hfn (hassign _ i W _ hi hj (by omega) fun a' W1 hk1 hj1 hax => ?_)⟩
    have ht1 := two_kept ht hk1
    have hl1 := ht1
    rw [hTwo, hR] at hl1
    refine ⟨_, run_beginRound hl1.1 rfl, ?_⟩
    obtain ⟨O, hO, eB⟩ : ∃ O, O = R .busy none ∧ O = .loop { state := .busy, pending := none, fn, tmps := a.tmps, params := ps, assign, body, defers := w.heap.size } := ⟨_, rfl, by rw [hR]⟩
    show body.wpIn _ _ _ _ _ (W1.putObj (w.heap.size + 1) (.loop { state := .busy, pending := none, fn, tmps := a.tmps, params := ps, assign, body, defers := w.heap.size }))
    rw [← eB, hO]
    have ht2 := two_put (st' := .busy) (pe' := none) ht1
    refine wpIn_mono (hbody _ i a' _ hi ((hI i).put (by omega) _ hj1) (hAx i a' _ _ hax (Kept.put _ (by omega) _))) ?_
    have kp : ∀ {W3 : World} (o : Obj), Kept w.heap.size (W1.putObj (w.heap.size + 1) (R .busy none)) W3 → Kept V.heap.size W (W3.putObj (w.heap.size + 1) o) := fun o hk3 =>
      ((hk1.mono (by omega)).trans (Kept.put _ (by omega) _)).trans ((hk3.mono (by omega)).trans (Kept.put _ (by omega) _))
    have fin : ∀ (jump : Option Code) {W3 : World}, Kept w.heap.size (W1.putObj (w.heap.size + 1) (R .busy none)) W3 →
        (Instr.endRound (w.heap.size + 1) jump).run P W3 = .ok (.bool jump.isNone) (W3.putObj (w.heap.size + 1) (R (if jump.isNone then .ready else .done) jump)) ∧ Two .busy none W3 := by
      intro jump W3 hk3
      have ht3 := two_kept ht2 hk3
      have hl3 := ht3
      rw [hTwo, hR] at hl3
      have := run_endRound (P := P) jump hl3.1
      rw [hR]
      exact ⟨this, ht3⟩
    intro e a3 W3 hp
    cases e with
    | normal =>
      obtain ⟨hk3, hi3⟩ := hp
      obtain ⟨he, ht3⟩ := fin none hk3
      exact ⟨_, _, he, .inl ⟨rfl, ⟨(hI _).put (by omega) _ hi3, two_put ht3, Nat.le_trans hW (kp _ hk3).size⟩, kp _ hk3⟩⟩
    | ret =>
      obtain ⟨hk3, hi3⟩ := hp
      obtain ⟨he, ht3⟩ := fin (some .ret) hk3
      exact ⟨_, _, he, .inr ⟨rfl, hIx.put (by omega) _ hi3, two_put ht3⟩⟩
    | exit _ => exact hp.elim
    | goto _ => exact hp.elim
    | panic _ => exact hp.elim
    | outgrown => exact hp.elim
  · refine ⟨?_, two0, Nat.le_refl _⟩
    rw [← hV]
    exact (hI 0).alloc _ ((hI 0).alloc _ h0)
  · -- behind the iterator
    rintro e W2 ⟨⟨v, rfl⟩, ⟨hi, ht, _⟩ | ⟨hi, ht⟩⟩
    · have hl := ht
      rw [hTwo, hR] at hl
      refine ⟨none, _, run_endLoop hl.1 (by simp), ?_⟩
      have ht' := two_put (st' := .done) (pe' := none) ht
      rw [hTwo] at ht'
      exact hdone _ _ (Nat.le_refl _) ((hI N).put (by omega) _ hi) ((World.putObj_heap_other (by omega)).trans hl.2)
    · have hl := ht
      rw [hTwo, hR] at hl
      refine ⟨some .ret, _, run_endLoop hl.1 (by simp), ?_⟩
      exact hstop _ _ (Nat.le_refl _) (hIx.put (by omega) _ hi) ((World.putObj_heap_other (by omega)).trans hl.2)
end Go.Proofs.YtfohinlldchdpaaGreatDoor.Rf
end
