/- Texts of the walk, one behind the other. -/
import Derived.Test.YtimhemcoflpmcaaGreatDoorRows
import Derived.WalkKit
import Derived.ProofKit
import Derived.OpenShut
import Derived.IntWalk
import Derived.Lib.Hide
import Derived.Laws.Rows
import Derived.Deep.WholeRow
import Derived.Deep.QuietTactic
import Derived.BigQuiet
import Derived.Deep.RegionHeld3
import Derived.Deep.MidRow
import Derived.Laws.StructEq
import Derived.Laws.Tables
import Derived.Carry
import Derived.ChangeSame
import Derived.ChangeArms
import Derived.Lib.BitFns
import Derived.Lib.Walk
import Derived.OwnWalk
import Derived.Maps.AppendAt
import Derived.Laws.CopyOwn
import Derived.Deep.OwnRows
import Derived.Deep.AppendSrc
import Derived.Laws.IdiomStrings
import Derived.RangeFuncNested
import Derived.RangeFuncLeaves
import Derived.Shelf.Abstract

section
/- Rows of whole numbers in memory, for every package: what stands at a block, and what stays there; rows loaded, stored, compared, written out; numbers out of rows. -/
set_option maxRecDepth 100000
namespace Go.Proofs.YtimhemcoflpmcaaGreatDoor.Row
open Go.ChangeShapes Go.WideShapes Go.ChangeAt Go.RowKit

theorem ret_int {k : IntKind} {a b : Int} (h : a = b) : Ending.returned (.int k a) = .returned (.int k b) := by rw [h]
theorem ret_bool {a b : Bool} (h : a = b) : Ending.returned (.bool a) = .returned (.bool b) := by rw [h]

/-- A row of m numbers: the first n are f's, the others 0. -/
def rowL (m : Nat) (f : Nat → Int) (n : Nat) : Array Value := Array.ofFn (n := m) fun i => Value.int .i64 (if i.val < n then f i.val else 0)

theorem rowL_size (m : Nat) (f : Nat → Int) (n : Nat) : (rowL m f n).size = m := by unfold rowL; exact Array.size_ofFn

theorem rowL_get (m : Nat) (f : Nat → Int) (n k : Nat) (hk : k < m) : (rowL m f n)[k]? = some (Value.int .i64 (if k < n then f k else 0)) := by
  unfold rowL
  rw [Array.getElem?_ofFn, dif_pos hk]

theorem rowL_next (m : Nat) (f : Nat → Int) (k : Nat) (hk : k < m) : (rowL m f k).setIfInBounds k (.int .i64 (f k)) = rowL m f (k + 1) := by
  apply Array.ext_getElem?
  intro i
  by_cases hi : i < m
  · by_cases e : k = i
    · subst e
      rw [Array.getElem?_setIfInBounds_self_of_lt (by rw [rowL_size]; exact hk), rowL_get _ _ _ _ hk, if_pos (by omega)]
    · rw [Array.getElem?_setIfInBounds_ne e, rowL_get _ _ _ _ hi, rowL_get _ _ _ _ hi]
      by_cases h : i < k
      · rw [if_pos h, if_pos (by omega)]
      · rw [if_neg h, if_neg (by omega)]
  · rw [Array.getElem?_eq_none (by rw [Array.size_setIfInBounds, rowL_size]; omega), Array.getElem?_eq_none (by rw [rowL_size]; omega)]

theorem rowL_one (m : Nat) (f : Nat → Int) (n : Nat) : (rowL m f n).all (·.oneCell') = true := by
  rw [Array.all_eq_true]
  intro i hi
  rw [rowL_size] at hi
  have := rowL_get m f n i hi
  rw [Array.getElem?_eq_getElem (by rw [rowL_size]; exact hi)] at this
  injection this with this
  rw [this]
  rfl

theorem below_setRow {w w' : World} (h : Below w.heap.size w w') (cs : Array Value) : Below w.heap.size w (w'.setRow w.heap.size cs) :=
  ⟨h.os, h.tape, h.output, by rw [size_setRow]; exact h.size, fun k hk => (setRow_other w' w.heap.size k cs (by omega)).trans (h.block k hk)⟩

theorem row_of0 (m : Nat) (f : Nat → Int) : rowL m f 0 = Array.replicate m (.int .i64 0) := by
  apply Array.ext_getElem?
  intro i
  by_cases hi : i < m
  · rw [rowL_get _ _ _ _ hi, if_neg (by omega), Array.getElem?_replicate, if_pos hi]
  · rw [Array.getElem?_eq_none (by rw [rowL_size]; omega), Array.getElem?_eq_none (by simp; omega)]


/-- At block b stands the row A. -/
def At (w : World) (b : Nat) (A : Array Value) (t : TypeId) : Prop := w.heap[b]? = some (.cells A t (0, 0))

theorem At.lt {w : World} {b : Nat} {A : Array Value} {t : TypeId} (h : At w b A t) : b < w.heap.size := by
  unfold At at h
  exact (Array.getElem?_eq_some_iff.1 h).1
theorem At.new (w : World) (A : Array Value) (t : TypeId) : At (w.alloc (.cells A t)) w.heap.size A t := heap_alloc_new _ _
theorem At.alloc {w : World} {b : Nat} {A : Array Value} {t : TypeId} (h : At w b A t) (o : Obj) : At (w.alloc o) b A t := (heap_alloc_old _ _ h.lt).trans h
theorem At.below {B : Nat} {w w' : World} {b : Nat} {A : Array Value} {t : TypeId} (h : At w b A t) (hb : Below B w w') (hl : b < B) : At w' b A t := (hb.block b hl).trans h
theorem At.setRow {w : World} {b : Nat} {A C : Array Value} {t : TypeId} (h : At w b A t) : At (w.setRow b C) b C t := setRow_heap _ _ _ _ _ _ h
theorem At.setRow_other {w : World} {b g : Nat} {A C : Array Value} {t : TypeId} (h : At w b A t) (hg : b ≠ g) : At (w.setRow g C) b A t := (Go.setRow_other _ _ _ _ hg).trans h
theorem At.setCell {w : World} {b i : Nat} {A : Array Value} {t : TypeId} {v : Value} (h : At w b A t) : At (w.setCell ⟨b, i, none⟩ v) b (A.setIfInBounds i v) t := heap_setCell_same _ _ _ _ _ _ h
theorem At.setCell_other {w : World} {b : Nat} {A : Array Value} {t : TypeId} {a : Addr} {v : Value} (h : At w b A t) (hg : b ≠ a.block) : At (w.setCell a v) b A t := (heap_setCell_other _ _ _ _ hg).trans h
theorem At.drewN {w : World} {b : Nat} {A : Array Value} {t : TypeId} (h : At w b A t) (n : Nat) : At (w.drewN n) b A t := h
theorem At.frozen {w : World} {b : Nat} {A : Array Value} {t : TypeId} (h : At w b A t) (j : Nat) : w.frozen? ⟨b, j, none⟩ = false := frozen_of_row _ _ _ _ _ h

/-- A is a row of m numbers: f's. -/
def IsRow (m : Nat) (f : Nat → Int) (T : Array Value) : Prop := T.size = m ∧ T.all (·.oneCell') = true ∧ ∀ k, k < m → T[k]? = some (.int .i64 (f k))

theorem isRow (m : Nat) (f : Nat → Int) : IsRow m f (rowL m f m) := ⟨rowL_size _ _ _, rowL_one _ _ _, fun k hk => by rw [rowL_get _ _ _ _ hk, if_pos hk]⟩
theorem IsRow.ext {m : Nat} {f g : Nat → Int} {T : Array Value} (h : IsRow m f T) (e : ∀ k, k < m → f k = g k) : IsRow m g T := ⟨h.1, h.2.1, fun k hk => by rw [← e k hk]; exact h.2.2 k hk⟩
theorem IsRow.eq {m : Nat} {f g : Nat → Int} {T U : Array Value} (h : IsRow m f T) (h' : IsRow m g U) (e : ∀ k, k < m → f k = g k) : T = U := by
  apply Array.ext_getElem?
  intro i
  by_cases hi : i < m
  · rw [h.2.2 i hi, h'.2.2 i hi, e i hi]
  · rw [Array.getElem?_eq_none (by rw [h.1]; omega), Array.getElem?_eq_none (by rw [h'.1]; omega)]
theorem IsRow.at {m : Nat} {f : Nat → Int} {T : Array Value} (h : IsRow m f T) : T = rowL m f m := h.eq (isRow m f) fun _ _ => rfl
theorem IsRow.cell {w : World} {g m : Nat} {f : Nat → Int} {T : Array Value} {t : TypeId} (hT : IsRow m f T) (h : At w g T t) (k : Nat) (hk : k < m) : w.cell? ⟨g, k, none⟩ = some (.int .i64 (f k)) := by
  rw [cell_of_row _ _ k _ _ _ h, hT.2.2 k hk]
theorem rowL_cell {w : World} {g m n : Nat} {f : Nat → Int} {t : TypeId} (h : At w g (rowL m f n) t) (k : Nat) (hk : k < m) : w.cell? ⟨g, k, none⟩ = some (.int .i64 (if k < n then f k else 0)) := by
  rw [cell_of_row _ _ k _ _ _ h, rowL_get _ _ _ _ hk]
theorem At.put {w : World} {b m k : Nat} {f : Nat → Int} {t : TypeId} (h : At w b (rowL m f k) t) (hk : k < m) : At (w.setCell ⟨b, k, none⟩ (.int .i64 (f k))) b (rowL m f (k + 1)) t := by
  rw [← rowL_next m f k hk]; exact h.setCell

theorem below_drewN {B : Nat} {w0 w : World} (h : Below B w0 w) (k : Nat) : Below B w0 (w.drewN k) := ⟨h.os, h.tape, h.output, h.size, h.block⟩
theorem below_setRow' {B b : Nat} {w w' : World} (h : Below B w w') (hb : B ≤ b) (cs : Array Value) : Below B w (w'.setRow b cs) :=
  ⟨h.os, h.tape, h.output, by rw [size_setRow]; exact h.size, fun k hk => (Go.setRow_other w' b k cs (by omega)).trans (h.block k hk)⟩
theorem below_trans {B : Nat} {w w1 w2 : World} (h : Below B w w1) (h2 : Below w1.heap.size w1 w2) (hB : B ≤ w1.heap.size) : Below B w w2 :=
  ⟨h2.os.trans h.os, h2.tape.trans h.tape, h2.output.trans h.output, Nat.le_trans h.size h2.size, fun k hk => (h2.block k (by omega)).trans (h.block k hk)⟩

/-- The zero value of a row's type, and its size, of one closed fact. -/
theorem zero_row {t : TypeId} {m : Nat} (h : (Tryz.prog.info? t).map (fun i => (i.zero, i.size)) = some (some (.agg (Array.replicate m (.int .i64 0))), m)) :
    ∃ Z, IsRow m (fun _ => 0) Z ∧ (∀ f, rowL m f 0 = Z) ∧ (∀ w, (zeroValue t).run Tryz.prog w = .ok (.agg Z) w) ∧ ∀ A : Array Value, A.size = m → (Tryz.prog.info? t).map (·.size) = some A.size := by
  obtain ⟨h1, h2⟩ := zero_of_info h
  refine ⟨_, ?_, row_of0 m, h1, fun A hA => by rw [h2, hA]⟩
  rw [← row_of0 m (fun _ => 0)]
  refine ⟨rowL_size _ _ _, rowL_one _ _ _, fun k hk => ?_⟩
  rw [rowL_get _ _ _ _ hk]
  by_cases e : k < 0
  · omega
  · rw [if_neg e]

theorem cell_set_other (w : World) (a b : Addr) (v : Value) (h : b.block ≠ a.block) : (w.setCell a v).cell? b = w.cell? b := by
  unfold World.cell?
  rw [heap_setCell_other _ _ _ _ h]
theorem cells2 {w : World} {a p q : Addr} {v x y : Value} (h : w.cell? p = some x ∧ w.cell? q = some y) (hp : p.block ≠ a.block) (hq : q.block ≠ a.block) : (w.setCell a v).drew.cell? p = some x ∧ (w.setCell a v).drew.cell? q = some y :=
  ⟨(cell_set_other w a p v hp).trans h.1, (cell_set_other w a q v hq).trans h.2⟩

/-- A number out of a row by value. -/
theorem run_index {t : TypeId} {m k : Nat} {x : Int} {T : Array Value} (hu : Tryz.prog.underlying t = some (.array m 3)) (hk : k < m) (hc : T[k]? = some (.int .i64 x)) (w : World) :
    (Instr.index t (.agg T) (.int .i64 k)).run Tryz.prog w = .ok (.int .i64 x) w := by
  simp [Instr.index, run_underlying hu, asIntOf, hk, hc, go_sem]

theorem first_bad {n : Nat} {P : Nat → Prop} (h : ¬ ∀ i, i < n → P i) : ∃ j, j < n ∧ ¬ P j ∧ ∀ i, i < j → P i := by
  induction n with
  | zero => exact absurd (fun i hi => absurd hi (Nat.not_lt_zero i)) h
  | succ n ih =>
    by_cases hn : ∀ i, i < n → P i
    · refine ⟨n, by omega, fun hp => h fun i hi => ?_, hn⟩
      by_cases e : i = n
      · subst e; exact hp
      · exact hn i (by omega)
    · obtain ⟨j, h1, h2, h3⟩ := ih hn
      exact ⟨j, by omega, h2, h3⟩

theorem IsRow.set {m k : Nat} {f : Nat → Int} {T : Array Value} (h : IsRow m f T) (x : Int) (hk : k < m) : IsRow m (fun i => if i = k then x else f i) (T.setIfInBounds k (.int .i64 x)) := by
  obtain ⟨h1, h2, h3⟩ := h
  refine ⟨by rw [Array.size_setIfInBounds, h1], ?_, fun i hi => ?_⟩
  · rw [Array.all_eq_true] at h2 ⊢
    intro i hi
    rw [Array.size_setIfInBounds] at hi
    by_cases e : k = i
    · subst e; rw [Array.getElem_setIfInBounds_self]; rfl
    · rw [Array.getElem_setIfInBounds_ne hi e]; exact h2 i hi
  · by_cases e : k = i
    · subst e
      show _ = some (Value.int .i64 (if k = k then x else f k))
      rw [if_pos rfl, Array.getElem?_setIfInBounds_self_of_lt (by omega)]
    · show _ = some (Value.int .i64 (if i = k then x else f i))
      rw [if_neg (by omega), Array.getElem?_setIfInBounds_ne e]; exact h3 i hi

theorem quiet_int {f : FuncId} {xs : Array Value} {w0 : World} {n : Nat} {c : Int}
    (h : Calls Tryz.prog f xs (w0.drewN n) fun e w' => e = .returned (.int .i64 c) ∧ w0.drewN n = w') :
    Calls Tryz.prog f xs (w0.drewN n) fun e w' => e = .returned (.int .i64 c) ∧ ∃ m, w' = w0.drewN m :=
  h.mono fun _ _ ⟨he, hw⟩ => ⟨he, n, hw.symm⟩

/-- A whole row out of its block. -/
theorem run_load {t : TypeId} {w : World} {g m : Nat} {e t' : TypeId} {A : Array Value} (hu : Tryz.prog.underlying t = some (.array m e)) (hA : At w g A t') (hi : (Tryz.prog.info? t).map (·.size) = some A.size) :
    (Instr.loadAt t (.pointer (some ⟨g, 0, none⟩))).run Tryz.prog w = .ok (.agg A) w := by
  simp only [Instr.loadAt, Instr.sureAddr, Sem.run_bind, Sem.run_pure, Result.andThen]
  exact run_loadVar_row w g t' t A (0, 0) _ hA hu rfl hi

/-- The same in a region, whether guarded or not. -/
theorem wpList_load_wanted {ops : Array Oper} {rest : List Oper} {o : Oper} {a : Act} {w : World} {Q : Exit → Act → World → Prop} (hw : Region.wanted o (yielded ops a.tmps) = true) (ty : TypeId) (x : Operand) (ho : o.op = .load ty x)
    (g : Nat) (hx : a.eval x = .pointer (some ⟨g, 0, none⟩)) (t : TypeId) (cs : Array Value) (m : Nat) (e : TypeId) (hg : At w g cs t)
    (hu : Tryz.prog.underlying ty = some (.array m e)) (hi : (Tryz.prog.info? ty).map (·.size) = some cs.size)
    (h : wpList Tryz.prog ops Q rest (a.put o.dst (.agg cs)) w) : wpList Tryz.prog ops Q (o :: rest) a w := by
  rw [wpList, if_pos hw]
  exact .inl (wp_load_row ty x ho g hx t cs (0, 0) _ hg hu rfl hi h)

/-- A whole row loaded in a region that draws its order. -/
theorem yields_load {ops : Array Oper} {S : World → Prop} {op : Oper} {a : Act} (hw : Region.wanted op (yielded ops a.tmps) = true) (ty : TypeId) (x : Operand) (ho : op.op = .load ty x)
    (b : Nat) (hx : a.eval x = .pointer (some ⟨b, 0, none⟩)) (A : Array Value) (m : Nat) (e : TypeId) (hS : ∀ w, S w → At w b A ty)
    (hu : Tryz.prog.underlying ty = some (.array m e)) (hi : (Tryz.prog.info? ty).map (·.size) = some A.size) : YieldsIf Tryz.prog ops S op (.agg A) a :=
  .inl ⟨hw, fun w hw' => by
    unfold execOp
    simp only [ho, hx, run_load hu (hS w hw') hi, Sem.run_bind, Sem.run_pure, Result.andThen_ok]⟩

/-- Two results that are rows. -/
theorem results_rows {fn : Func} {p q : Tmp} {t : TypeId} (h : fn.results = #[.cell p t, .cell q t]) (tmps : Array Value) (w : World) (g k : Nat) (A B : Array Value) (m : Nat) (e : TypeId)
    (hp : tmps.getD p undef = .pointer (some ⟨g, 0, none⟩)) (hq : tmps.getD q undef = .pointer (some ⟨k, 0, none⟩)) (hg : At w g A t) (hk : At w k B t)
    (hu : Tryz.prog.underlying t = some (.array m e)) (hA : (Tryz.prog.info? t).map (·.size) = some A.size) (hB : (Tryz.prog.info? t).map (·.size) = some B.size) :
    (results fn tmps).run Tryz.prog w = .ok (.tuple #[.agg A, .agg B]) w := by
  have hp' : tmps[p]?.getD undef = .pointer (some ⟨g, 0, none⟩) := by simpa using hp
  have hq' : tmps[q]?.getD undef = .pointer (some ⟨k, 0, none⟩) := by simpa using hq
  have h1 := run_loadVar_row w g t t A (0, 0) _ hg hu rfl hA
  have h2 := run_loadVar_row w k t t B (0, 0) _ hk hu rfl hB
  simp [results, h, hp', hq', asAddr, h1, h2]

theorem sizeOf_int (w : World) : (sizeOf 3).run Tryz.prog w = .ok 1 w := by
  have h : (Tryz.prog.info? 3).map (·.size) = some 1 := by kernel_rfl
  cases hi : Tryz.prog.info? 3 with
  | none => rw [hi] at h; cases h
  | some i =>
    rw [hi] at h
    injection h with h
    simp [sizeOf, typeInfo, hi, h]

theorem part_int {T : Array Value} {i : Nat} {x : Int} (h : T[i]? = some (.int .i64 x)) (w : World) : (part 3 T (i * 1)).run Tryz.prog w = .ok (.int .i64 x) w := by
  simp [part, isAgg, run_underlying Tryz.underlying3, h]

/-- Rows compared, number by number. -/
theorem run_rows {t : TypeId} {m d : Nat} {f g : Nat → Int} {T U : Array Value} (hu : Tryz.prog.underlying t = some (.array m 3)) (hT : IsRow m f T) (hU : IsRow m g U) (w : World) :
    (Op.equalIn (d + 2) t (.agg T) (.agg U)).run Tryz.prog w = .ok ((List.range' 0 m 1).all fun i => f i == g i) w := by
  rw [Op.equalIn]
  simp only [Sem.run_bind, run_underlying hu, Result.andThen_ok, sizeOf_int, Std.Legacy.Range.forIn_eq_forIn_range', Std.Legacy.Range.size, Nat.sub_zero, Nat.add_sub_cancel, Nat.div_one]
  have hl : ∀ i ∈ List.range' 0 m 1, i < m := fun i hi => by simpa using (List.mem_range'_1.1 hi).2
  generalize List.range' 0 m 1 = l at hl ⊢
  induction l with
  | nil => simp
  | cons i l ih =>
    have hi : i < m := hl i (by simp)
    have pe : (Op.equalIn (d + 1) 3 (.int .i64 (f i)) (.int .i64 (g i))).run Tryz.prog w = .ok (f i == g i) w := run_equalIn_int w d _ .i64 .i64 _ _ Tryz.underlying3
    simp only [List.forIn_cons, Sem.run_bind, part_int (hT.2.2 i hi), part_int (hU.2.2 i hi), pe, Result.andThen_ok, List.all_cons]
    cases hb : (f i == g i)
    · simp
    · simp only [Bool.not_true, Bool.false_eq_true, if_false, Sem.run_pure, Result.andThen_ok, Bool.true_and]
      exact ih fun j hj => hl j (by simp [hj])

theorem rows_eq {m : Nat} {f g : Nat → Int} {T U : Array Value} (hT : IsRow m f T) (hU : IsRow m g U) (h : ∀ i, i < m → f i = g i) {t : TypeId} (hu : Tryz.prog.underlying t = some (.array m 3)) (w : World) :
    (Op.equalIn 10000 t (.agg T) (.agg U)).run Tryz.prog w = .ok true w := by
  rw [run_rows (d := 9998) hu hT hU w]
  congr 1
  rw [List.all_eq_true]
  intro i hi
  rw [beq_iff_eq]
  exact h i (by simpa using (List.mem_range'_1.1 hi).2)
theorem rows_ne {m : Nat} {f g : Nat → Int} {T U : Array Value} (hT : IsRow m f T) (hU : IsRow m g U) (i : Nat) (hi : i < m) (h : f i ≠ g i) {t : TypeId} (hu : Tryz.prog.underlying t = some (.array m 3)) (w : World) :
    (Op.equalIn 10000 t (.agg T) (.agg U)).run Tryz.prog w = .ok false w := by
  rw [run_rows (d := 9998) hu hT hU w]
  congr 1
  rw [List.all_eq_false]
  exact ⟨i, by simpa using hi, by simpa using h⟩

/-- A row written out. -/
theorem wpList_build_wanted {ops : Array Oper} {rest : List Oper} {o : Oper} {a : Act} {w : World} {Q : Exit → Act → World → Prop} (hw : Region.wanted o (yielded ops a.tmps) = true) (t : TypeId) (parts : Array (Nat × Operand)) (ho : o.op = .build t parts)
    (C : Array Value) (hc : Tryz.prog.built t (parts.map fun (i, x) => (i, a.eval x)).toList = some C)
    (h : wpList Tryz.prog ops Q rest (a.put o.dst (.agg C)) w) : wpList Tryz.prog ops Q (o :: rest) a w := by
  rw [wpList, if_pos hw]
  refine .inl (wp_build t parts ho (by rw [hc]; rfl) ?_)
  rw [hc]
  exact h

theorem isRow_zero (m : Nat) : IsRow m (fun _ => 0) (Array.replicate m (.int .i64 0)) := by
  rw [← row_of0 m (fun _ => 0)]
  refine ⟨rowL_size _ _ _, rowL_one _ _ _, fun k hk => ?_⟩
  rw [rowL_get _ _ _ _ hk]
  by_cases e : k < 0
  · omega
  · rw [if_neg e]

def intsOf (T : Array Value) (k : Nat) : Int := match T[k]? with
  | some (.int _ x) => x
  | _ => 0

theorem mapM_each {α β : Type} {g : α → Option β} : ∀ {L : List α} {ys : List β}, L.mapM g = some ys → ∀ i ∈ L, ∃ y, g i = some y
  | [], _, _, _, hi => by cases hi
  | j :: L, ys, h, i, hi => by
    rw [List.mapM_cons] at h
    simp only [bind, Option.bind_eq_some_iff, pure, Option.some.injEq] at h
    obtain ⟨y, hy, zs, hz, rfl⟩ := h
    rcases List.mem_cons.1 hi with rfl | hi
    · exact ⟨y, hy⟩
    · exact mapM_each hz i hi

theorem open_row {H : Type} {enc : TypeId × Value → H} {W : World} {r : Reach} {base b0 : Nat} {sp : Nat → Bool} {held : Bool} {t e : TypeId} {m : Nat} {v : Value} {d : DataW H} {ps : List MemPlace}
    (hu : Tryz.prog.underlying t = some (.array m e)) (he : Tryz.prog.underlying e = some (.int .i64)) (hc : Tryz.prog.cellsOf e = 1) (hm : Tryz.prog.cellsOf t = m)
    (hok : Value.okWide Tryz.prog W r b0 t v) (h : DataW.Trod enc Tryz.prog W base sp held t v d ps) :
    ∃ T : Array Value, v = .agg T ∧ IsRow m (intsOf T) T ∧ ∀ k, k < m → (Lit.int .i64 (intsOf T k)).wf = true := by
  simp only [Value.okWide, hu] at hok
  obtain ⟨T, rfl, hs, _⟩ := hok
  rw [hm] at hs
  have key : ∀ k, k < m → ∃ x : Int, T[k]? = some (.int .i64 x) ∧ (Lit.int .i64 x).wf = true := by
    obtain ⟨fuel, hf⟩ := h
    cases fuel with
    | zero => simp [DataW.trod] at hf
    | succ n =>
      rw [DataW.trod_step] at hf
      unfold DataW.trodStep at hf
      simp only [hu, Value.cells] at hf
      rw [if_pos (by rw [hm]; simpa using hs)] at hf
      simp only [Option.map_eq_some_iff] at hf
      obtain ⟨ys, hy, _⟩ := hf
      intro k hk
      obtain ⟨y, hy⟩ := mapM_each hy k (by simpa using hk)
      obtain ⟨x, ex, _, wx⟩ := DataW.trod_int he hy
      refine ⟨x, ?_, wx⟩
      rw [hc, Nat.mul_one] at ex
      have : (T.toList.drop k)[0]? = some (.int .i64 x) := by
        have h2 : ((T.toList.drop k).take 1)[0]? = some (.int .i64 x) := by rw [ex]; rfl
        rw [List.getElem?_take_of_lt (by omega)] at h2
        exact h2
      simpa using this
  have hi : ∀ k, k < m → T[k]? = some (.int .i64 (intsOf T k)) ∧ (Lit.int .i64 (intsOf T k)).wf = true := fun k hk => by
    obtain ⟨x, hx, wx⟩ := key k hk
    have : intsOf T k = x := by unfold intsOf; rw [hx]
    rw [this]
    exact ⟨hx, wx⟩
  refine ⟨T, rfl, ⟨hs, ?_, fun k hk => (hi k hk).1⟩, fun k hk => (hi k hk).2⟩
  rw [Array.all_eq_true]
  intro i hi'
  have := (hi i (by omega)).1
  rw [Array.getElem?_eq_getElem hi'] at this
  injection this with this
  rw [this]
  rfl
end Go.Proofs.YtimhemcoflpmcaaGreatDoor.Row
end

section
/- vect's number without its sign. -/
set_option maxRecDepth 100000
set_option linter.unusedVariables false
namespace Go.Proofs.YtimhemcoflpmcaaGreatDoor.Ve
open Go.RowKit Go.Proofs.YtimhemcoflpmcaaGreatDoor.Row

theorem unsigned_any (v : Int) (w : World) (h : -6975757441 ≤ v) (h' : v ≤ 6975757441) :
    Calls Tryz.prog 101 #[.int .i64 v] w fun e w' => e = .returned (.int .i64 v.natAbs) ∧ w = w' := by
  go_enter Tryz.func101, Tryz.ntmps101
  go_wp2
  all_goals
    go_ret
    refine ⟨ret_int ?_, rfl⟩
    omega
end Go.Proofs.YtimhemcoflpmcaaGreatDoor.Ve
end

section
/- Contract of the document's Pow. -/
namespace Go.Proofs.YtimhemcoflpmcaaGreatDoor.Ref01
open Go.RowKit Go.Proofs.YtimhemcoflpmcaaGreatDoor.Row
set_option linter.unusedVariables false

theorem pow_bd {k m : Nat} (h : k ≤ m) : (1 : Int) ≤ 2 ^ k ∧ (2 : Int) ^ k ≤ 2 ^ m := by
  have h1 : 1 ≤ 2 ^ k := Nat.one_le_two_pow
  have h2 : 2 ^ k ≤ 2 ^ m := Nat.pow_le_pow_right (by omega) h
  exact ⟨by exact_mod_cast h1, by exact_mod_cast h2⟩

theorem pow_any (n : Int) (w : World) (h1 : 0 ≤ n) (h2 : n ≤ 62) :
    Calls Tryz.prog 31 #[.int .i64 n] w fun e w' => e = .returned (.int .i64 (2 ^ n.toNat)) ∧ w = w' := by
  go_enter Tryz.func31, Tryz.ntmps31
  go_wp2
  go_loop [3, 4] (fun p i => ∃ k : Nat, (k : Int) ≤ n ∧ i = .int .i64 k ∧ p = .int .i64 (2 ^ k)) (fun _ i => n.toNat - (intOf i).toNat)
  case atStart => exact ⟨0, by omega, rfl, rfl⟩
  case round =>
    obtain ⟨k, hk, rfl, rfl⟩ := hrel
    by_cases hlt : (k : Int) < n
    · obtain ⟨hp, hq⟩ := pow_bd (show k ≤ 61 by omega)
      simp only [Int.reducePow] at hq
      go_wp2
      go_round
      case rel => exact ⟨k + 1, by omega, by go_num, by rw [Int.pow_succ, Int.mul_comm]⟩
      case measure => simp [intOf]; omega
    · go_wp2
      go_ret
      exact ⟨ret_int (by rw [show n.toNat = k by omega]), rfl⟩

theorem pow_as (n p : Int) (w : World) (h1 : 0 ≤ n) (h2 : n ≤ 62) (h : 2 ^ n.toNat = p) :
    Calls Tryz.prog 31 #[.int .i64 n] w fun e w' => e = .returned (.int .i64 p) ∧ w = w' := by
  subst h; exact pow_any n w h1 h2
end Go.Proofs.YtimhemcoflpmcaaGreatDoor.Ref01
end

section
/- The document's size of a number. -/
set_option maxRecDepth 100000
set_option linter.unusedVariables false
namespace Go.Proofs.YtimhemcoflpmcaaGreatDoor.Ve
open Go.RowKit Go.Proofs.YtimhemcoflpmcaaGreatDoor.Row

/-- The document's size of a number. -/
def sz (x : Int) : Int := if x < -1099511627776 ∨ 1099511627776 < x then 1099511627776 else x.natAbs

theorem sz_small {x : Int} (h : -1099511627776 ≤ x) (h' : x ≤ 1099511627776) : sz x = x.natAbs := by unfold sz; rw [if_neg (by omega)]

theorem rowL_is (n : Nat) (f : Nat → Int) : IsRow n (fun _ => 0) (rowL n f 0) := by rw [row_of0]; exact isRow_zero n
end Go.Proofs.YtimhemcoflpmcaaGreatDoor.Ve
end

section
/- Contract of the document's Size (for vectors). -/
set_option maxRecDepth 100000
set_option linter.unusedVariables false
namespace Go.Proofs.YtimhemcoflpmcaaGreatDoor.Ve
open Go.RowKit Go.Proofs.YtimhemcoflpmcaaGreatDoor.Row

theorem refSize_as (x r : Int) (w : World) (h : sz x = r) :
    Calls Tryz.prog 57 #[.int .i64 x] w fun e w' => e = .returned (.int .i64 r) ∧ w = w' := by
  subst h
  by_cases c1 : x < -1099511627776
  · go_enter Tryz.func57, Tryz.ntmps57
    go_wp2
    go_ret
    exact ⟨ret_int (by unfold sz; rw [if_pos (.inl c1)]), rfl⟩
  · by_cases c2 : 1099511627776 < x
    · go_enter Tryz.func57, Tryz.ntmps57
      go_wp2
      go_ret
      exact ⟨ret_int (by unfold sz; rw [if_pos (.inr c2)]), rfl⟩
    · by_cases c3 : x < 0
      · go_enter Tryz.func57, Tryz.ntmps57
        go_wp2
        go_ret
        exact ⟨ret_int (by unfold sz; rw [if_neg (by omega)]; omega), rfl⟩
      · go_enter Tryz.func57, Tryz.ntmps57
        go_wp2
        go_ret
        exact ⟨ret_int (by unfold sz; rw [if_neg (by omega)]; omega), rfl⟩
end Go.Proofs.YtimhemcoflpmcaaGreatDoor.Ve
end

section
/- Moves through a region that draws its order, under any condition S on the world: what yields its value wherever S holds; calls, new variables, rows stored. -/
namespace Go.Proofs.YtimhemcoflpmcaaGreatDoor.Row
open Go.RowKit

/-- All that stood in W stands. -/
def SB (W : World) (w : World) : Prop := Below W.heap.size W w

section
variable {ops : Array Oper} {Q : Exit → Act → World → Prop} {S : World → Prop} {W : World} {fuel : Nat} {listed : Array Bool} {a : Act} {w : World} {oi : Oper} {i d : Nat} {rs : List Nat}

theorem mv_startS {id : Nat} (S : World → Prop) (hS : S w.drew) (h : S w.drew → wpAnyH Tryz.prog .any ops (NoPanic Q) S ops.size (Array.replicate ops.size false) a w.drew) : (Code.region id ops true).wp Tryz.prog Q a w :=
  wp_region_noPanic (wp_region_held_drew (S := S) (by kernel_rfl) hS h)
theorem mv_start {id : Nat} (h : SB W W.drew → wpAnyH Tryz.prog .any ops (NoPanic Q) (SB W) ops.size (Array.replicate ops.size false) a W.drew) : (Code.region id ops true).wp Tryz.prog Q a W :=
  mv_startS (SB W) (Below.refl _ _).drew h

theorem mv_yield (v : Value) (hi : ops[i]? = some oi) (hd : oi.dst = some d) (hs : Region.noSelect ops = true) (hf : Region.free .any ops listed i = true) (hr : (Region.ready .any ops listed).contains i = true)
    (hS : S w) (hy : YieldsIf Tryz.prog ops S oi v a)
    (h : wpAnyH Tryz.prog .any ops (NoPanic Q) S fuel (listed.setIfInBounds i true) (a.put (some d) v) w) : wpAnyH Tryz.prog .any ops (NoPanic Q) S (fuel + 1) listed a w :=
  wpAnyH_take hi hs hf hr (fun _ _ _ h => h) hy hS (by rw [hd]; exact h)

theorem y_loadS {t t' : TypeId} {x : Operand} {b m : Nat} {e : TypeId} {A : Array Value} (hw : Region.wanted oi (yielded ops a.tmps) = true) (ho : oi.op = .load t x) (hx : a.eval x = .pointer (some ⟨b, 0, none⟩))
    (hA : ∀ w, S w → At w b A t') (hu : Tryz.prog.underlying t = some (.array m e)) (hi : (Tryz.prog.info? t).map (·.size) = some A.size) : YieldsIf Tryz.prog ops S oi (.agg A) a :=
  .inl ⟨hw, fun w hw' => by
    unfold execOp
    simp only [ho, hx, run_load hu (hA w hw') hi, Sem.run_bind, Sem.run_pure, Result.andThen_ok]⟩
theorem y_load {t t' : TypeId} {x : Operand} {b m : Nat} {e : TypeId} {A : Array Value} (hw : Region.wanted oi (yielded ops a.tmps) = true) (ho : oi.op = .load t x) (hx : a.eval x = .pointer (some ⟨b, 0, none⟩))
    (hA : At W b A t') (hu : Tryz.prog.underlying t = some (.array m e)) (hi : (Tryz.prog.info? t).map (·.size) = some A.size) : YieldsIf Tryz.prog ops (SB W) oi (.agg A) a :=
  y_loadS hw ho hx (fun _ h => hA.below h hA.lt) hu hi
theorem y_skip (hw : Region.wanted oi (yielded ops a.tmps) = false) : YieldsIf Tryz.prog ops S oi undef a := .inr ⟨hw, rfl⟩
theorem y_run {v : Value} (hw : Region.wanted oi (yielded ops a.tmps) = true) (h : ∀ w, (execOp a.eval oi).run Tryz.prog w = .ok (.value v) w) : YieldsIf Tryz.prog ops S oi v a := .inl ⟨hw, fun w _ => h w⟩
theorem y_eql {t t' : TypeId} {x y : Operand} {T U : Array Value} {b : Bool} (hw : Region.wanted oi (yielded ops a.tmps) = true) (ho : oi.op = .binOp .eql t x y t') (hx : a.eval x = .agg T) (hy : a.eval y = .agg U)
    (hg : Tryz.prog.eqGuardType Tryz.prog.depth t = false) (he : ∀ w, (Op.equalIn 10000 t (.agg T) (.agg U)).run Tryz.prog w = .ok b w) : YieldsIf Tryz.prog ops S oi (.bool b) a :=
  y_run hw fun w => by
    unfold execOp
    simp only [ho, hx, hy, Sem.run_bind, run_eqGuard_agg w _ t x y T U hg, run_eql_struct, he, Result.andThen_ok, Sem.run_pure]
theorem y_neq {t t' : TypeId} {x y : Operand} {T U : Array Value} {b : Bool} (hw : Region.wanted oi (yielded ops a.tmps) = true) (ho : oi.op = .binOp .neq t x y t') (hx : a.eval x = .agg T) (hy : a.eval y = .agg U)
    (hg : Tryz.prog.eqGuardType Tryz.prog.depth t = false) (he : ∀ w, (Op.equalIn 10000 t (.agg T) (.agg U)).run Tryz.prog w = .ok b w) : YieldsIf Tryz.prog ops S oi (.bool (!b)) a :=
  y_run hw fun w => by
    unfold execOp
    simp only [ho, hx, hy, Sem.run_bind, run_eqGuard_agg w _ t x y T U hg, run_neq_struct, he, Result.andThen_ok, Sem.run_pure]
theorem y_build {t : TypeId} {parts : Array (Nat × Operand)} {C : Array Value} (hw : Region.wanted oi (yielded ops a.tmps) = true) (ho : oi.op = .build t parts)
    (hc : Tryz.prog.built t (parts.map fun (i, x) => (i, a.eval x)).toList = some C) : YieldsIf Tryz.prog ops S oi (.agg C) a :=
  y_run hw fun w => by
    unfold execOp
    simp only [ho, Sem.run_bind, run_build w t _ C hc, Result.andThen_ok, Sem.run_pure]

/-- The address of a number in a row. -/
theorem run_at {t : TypeId} {b m k : Nat} {x : Int} (hu : Tryz.prog.underlying t = some (.array m 3)) (hx : x = k) (hk : k < m) (w : World) :
    (Instr.indexAt t (.pointer (some ⟨b, 0, none⟩)) (.int .i64 x)).run Tryz.prog w = .ok (.pointer (some ⟨b, k, none⟩)) w := by
  subst hx
  have h : (0 : Int) ≤ (k : Int) ∧ (k : Int) < (m : Int) := by omega
  unfold Instr.indexAt
  simp only [Sem.run_bind, asIntOf, Sem.run_pure, Result.andThen_ok, run_underlying hu, Instr.sureAddr, if_pos h, sizeOf_int]
  simp only [Addr.add, Nat.mul_one, Int.toNat_natCast]
  split <;> simp_all
theorem y_at {t : TypeId} {y z : Operand} {b m k : Nat} {x : Int} (hw : Region.wanted oi (yielded ops a.tmps) = true) (ho : oi.op = .indexAddr t y z) (hy : a.eval y = .pointer (some ⟨b, 0, none⟩)) (hz : a.eval z = .int .i64 x)
    (hu : Tryz.prog.underlying t = some (.array m 3)) (hx : x = k) (hk : k < m) : YieldsIf Tryz.prog ops S oi (.pointer (some ⟨b, k, none⟩)) a :=
  y_run hw fun w => by
    unfold execOp
    simp only [ho, hy, hz, run_at hu hx hk, Sem.run_bind, Result.andThen_ok, Sem.run_pure]
theorem run_cell {w : World} {p : Addr} {x : Int} (h : w.cell? p = some (.int .i64 x)) : (Instr.loadAt 3 (.pointer (some p))).run Tryz.prog w = .ok (.int .i64 x) w := by
  simp [Instr.loadAt, Instr.sureAddr, loadVar, isAgg, run_underlying Tryz.underlying3, h, go_sem]
theorem y_cellS {y : Operand} {p : Addr} {x : Int} (hw : Region.wanted oi (yielded ops a.tmps) = true) (ho : oi.op = .load 3 y) (hy : a.eval y = .pointer (some p))
    (hc : ∀ w, S w → w.cell? p = some (.int .i64 x)) : YieldsIf Tryz.prog ops S oi (.int .i64 x) a :=
  .inl ⟨hw, fun w hw' => by
    unfold execOp
    simp only [ho, hy, run_cell (hc w hw'), Sem.run_bind, Sem.run_pure, Result.andThen_ok]⟩
theorem y_cell {y : Operand} {p : Addr} {x : Int} (hw : Region.wanted oi (yielded ops a.tmps) = true) (ho : oi.op = .load 3 y) (hy : a.eval y = .pointer (some p))
    (hc : W.cell? p = some (.int .i64 x)) : YieldsIf Tryz.prog ops (SB W) oi (.int .i64 x) a :=
  y_cellS hw ho hy fun w hS => by rw [Below.cell hS (block_lt_of_cell hc)]; exact hc

/-- A function with a body is entered. -/
theorem run_enter {f : FuncId} {fn : Func} {c : Code} (hf : Tryz.prog.funcs[f]? = some fn) (hname : (fn.name == "runtime.NumGoroutine") = false) (hb : fn.body = some c) (args : Array Value) (w : World) :
    (callFunc f args).run Tryz.prog w = .ok (.enter f args) w := by
  have h1 : fn.name ≠ "runtime.NumGoroutine" := by simpa using hname
  simp [callFunc, hf, h1, hb]

/-- A call by its contract, where others may come up too; what is known behind it is P. -/
theorem ar_callP {f : FuncId} {xs : Array Operand} {ats : Array TypeId} {v : Value} {P : World → Prop} (args : Array Value) (hi : ops[i]? = some oi) (hd : oi.dst = some d) (hw : Region.wanted oi (yielded ops a.tmps) = true)
    (ho : oi.op = .call { callee := .value (.func f), args := xs, argTypes := ats }) (hn : ∀ args w, (callFunc f args).run Tryz.prog w = .ok (.enter f args) w)
    (ha : xs.map a.eval = args) (hc : Calls Tryz.prog f args w fun e w' => e = .returned v ∧ P w') (hP : ∀ w', P w' → S w')
    (h : ∀ w', P w' → S w' → wpAnyH Tryz.prog .any ops (NoPanic Q) S fuel (listed.setIfInBounds i true) (a.put (some d) v) w')
    (hs : AllReadyH Tryz.prog .any ops (NoPanic Q) S fuel listed a w rs) : AllReadyH Tryz.prog .any ops (NoPanic Q) S fuel listed a w (i :: rs) := by
  refine AllReadyH.cons hi (fun K hK => ?_) hs
  rw [if_pos hw]
  obtain ⟨dst, op, type, pos, after, guard⟩ := oi
  dsimp only at ho hd
  subst ho hd
  unfold Oper.wp
  rw [execOp_call_go]
  have e : (#[] ++ xs.map a.eval ++ #[] : Array Value) = xs.map a.eval := by simp
  rw [e, hn, ha]
  show Calls Tryz.prog f args w _
  refine hc.mono fun e w' ⟨he, hb⟩ => ?_
  subst he
  exact hK.out _ _ (hP w' hb) fun _ => h w' hb (hP w' hb)

/-- A new variable, where others may come up too. -/
theorem ar_alloc {t : TypeId} {Z : Array Value} (hi : ops[i]? = some oi) (hd : oi.dst = some d) (hw : Region.wanted oi (yielded ops a.tmps) = true) (ho : oi.op = .alloc t) (hz : ∀ w, (zeroValue t).run Tryz.prog w = .ok (.agg Z) w)
    (hS : S (w.alloc (.cells Z t)))
    (h : S (w.alloc (.cells Z t)) → wpAnyH Tryz.prog .any ops (NoPanic Q) S fuel (listed.setIfInBounds i true) (a.put (some d) (.pointer (some ⟨w.heap.size, 0, none⟩))) (w.alloc (.cells Z t)))
    (hs : AllReadyH Tryz.prog .any ops (NoPanic Q) S fuel listed a w rs) : AllReadyH Tryz.prog .any ops (NoPanic Q) S fuel listed a w (i :: rs) := by
  refine AllReadyH.cons hi (fun K hK => ?_) hs
  rw [if_pos hw]
  have hr : (execOp a.eval oi).run Tryz.prog w = .ok (.value (.pointer (some ⟨w.heap.size, 0, none⟩))) (w.alloc (.cells Z t)) := by
    unfold execOp
    simp only [ho]
    simp [Instr.alloc, hz, go_sem]
  unfold Oper.wp
  rw [hr, Oper.upon_value, hd]
  exact hK.out _ _ hS h

/-- A whole row stored, where others may come up too. -/
theorem ar_store {t t' : TypeId} {x y : Operand} (b : Nat) (A old : Array Value) (hi : ops[i]? = some oi) (hd : oi.dst = none) (hw : Region.wanted oi (yielded ops a.tmps) = true)
    (ho : oi.op = .store t x y) (hx : a.eval x = .pointer (some ⟨b, 0, none⟩)) (hy : a.eval y = .agg A) (hold : At w b old t') (hso : old.size = A.size) (h1 : A.all (·.oneCell') = true) (hsz : (Tryz.prog.info? t).map (·.size) = some A.size)
    (hS : S (w.setRow b A)) (h : S (w.setRow b A) → wpAnyH Tryz.prog .any ops (NoPanic Q) S fuel (listed.setIfInBounds i true) a (w.setRow b A))
    (hs : AllReadyH Tryz.prog .any ops (NoPanic Q) S fuel listed a w rs) : AllReadyH Tryz.prog .any ops (NoPanic Q) S fuel listed a w (i :: rs) := by
  refine AllReadyH.cons hi (fun K hK => ?_) hs
  rw [if_pos hw]
  refine wp_store_row t x y ho b A hx hy t' old hold hsz hso h1 ?_
  rw [hd]
  exact hK.out _ _ hS h

theorem mv_ready (rs : List Nat) (hr : Region.ready .any ops listed = rs) (hne : rs ≠ []) (h : AllReadyH Tryz.prog .any ops (NoPanic Q) S fuel listed a w rs) : wpAnyH Tryz.prog .any ops (NoPanic Q) S (fuel + 1) listed a w :=
  wpAnyH_ready hr hne h

/-- A call by its contract, where nothing else may come up, and all that stood stands. -/
theorem mv_call {f : FuncId} {xs : Array Operand} {ats : Array TypeId} {v : Value} (args : Array Value) (hi : ops[i]? = some oi) (hd : oi.dst = some d) (hr : Region.ready .any ops listed = [i]) (hw : Region.wanted oi (yielded ops a.tmps) = true)
    (ho : oi.op = .call { callee := .value (.func f), args := xs, argTypes := ats }) (hS : SB W w) (hn : ∀ args w, (callFunc f args).run Tryz.prog w = .ok (.enter f args) w)
    (ha : xs.map a.eval = args) (hc : Calls Tryz.prog f args w fun e w' => e = .returned v ∧ Below w.heap.size w w')
    (h : ∀ w', SB W w' → wpAnyH Tryz.prog .any ops (NoPanic Q) (SB W) fuel (listed.setIfInBounds i true) (a.put (some d) v) w') : wpAnyH Tryz.prog .any ops (NoPanic Q) (SB W) (fuel + 1) listed a w :=
  mv_ready [i] hr (by simp) (ar_callP args hi hd hw ho hn ha hc (fun _ hb => below_trans hS hb (Below.size hS)) (fun w' _ hS' => h w' hS') AllReadyH.nil)

theorem mv_done (hr : Region.ready .any ops listed = []) (h : Q .normal a w) : wpAnyH Tryz.prog .any ops (NoPanic Q) S fuel listed a w := wpAnyH_done hr (NoPanic.normal h) _
end

/-- A row and a number as results. -/
theorem results_row_int {fn : Func} {p q : Tmp} {t u : TypeId} {z : Value} (h : fn.results = #[.cell p t, .tmp q]) (tmps : Array Value) (w : World) (g : Nat) (A : Array Value) (m : Nat) (e : TypeId)
    (hp : tmps.getD p undef = .pointer (some ⟨g, 0, none⟩)) (hq : tmps.getD q undef = z) (hg : At w g A u)
    (hu : Tryz.prog.underlying t = some (.array m e)) (hA : (Tryz.prog.info? t).map (·.size) = some A.size) :
    (results fn tmps).run Tryz.prog w = .ok (.tuple #[.agg A, z]) w := by
  have hp' : tmps[p]?.getD undef = .pointer (some ⟨g, 0, none⟩) := by simpa using hp
  have hq' : tmps[q]?.getD undef = z := by simpa using hq
  have h1 := run_loadVar_row w g u t A (0, 0) _ hg hu rfl hA
  simp [results, h, hp', hq', asAddr, h1]
end Go.Proofs.YtimhemcoflpmcaaGreatDoor.Row
end

section
/- Slices of numbers: how they lie, and slices that came in. -/
set_option maxRecDepth 100000
set_option linter.unusedVariables false
namespace Go.Proofs.YtimhemcoflpmcaaGreatDoor.Row
open Go.ChangeShapes Go.WideShapes Go.ChangeAt Go.RowKit

/-- 'a, n, c' are a slice of n numbers of the kind k: f's. -/
def Sl (k : IntKind) (w : World) (a : Option Addr) (n c : Nat) (f : Nat → Int) : Prop :=
  n ≤ c ∧ c ≤ maxLen ∧ (0 < n → ∃ b o, a = some ⟨b, o, none⟩ ∧ ∀ i, i < n → w.cell? ⟨b, o + i, none⟩ = some (.int k (f i)))

theorem Sl.below {k : IntKind} {w w' : World} {a : Option Addr} {n c : Nat} {f : Nat → Int} (h : Sl k w a n c f) (hb : Below w.heap.size w w') : Sl k w' a n c f :=
  ⟨h.1, h.2.1, fun hn => by
    obtain ⟨b, o, e, hc⟩ := h.2.2 hn
    exact ⟨b, o, e, fun i hi => by rw [Below.cell hb (block_lt_of_cell (hc i hi))]; exact hc i hi⟩⟩

theorem Sl.ext {k : IntKind} {w : World} {a : Option Addr} {n c : Nat} {f g : Nat → Int} (h : Sl k w a n c f) (e : ∀ i, i < n → f i = g i) : Sl k w a n c g :=
  ⟨h.1, h.2.1, fun hn => by
    obtain ⟨b, o, ea, hc⟩ := h.2.2 hn
    exact ⟨b, o, ea, fun i hi => by rw [← e i hi]; exact hc i hi⟩⟩

theorem Sl.of_row {w : World} {g n c : Nat} {f : Nat → Int} {t : TypeId} (h : At w g (rowL c f n) t) (hn : n ≤ c) (hc : c ≤ maxLen) : Sl .i64 w (some ⟨g, 0, none⟩) n c f :=
  ⟨hn, hc, fun _ => ⟨g, 0, rfl, fun i hi => by
    have := rowL_cell h i (by omega)
    rw [if_pos hi] at this
    rw [Nat.zero_add]
    exact this⟩⟩

theorem Sl.of_isRow {w : World} {g n : Nat} {f : Nat → Int} {T : Array Value} {t : TypeId} (hT : IsRow n f T) (h : At w g T t) (hc : n ≤ maxLen) : Sl .i64 w (some ⟨g, 0, none⟩) n n f :=
  ⟨Nat.le_refl _, hc, fun _ => ⟨g, 0, rfl, fun i hi => by rw [Nat.zero_add]; exact hT.cell h i hi⟩⟩

theorem Sl.of_part {w : World} {g m : Nat} {f : Nat → Int} {T : Array Value} {t : TypeId} (hT : IsRow m f T) (h : At w g T t) (l n : Nat) (hm : l + n ≤ m) (hc : n ≤ maxLen) : Sl .i64 w (some ⟨g, l, none⟩) n n (fun i => f (l + i)) :=
  ⟨Nat.le_refl _, hc, fun _ => ⟨g, l, rfl, fun i hi => hT.cell h (l + i) (by omega)⟩⟩

/-- A slice that came in. -/
theorem open_slice_in {H : Type} {enc : TypeId × Value → H} {W : World} {r : Reach} {base b0 : Nat} {sp : Nat → Bool} {held : Bool} {t e : TypeId} {k : IntKind} {v : Value} {d : DataW H} {ps : List MemPlace}
    (hu : Tryz.prog.underlying t = some (.slice e)) (he : Tryz.prog.underlying e = some (.int k)) (hc : Tryz.prog.cellsOf e = 1)
    (hok : Value.okWide Tryz.prog W r b0 t v) (h : DataW.Trod enc Tryz.prog W base sp held t v d ps) :
    ∃ (a : Option Addr) (n c : Nat) (f : Nat → Int), v = .slice a n c ∧ Sl k W a n c f ∧ ∀ i, i < n → (Lit.int k (f i)).wf = true := by
  obtain ⟨a, n, c, rfl⟩ := okWide_slice hu hok
  obtain ⟨fuel, hf⟩ := h
  rcases open_ints hu he hc hf with ⟨hcs, _⟩ | ⟨x, l, c', zs, hcs, _, hl, hm, hz, _, hcell, hwz⟩
  · simp [Value.cells] at hcs
    obtain ⟨rfl, rfl, rfl⟩ := hcs
    exact ⟨none, 0, 0, fun _ => 0, rfl, ⟨Nat.le_refl _, Nat.zero_le _, fun h => absurd h (Nat.lt_irrefl _)⟩, fun i hi => absurd hi (Nat.not_lt_zero i)⟩
  · simp [Value.cells] at hcs
    obtain ⟨rfl, rfl, rfl⟩ := hcs
    have hzl : n ≤ zs.length := by rw [hz]; split <;> omega
    refine ⟨some x, n, c, fun i => zs.getD i 0, rfl, ⟨hl, hm, fun hn => ?_⟩, fun i hi => ?_⟩
    · have h0 := hcell 0 (by omega)
      have hx : x.spot = none := by
        unfold World.cell? at h0
        split at h0
        · simp only [Addr.add] at h0
          by_cases hs : x.spot.isSome = true
          · simp [hs] at h0
          · simpa using hs
        · cases h0
      obtain ⟨b, o, s⟩ := x
      simp only at hx
      subst hx
      refine ⟨b, o, rfl, fun i hi => ?_⟩
      have := hcell i (by omega)
      unfold Addr.add at this
      by_cases e0 : i = 0
      · subst e0; simpa using this
      · simpa [e0] using this
    · have hl' : i < zs.length := by omega
      have e : zs.getD i 0 = zs[i] := by simp [hl']
      show (Lit.int k (zs.getD i 0)).wf = true
      rw [e]
      exact hwz _ (List.getElem_mem hl')
end Go.Proofs.YtimhemcoflpmcaaGreatDoor.Row
end

section
/- Moves through a region that draws its order: calls whose results are known by what holds of them; rows loaded out of the world at hand. -/
namespace Go.Proofs.YtimhemcoflpmcaaGreatDoor.Row
open Go.RowKit

section
variable {ops : Array Oper} {Q : Exit → Act → World → Prop} {S : World → Prop} {fuel : Nat} {listed : Array Bool} {a : Act} {w : World} {oi : Oper} {i d : Nat} {rs : List Nat}

/-- A call by its contract, its result known by what holds of it, where others may come up too. -/
theorem ar_callE {f : FuncId} {xs : Array Operand} {ats : Array TypeId} {R : Value → World → Prop} (args : Array Value) (hi : ops[i]? = some oi) (hd : oi.dst = some d) (hw : Region.wanted oi (yielded ops a.tmps) = true)
    (ho : oi.op = .call { callee := .value (.func f), args := xs, argTypes := ats }) (hn : ∀ args w, (callFunc f args).run Tryz.prog w = .ok (.enter f args) w)
    (ha : xs.map a.eval = args) (hc : Calls Tryz.prog f args w fun e w' => ∃ v, e = .returned v ∧ R v w') (hR : ∀ v w', R v w' → S w')
    (h : ∀ v w', R v w' → S w' → wpAnyH Tryz.prog .any ops (NoPanic Q) S fuel (listed.setIfInBounds i true) (a.put (some d) v) w')
    (hs : AllReadyH Tryz.prog .any ops (NoPanic Q) S fuel listed a w rs) : AllReadyH Tryz.prog .any ops (NoPanic Q) S fuel listed a w (i :: rs) := by
  refine AllReadyH.cons hi (fun K hK => ?_) hs
  rw [if_pos hw]
  obtain ⟨dst, op, type, pos, after, guard⟩ := oi
  dsimp only at ho hd
  subst ho hd
  unfold Oper.wp
  rw [execOp_call_go]
  have e : (#[] ++ xs.map a.eval ++ #[] : Array Value) = xs.map a.eval := by simp
  rw [e, hn, ha]
  show Calls Tryz.prog f args w _
  refine hc.mono fun e w' ⟨v, he, hb⟩ => ?_
  subst he
  exact hK.out _ _ (hR v w' hb) fun _ => h v w' hb (hR v w' hb)

/-- A whole row loaded out of the world at hand, where others may come up too. -/
theorem ar_load {t t' e : TypeId} {x : Operand} {b m : Nat} {A : Array Value} (hi : ops[i]? = some oi) (hd : oi.dst = some d) (hw : Region.wanted oi (yielded ops a.tmps) = true) (ho : oi.op = .load t x)
    (hx : a.eval x = .pointer (some ⟨b, 0, none⟩)) (hA : At w b A t') (hu : Tryz.prog.underlying t = some (.array m e)) (hsz : (Tryz.prog.info? t).map (·.size) = some A.size) (hS : S w)
    (h : wpAnyH Tryz.prog .any ops (NoPanic Q) S fuel (listed.setIfInBounds i true) (a.put (some d) (.agg A)) w)
    (hs : AllReadyH Tryz.prog .any ops (NoPanic Q) S fuel listed a w rs) : AllReadyH Tryz.prog .any ops (NoPanic Q) S fuel listed a w (i :: rs) := by
  refine AllReadyH.cons hi (fun K hK => ?_) hs
  rw [if_pos hw]
  have hr : (execOp a.eval oi).run Tryz.prog w = .ok (.value (.agg A)) w := by
    unfold execOp
    simp only [ho, hx, run_load hu hA hsz, Sem.run_bind, Sem.run_pure, Result.andThen_ok]
  unfold Oper.wp
  rw [hr, Oper.upon_value, hd]
  exact hK.out _ _ hS fun _ => h
end
end Go.Proofs.YtimhemcoflpmcaaGreatDoor.Row
end

section
/- Moves through a region that draws its order and ends in stores into what the region itself reads: S is asked behind all operations but those of F, each of which waits for whatever is taken first. -/
namespace Go.Proofs.YtimhemcoflpmcaaGreatDoor.Row
open Go.RowKit

def wpAnyF (P : Program) (md : Region.Mode) (ops : Array Oper) (Q : Exit → Act → World → Prop) (S : World → Prop) (F : Nat → Bool) : Nat → Array Bool → Act → World → Prop
  | 0, listed, a, w => Region.ready md ops listed = [] ∧ Q .normal a w
  | fuel + 1, listed, a, w =>
    (Region.ready md ops listed = [] → Q .normal a w) ∧
    ∀ i ∈ Region.ready md ops listed, wpOp P ops Q i (fun a' w' => (F i = false → S w') ∧ wpAnyF P md ops Q S F fuel (listed.setIfInBounds i true) a' w') a w

section
variable {P : Program} {ops : Array Oper} {Q : Exit → Act → World → Prop} {md : Region.Mode} {S : World → Prop} {F : Nat → Bool}

theorem wpAny_of_F : ∀ (fuel : Nat) (listed : Array Bool) (a : Act) (w : World), wpAnyF P md ops Q S F fuel listed a w → wpAny P md ops Q fuel listed a w
  | 0, _, _, _, h => h
  | fuel + 1, _, _, _, h => ⟨h.1, fun i hi => wpOp_mono (fun a' w' h' => wpAny_of_F fuel _ a' w' h'.2) (h.2 i hi)⟩

/-- Does each of F's operations wait for number i? -/
def waitsFor (md : Region.Mode) (ops : Array Oper) (F : Nat → Bool) (i : Nat) : Bool := (List.range ops.size).all fun j => !F j || (match ops[j]? with
  | some o => o.after.any fun e => Region.binds md e && e.on == i
  | none => true)

theorem waitsFor_spec {i : Nat} (h : waitsFor md ops F i = true) : ∀ j oj, ops[j]? = some oj → (∀ e ∈ oj.after, Region.binds md e = true → e.on ≠ i) → F j = false := by
  intro j oj hj hno
  unfold waitsFor at h
  rw [List.all_eq_true] at h
  have hlt : j < ops.size := (Array.getElem?_eq_some_iff.1 hj).1
  have := h j (List.mem_range.2 hlt)
  rw [hj] at this
  cases hF : F j with
  | false => rfl
  | true =>
    simp only [hF, Bool.not_true, Bool.false_or, Array.any_eq_true'] at this
    obtain ⟨e, he, h2⟩ := this
    rw [Bool.and_eq_true, beq_iff_eq] at h2
    exact absurd h2.2 (hno e he h2.1)

/-- What may come up waits for nothing that may come up. -/
theorem ready_apart {i j : Nat} {listed : Array Bool} (hi : i ∈ Region.ready md ops listed) {oj : Oper} (hoj : ops[j]? = some oj) (hj : j ∈ Region.ready md ops listed) : ∀ e ∈ oj.after, Region.binds md e = true → e.on ≠ i := by
  intro e he hb heq
  obtain ⟨un, _⟩ := mem_ready.1 hi
  obtain ⟨_, o, ho, all⟩ := mem_ready.1 hj
  obtain rfl : o = oj := Option.some.inj (ho.symm.trans hoj)
  have on := all e he hb
  subst heq
  by_cases hl : e.on < listed.size
  · rw [Array.getD, dif_pos hl] at un on
    exact Bool.false_ne_true (un.symm.trans on)
  · rw [Array.getD, dif_neg hl] at on
    exact Bool.false_ne_true on

/-- That whatever is left waits for 'i' or stays apart from it: as told by the list of what has come up. -/
def Apart (md : Region.Mode) (ops : Array Oper) (i : Nat) (oi : Oper) (listed : Array Bool) : Prop :=
  ∀ j oj, ops[j]? = some oj → j ≠ i → listed.getD j true = false → (∀ e ∈ oj.after, Region.binds md e = true → e.on ≠ i) → oi.apart ops oj = true
theorem Apart.step {i j : Nat} {oi : Oper} {listed : Array Bool} (h : Apart md ops i oi listed) (hj : listed.getD j true = false) : Apart md ops i oi (listed.setIfInBounds j true) := by
  intro k ok hk hki hun hno
  apply h k ok hk hki _ hno
  rcases Nat.decEq j k with ne | rfl
  · rwa [getD_set_ne true ne] at hun
  · exact hj

/-- What yields its value wherever S holds, and for which each of F's operations waits, may be taken first. -/
theorem wpAnyF_first {i : Nat} {oi : Oper} {v : Value} (hi : ops[i]? = some oi) (hsel : ∀ (j : Nat) (o : Oper) cs b, ops[j]? = some o → o.op ≠ .select cs b)
    (hQ : ∀ c a w, Q (.panic c) (a.put oi.dst v) w → Q (.panic c) a w) (hF : ∀ j oj, ops[j]? = some oj → (∀ e ∈ oj.after, Region.binds md e = true → e.on ≠ i) → F j = false) :
    ∀ {fuel : Nat} {listed : Array Bool} {a : Act} {w : World}, Apart md ops i oi listed → i ∈ Region.ready md ops listed → YieldsIf P ops S oi v a → S w →
      wpAnyF P md ops Q S F fuel (listed.setIfInBounds i true) (a.put oi.dst v) w → wpAnyF P md ops Q S F (fuel + 1) listed a w
  | fuel, listed, a, w, hap, hr, hy, hS, H => by
    refine ⟨fun none => absurd (none ▸ hr) List.not_mem_nil, fun j hj => ?_⟩
    by_cases e : j = i
    · rw [e]
      exact hy.wpOp hi hS ⟨fun _ => hS, H⟩
    · have hj' := ready_mono (i := i) hj e
      match fuel, H with
      | 0, H => exact absurd (H.1 ▸ hj') List.not_mem_nil
      | fuel + 1, H =>
        obtain ⟨un, oj, hoj, _⟩ := mem_ready.1 hj
        have no := ready_apart hr hoj hj
        have step := wpOp_putIf hoj (hap j oj hoj e un no) (fun cs b => hsel i oi cs b hi) (fun cs b => hsel j oj cs b hoj) hQ hy (H.2 j hj')
        refine wpOp_mono (fun a' w' out => ?_) step
        obtain ⟨hy', hS', H'⟩ := out
        have sw := hS' (hF j oj hoj no)
        rw [Array.setIfInBounds_comm _ _ (Ne.symm e)] at H'
        exact ⟨hS', wpAnyF_first hi hsel hQ hF (hap.step un) (ready_mono hr (Ne.symm e)) hy' sw H'⟩

theorem wpAnyF_take {i : Nat} {oi : Oper} {v : Value} {fuel : Nat} {listed : Array Bool} {a : Act} {w : World} (hi : ops[i]? = some oi)
    (hs : Region.noSelect ops = true) (hf : Region.free md ops listed i = true) (hr : (Region.ready md ops listed).contains i = true) (hF : waitsFor md ops F i = true)
    (hQ : ∀ c a w, Q (.panic c) (a.put oi.dst v) w → Q (.panic c) a w) (hy : YieldsIf P ops S oi v a) (hS : S w)
    (h : wpAnyF P md ops Q S F fuel (listed.setIfInBounds i true) (a.put oi.dst v) w) : wpAnyF P md ops Q S F (fuel + 1) listed a w :=
  wpAnyF_first hi (Region.noSelect_spec hs) hQ (waitsFor_spec hF) (Region.free_spec hi hf) (by simpa using hr) hy hS h

theorem wpAnyF_done {listed : Array Bool} {a : Act} {w : World} (hr : Region.ready md ops listed = []) (h : Q .normal a w) : ∀ fuel, wpAnyF P md ops Q S F fuel listed a w
  | 0 => ⟨hr, h⟩
  | _ + 1 => ⟨fun _ => h, by rw [hr]; simp⟩

/-- Each of the operations 'rs' comes up next. -/
def AllReadyF (P : Program) (md : Region.Mode) (ops : Array Oper) (Q : Exit → Act → World → Prop) (S : World → Prop) (F : Nat → Bool) (fuel : Nat) (listed : Array Bool) (a : Act) (w : World) (rs : List Nat) : Prop :=
  ∀ i ∈ rs, wpOp P ops Q i (fun a' w' => (F i = false → S w') ∧ wpAnyF P md ops Q S F fuel (listed.setIfInBounds i true) a' w') a w
theorem AllReadyF.nil {fuel : Nat} {listed : Array Bool} {a : Act} {w : World} : AllReadyF P md ops Q S F fuel listed a w [] := fun _ h => by cases h
theorem AllReadyF.cons {fuel : Nat} {listed : Array Bool} {a : Act} {w : World} {i : Nat} {o : Oper} {rs : List Nat} (ho : ops[i]? = some o)
    (h : ∀ K' : Act → World → Prop, Shut (∀ a w, (F i = false → S w) → wpAnyF P md ops Q S F fuel (listed.setIfInBounds i true) a w → K' a w) → if Region.wanted o (yielded ops a.tmps) = true then Oper.wp P o a w K' Q else K' (a.put o.dst undef) w)
    (hs : AllReadyF P md ops Q S F fuel listed a w rs) : AllReadyF P md ops Q S F fuel listed a w (i :: rs) := fun j hj => by
  rcases List.mem_cons.1 hj with rfl | hj
  · exact wpOp_step ho (fun K' hK => h K' (fun a w hS hW => hK a w ⟨hS, hW⟩))
  · exact hs j hj
theorem wpAnyF_ready {rs : List Nat} {fuel : Nat} {listed : Array Bool} {a : Act} {w : World} (hr : Region.ready md ops listed = rs) (hne : rs ≠ [])
    (h : AllReadyF P md ops Q S F fuel listed a w rs) : wpAnyF P md ops Q S F (fuel + 1) listed a w := ⟨fun h0 => absurd (hr ▸ h0) hne, hr ▸ h⟩
theorem wp_region_F {id : Nat} {a : Act} {w : World} (hm : P.follows .mixedOrders = true) (h : S w.drew → wpAnyF P .any ops Q S F ops.size (Array.replicate ops.size false) a w.drew) (hS : S w.drew) : (Code.region id ops true).wp P Q a w :=
  wp_region_any hm (wpAny_of_F _ _ _ _ (h hS))
end

section
variable {ops : Array Oper} {Q : Exit → Act → World → Prop} {S : World → Prop} {F : Nat → Bool} {fuel : Nat} {listed : Array Bool} {a : Act} {w : World} {oi : Oper} {i d : Nat} {rs : List Nat}

theorem mf_start {id : Nat} (S : World → Prop) (F : Nat → Bool) (hS : S w.drew) (h : S w.drew → wpAnyF Tryz.prog .any ops (NoPanic Q) S F ops.size (Array.replicate ops.size false) a w.drew) : (Code.region id ops true).wp Tryz.prog Q a w :=
  wp_region_noPanic (wp_region_F (by kernel_rfl) h hS)
theorem mf_yield (v : Value) (hi : ops[i]? = some oi) (hd : oi.dst = some d) (hs : Region.noSelect ops = true) (hf : Region.free .any ops listed i = true) (hr : (Region.ready .any ops listed).contains i = true) (hF : waitsFor .any ops F i = true)
    (hS : S w) (hy : YieldsIf Tryz.prog ops S oi v a)
    (h : wpAnyF Tryz.prog .any ops (NoPanic Q) S F fuel (listed.setIfInBounds i true) (a.put (some d) v) w) : wpAnyF Tryz.prog .any ops (NoPanic Q) S F (fuel + 1) listed a w :=
  wpAnyF_take hi hs hf hr hF (fun _ _ _ h => h) hy hS (by rw [hd]; exact h)
theorem mf_ready (rs : List Nat) (hr : Region.ready .any ops listed = rs) (hne : rs ≠ []) (h : AllReadyF Tryz.prog .any ops (NoPanic Q) S F fuel listed a w rs) : wpAnyF Tryz.prog .any ops (NoPanic Q) S F (fuel + 1) listed a w := wpAnyF_ready hr hne h
theorem mf_done (hr : Region.ready .any ops listed = []) (h : Q .normal a w) : wpAnyF Tryz.prog .any ops (NoPanic Q) S F fuel listed a w := wpAnyF_done hr (NoPanic.normal h) _

/-- A call by its contract, its result known by what holds of it. -/
theorem af_call {f : FuncId} {xs : Array Operand} {ats : Array TypeId} {R : Value → World → Prop} (args : Array Value) (hi : ops[i]? = some oi) (hd : oi.dst = some d) (hw : Region.wanted oi (yielded ops a.tmps) = true)
    (ho : oi.op = .call { callee := .value (.func f), args := xs, argTypes := ats }) (hn : ∀ args w, (callFunc f args).run Tryz.prog w = .ok (.enter f args) w)
    (ha : xs.map a.eval = args) (hc : Calls Tryz.prog f args w fun e w' => ∃ v, e = .returned v ∧ R v w') (hR : ∀ v w', R v w' → S w')
    (h : ∀ v w', R v w' → S w' → wpAnyF Tryz.prog .any ops (NoPanic Q) S F fuel (listed.setIfInBounds i true) (a.put (some d) v) w')
    (hs : AllReadyF Tryz.prog .any ops (NoPanic Q) S F fuel listed a w rs) : AllReadyF Tryz.prog .any ops (NoPanic Q) S F fuel listed a w (i :: rs) := by
  refine AllReadyF.cons hi (fun K hK => ?_) hs
  rw [if_pos hw]
  obtain ⟨dst, op, type, pos, after, guard⟩ := oi
  dsimp only at ho hd
  subst ho hd
  unfold Oper.wp
  rw [execOp_call_go]
  have e : (#[] ++ xs.map a.eval ++ #[] : Array Value) = xs.map a.eval := by simp
  rw [e, hn, ha]
  show Calls Tryz.prog f args w _
  refine hc.mono fun e w' ⟨v, he, hb⟩ => ?_
  subst he
  exact hK.out _ _ (fun _ => hR v w' hb) (h v w' hb (hR v w' hb))

/-- A whole row stored, by one of F. -/
theorem af_store {t t' : TypeId} {x y : Operand} (b : Nat) (A old : Array Value) (hi : ops[i]? = some oi) (hd : oi.dst = none) (hw : Region.wanted oi (yielded ops a.tmps) = true)
    (ho : oi.op = .store t x y) (hF : F i = true) (hx : a.eval x = .pointer (some ⟨b, 0, none⟩)) (hy : a.eval y = .agg A) (hold : At w b old t') (hso : old.size = A.size) (h1 : A.all (·.oneCell') = true) (hsz : (Tryz.prog.info? t).map (·.size) = some A.size)
    (h : wpAnyF Tryz.prog .any ops (NoPanic Q) S F fuel (listed.setIfInBounds i true) a (w.setRow b A))
    (hs : AllReadyF Tryz.prog .any ops (NoPanic Q) S F fuel listed a w rs) : AllReadyF Tryz.prog .any ops (NoPanic Q) S F fuel listed a w (i :: rs) := by
  refine AllReadyF.cons hi (fun K hK => ?_) hs
  rw [if_pos hw]
  refine wp_store_row t x y ho b A hx hy t' old hold hsz hso h1 ?_
  rw [hd]
  exact hK.out _ _ (fun h => by rw [hF] at h; cases h) h

/-- A number assigned to a slot, by one of F or not. -/
theorem af_assign {v : Value} (hi : ops[i]? = some oi) (hd : oi.dst = some d) (hw : Region.wanted oi (yielded ops a.tmps) = true) (hr : ∀ w, (execOp a.eval oi).run Tryz.prog w = .ok (.value v) w) (hS : F i = false → S w)
    (h : wpAnyF Tryz.prog .any ops (NoPanic Q) S F fuel (listed.setIfInBounds i true) (a.put (some d) v) w)
    (hs : AllReadyF Tryz.prog .any ops (NoPanic Q) S F fuel listed a w rs) : AllReadyF Tryz.prog .any ops (NoPanic Q) S F fuel listed a w (i :: rs) := by
  refine AllReadyF.cons hi (fun K hK => ?_) hs
  rw [if_pos hw]
  unfold Oper.wp
  rw [hr, Oper.upon_value, hd]
  exact hK.out _ _ hS h
end
end Go.Proofs.YtimhemcoflpmcaaGreatDoor.Row
end

section
/- A move more through a drawn region that ends in a store: a number stored into a cell that the region itself reads. -/
namespace Go.Proofs.YtimhemcoflpmcaaGreatDoor.Row
open Go.RowKit

theorem run_storeAt_int {w : World} {p : Addr} {u : Value} (v : Int) (hc : w.cell? p = some u) (hf : w.frozen? p = false) : (Instr.storeAt 3 (.pointer (some p)) (.int .i64 v)).run Tryz.prog w = .ok () (w.setCell p (.int .i64 v)) := by
  have e : p.add 0 = p := by unfold Addr.add; simp
  simp [e, Instr.storeAt, Instr.sureAddr, storeVar, storeCells, Value.cells, run_store_int, stored, hc, hf]

section
variable {ops : Array Oper} {Q : Exit → Act → World → Prop} {S : World → Prop} {F : Nat → Bool} {fuel : Nat} {listed : Array Bool} {a : Act} {w : World} {oi : Oper} {i : Nat} {rs : List Nat}

/-- A number stored into a cell, by one of F. -/
theorem af_cell {x y : Operand} (p : Addr) (v : Int) {u : Value} (hi : ops[i]? = some oi) (hd : oi.dst = none) (hw : Region.wanted oi (yielded ops a.tmps) = true)
    (ho : oi.op = .store 3 x y) (hF : F i = true) (hx : a.eval x = .pointer (some p)) (hy : a.eval y = .int .i64 v) (hc : w.cell? p = some u) (hf : w.frozen? p = false)
    (h : wpAnyF Tryz.prog .any ops (NoPanic Q) S F fuel (listed.setIfInBounds i true) a (w.setCell p (.int .i64 v)))
    (hs : AllReadyF Tryz.prog .any ops (NoPanic Q) S F fuel listed a w rs) : AllReadyF Tryz.prog .any ops (NoPanic Q) S F fuel listed a w (i :: rs) := by
  refine AllReadyF.cons hi (fun K hK => ?_) hs
  rw [if_pos hw]
  unfold Oper.wp execOp
  simp only [ho, hx, hy, Sem.run_bind, Sem.run_pure, Result.andThen_ok, run_storeAt_int v hc hf]
  rw [Oper.upon_skip, hd]
  exact hK.out _ _ (fun h => by rw [hF] at h; cases h) h
end
end Go.Proofs.YtimhemcoflpmcaaGreatDoor.Row
end

section
/- What operations of a region yield, one by one: arithmetic, comparisons, len, max, picks. -/
namespace Go.Proofs.YtimhemcoflpmcaaGreatDoor.Row
open Go.RowKit

section
variable {ops : Array Oper} {S : World → Prop} {a : Act} {oi : Oper}

theorem y_neg {y : Operand} {x r : Int} (hw : Region.wanted oi (yielded ops a.tmps) = true) (ho : oi.op = .unOp .neg 3 y) (hy : a.eval y = .int .i64 x) (hr : IntKind.i64.wrap (-x) = r) : YieldsIf Tryz.prog ops S oi (.int .i64 r) a :=
  y_run hw fun w => by
    unfold execOp
    simp only [ho, hy]
    simp [go_sem, hr]
theorem y_not {t : TypeId} {y : Operand} {b : Bool} (hw : Region.wanted oi (yielded ops a.tmps) = true) (ho : oi.op = .unOp .not t y) (hy : a.eval y = .bool b) : YieldsIf Tryz.prog ops S oi (.bool (!b)) a :=
  y_run hw fun w => by
    unfold execOp
    simp only [ho, hy]
    simp [go_sem]
theorem y_add {t t' : TypeId} {y z : Operand} {m n r : Int} (hw : Region.wanted oi (yielded ops a.tmps) = true) (ho : oi.op = .binOp .add t y z t') (hy : a.eval y = .int .i64 m) (hz : a.eval z = .int .i64 n) (hr : IntKind.i64.wrap (m + n) = r) : YieldsIf Tryz.prog ops S oi (.int .i64 r) a :=
  y_run hw fun w => by
    unfold execOp
    simp only [ho, hy, hz]
    simp [go_sem, hr]
theorem y_sub {t t' : TypeId} {y z : Operand} {m n r : Int} (hw : Region.wanted oi (yielded ops a.tmps) = true) (ho : oi.op = .binOp .sub t y z t') (hy : a.eval y = .int .i64 m) (hz : a.eval z = .int .i64 n) (hr : IntKind.i64.wrap (m - n) = r) : YieldsIf Tryz.prog ops S oi (.int .i64 r) a :=
  y_run hw fun w => by
    unfold execOp
    simp only [ho, hy, hz]
    simp [go_sem, hr]
theorem y_mul {t t' : TypeId} {y z : Operand} {m n r : Int} (hw : Region.wanted oi (yielded ops a.tmps) = true) (ho : oi.op = .binOp .mul t y z t') (hy : a.eval y = .int .i64 m) (hz : a.eval z = .int .i64 n) (hr : IntKind.i64.wrap (m * n) = r) : YieldsIf Tryz.prog ops S oi (.int .i64 r) a :=
  y_run hw fun w => by
    unfold execOp
    simp only [ho, hy, hz]
    simp [go_sem, hr]
theorem y_lss {t t' : TypeId} {y z : Operand} {m n : Int} {b : Bool} (hw : Region.wanted oi (yielded ops a.tmps) = true) (ho : oi.op = .binOp .lss t y z t') (hy : a.eval y = .int .i64 m) (hz : a.eval z = .int .i64 n) (hb : decide (m < n) = b) : YieldsIf Tryz.prog ops S oi (.bool b) a :=
  y_run hw fun w => by
    unfold execOp
    simp only [ho, hy, hz]
    simp [go_sem, hb]
theorem y_gtr {t t' : TypeId} {y z : Operand} {m n : Int} {b : Bool} (hw : Region.wanted oi (yielded ops a.tmps) = true) (ho : oi.op = .binOp .gtr t y z t') (hy : a.eval y = .int .i64 m) (hz : a.eval z = .int .i64 n) (hb : decide (n < m) = b) : YieldsIf Tryz.prog ops S oi (.bool b) a :=
  y_run hw fun w => by
    unfold execOp
    simp only [ho, hy, hz]
    simp [go_sem, hb]
theorem y_eqi2 {t' : TypeId} {y z : Operand} {m n : Int} {b : Bool} (hw : Region.wanted oi (yielded ops a.tmps) = true) (ho : oi.op = .binOp .eql 3 y z t') (hy : a.eval y = .int .i64 m) (hz : a.eval z = .int .i64 n) (hb : (m == n) = b) : YieldsIf Tryz.prog ops S oi (.bool b) a :=
  y_run hw fun w => by
    unfold execOp
    simp only [ho, hy, hz]
    simp [go_sem, hb]
theorem y_nei {t' : TypeId} {y z : Operand} {m n : Int} {b : Bool} (hw : Region.wanted oi (yielded ops a.tmps) = true) (ho : oi.op = .binOp .neq 3 y z t') (hy : a.eval y = .int .i64 m) (hz : a.eval z = .int .i64 n) (hb : (m != n) = b) : YieldsIf Tryz.prog ops S oi (.bool b) a :=
  y_run hw fun w => by
    unfold execOp
    simp only [ho, hy, hz]
    simp [go_sem, hb]
theorem y_neb {y z : Operand} {t' : TypeId} {m n b : Bool} (hw : Region.wanted oi (yielded ops a.tmps) = true) (ho : oi.op = .binOp .neq 4 y z t') (hy : a.eval y = .bool m) (hz : a.eval z = .bool n) (hb : (m != n) = b) : YieldsIf Tryz.prog ops S oi (.bool b) a :=
  y_run hw fun w => by
    subst hb
    unfold execOp
    simp only [ho, hy, hz]
    cases m <;> cases n <;> simp [go_sem]
theorem run_max2 (x u : Int) (h : max x (-x) = u) (w : World) :
    Sem.run Tryz.prog (Builtin.max_ #[3, 3] 3 #[.int .i64 x, .int .i64 (-x)]) w = .ok (.int .i64 u) w := by
  have e : (if x < -x then -x else x) = u := by
    rw [← h]; split <;> omega
  rw [← e]
  simp [Builtin.max_, Builtin.max2]
/-- 'max(x, -x)'. -/
theorem y_abs {y z : Operand} {m r : Int} (hw : Region.wanted oi (yielded ops a.tmps) = true) (ho : oi.op = .call { callee := .builtin .max, args := #[y, z], argTypes := #[3, 3] }) (ht : oi.type = 3) (hy : a.eval y = .int .i64 m) (hz : a.eval z = .int .i64 (-m)) (hr : max m (-m) = r) : YieldsIf Tryz.prog ops S oi (.int .i64 r) a :=
  y_run hw fun w => by
    have h := run_max2 m r hr w
    unfold execOp
    simp only [ho, ht, resolve, invoke, builtin, Sem.run_bind, Sem.run_pure, Result.andThen_ok, List.map_toArray, List.map_cons, List.map_nil, hy, hz, h]
theorem y_len {t : TypeId} {e : TypeId} {y : Operand} {ao : Option Addr} {n c : Nat} (hw : Region.wanted oi (yielded ops a.tmps) = true) (ho : oi.op = .call { callee := .builtin .len, args := #[y], argTypes := #[t] }) (hu : Tryz.prog.underlying t = some (.slice e)) (hy : a.eval y = .slice ao n c) : YieldsIf Tryz.prog ops S oi (.int .i64 n) a :=
  y_run hw fun w => by
    unfold execOp
    simp only [ho, resolve, invoke, builtin, Sem.run_bind, Sem.run_pure, Result.andThen_ok, List.map_toArray, List.map_cons, List.map_nil, hy]
    simp [Builtin.len_, run_underlying hu]
    rfl
end
end Go.Proofs.YtimhemcoflpmcaaGreatDoor.Row
end

section
/- What operations of a region yield: named integers compared, a string's length. -/
namespace Go.Proofs.YtimhemcoflpmcaaGreatDoor.Row
open Go.RowKit

section
variable {ops : Array Oper} {S : World → Prop} {a : Act} {oi : Oper}

theorem y_eqe {t' : TypeId} {y z : Operand} {m n : Int} {b : Bool} (hw : Region.wanted oi (yielded ops a.tmps) = true) (ho : oi.op = .binOp .eql 28 y z t') (hy : a.eval y = .int .i64 m) (hz : a.eval z = .int .i64 n) (hb : (m == n) = b) : YieldsIf Tryz.prog ops S oi (.bool b) a :=
  y_run hw fun w => by
    unfold execOp
    simp only [ho, hy, hz]
    simp [go_sem, hb]
theorem y_lens {y : Operand} {s : ByteArray} {n : Int} (hw : Region.wanted oi (yielded ops a.tmps) = true) (ho : oi.op = .call { callee := .builtin .len, args := #[y], argTypes := #[9] }) (hy : a.eval y = .string s) (hn : (s.size : Int) = n) : YieldsIf Tryz.prog ops S oi (.int .i64 n) a :=
  y_run hw fun w => by
    subst hn
    unfold execOp
    simp only [ho, resolve, invoke, builtin, Sem.run_bind, Sem.run_pure, Result.andThen_ok, List.map_toArray, List.map_cons, List.map_nil, hy]
    simp [Builtin.len_, run_underlying Tryz.underlying9]
    rfl
end
end Go.Proofs.YtimhemcoflpmcaaGreatDoor.Row
end

section
/- What operations of a region yield: indexes into slices. -/
namespace Go.Proofs.YtimhemcoflpmcaaGreatDoor.Row
open Go.RowKit

theorem run_ix {b o n c k q : Nat} (hq : o + k = q) (hk : k < n) (w : World) :
    (Instr.indexAt 66 (.slice (some ⟨b, o, none⟩) n c) (.int .i64 k)).run Tryz.prog w = .ok (.pointer (some ⟨b, q, none⟩)) w := by
  subst hq
  have h : (0 : Int) ≤ (k : Int) ∧ (k : Int) < (n : Int) := by omega
  unfold Instr.indexAt
  simp only [Sem.run_bind, asIntOf, Sem.run_pure, Result.andThen_ok, run_underlying Tryz.underlying66, if_pos h, sizeOf_int]
  simp only [Addr.add, Nat.mul_one, Int.toNat_natCast]
  split <;> simp_all

section
variable {ops : Array Oper} {S : World → Prop} {a : Act} {oi : Oper}

theorem y_ix {y z : Operand} {b o n c k q : Nat} {x : Int} (hw : Region.wanted oi (yielded ops a.tmps) = true) (ho : oi.op = .indexAddr 66 y z) (hy : a.eval y = .slice (some ⟨b, o, none⟩) n c) (hz : a.eval z = .int .i64 x)
    (hx : x = k) (hq : o + k = q) (hk : k < n) : YieldsIf Tryz.prog ops S oi (.pointer (some ⟨b, q, none⟩)) a :=
  y_run hw fun w => by
    subst hx
    unfold execOp
    simp only [ho, hy, hz, run_ix hq hk, Sem.run_bind, Result.andThen_ok, Sem.run_pure]
end
end Go.Proofs.YtimhemcoflpmcaaGreatDoor.Row
end

section
/- Several variables made at once, 'x, y := f(a), g(b)': calls that wait for one another, new variables that wait for nobody, in whatever order; what is stored comes behind. For every package. -/
namespace Go.Proofs.YtimhemcoflpmcaaGreatDoor.Row
open Go.RowKit

def direct (ops : Array Oper) (i : Nat) : List Nat := match ops[i]? with
  | some o => (o.after.toList.filter fun e => Region.binds .any e).map (·.on)
  | none => []
/-- Each waits for earlier ones of the list, and for what has come up already. -/
def chkOrder (ops : Array Oper) (hd : List Nat) (l1 : Array Bool) : List Nat → List Nat → Bool
  | _, [] => true
  | before, i :: rest => (direct ops i).all (fun p => before.contains p || (!hd.contains p && l1.getD p false)) && chkOrder ops hd l1 (i :: before) rest
/-- j waits for all of the list, by itself or by those that it waits for. -/
def waits (ops : Array Oper) (j : Nat) : List Nat → List Nat → Bool
  | _, [] => true
  | acc, i :: rest => ((direct ops j).contains i || acc.any (fun k => (direct ops k).contains i)) && waits ops j (i :: acc) rest
def chkTail (ops : Array Oper) (hd rd : List Nat) (l1 : Array Bool) : Bool := (List.range ops.size).all fun j => l1.getD j true || ((direct ops j).any (fun p => !hd.contains p && !l1.getD p true) || waits ops j [] rd)
def dstOf (ops : Array Oper) (i : Nat) : Option Tmp := (ops[i]?).bind (·.dst)
def chkApart (ops : Array Oper) (hd : List Nat) : Bool := hd.all fun i => match ops[i]? with
  | some o => o.guard.isNone && (hd.all fun k => i == k || match ops[k]? with
    | some o' => o.apart ops o'
    | none => false)
  | none => false

section
variable {ops : Array Oper} {hd : List Nat} {l1 : Array Bool}

theorem direct_ready {listed : Array Bool} {j : Nat} (h : j ∈ Region.ready .any ops listed) : ∀ p ∈ direct ops j, listed.getD p false = true := by
  obtain ⟨_, o, ho, hall⟩ := mem_ready.1 h
  intro p hp
  unfold direct at hp
  rw [ho] at hp
  simp only [List.mem_map, List.mem_filter] at hp
  obtain ⟨e, ⟨he, hb⟩, rfl⟩ := hp
  exact hall e (by simpa using he) hb
theorem ready_of {listed : Array Bool} {j : Nat} {o : Oper} (ho : ops[j]? = some o) (hl : listed.getD j true = false) (h : ∀ p ∈ direct ops j, listed.getD p false = true) : j ∈ Region.ready .any ops listed := by
  refine mem_ready.2 ⟨hl, o, ho, fun e he hb => h e.on ?_⟩
  unfold direct
  rw [ho]
  simp only [List.mem_map, List.mem_filter]
  exact ⟨e, ⟨by simpa using he, hb⟩, rfl⟩

theorem waits_all {listed : Array Bool} {j : Nat} (hj : ∀ p ∈ direct ops j, listed.getD p false = true) : ∀ (acc rd : List Nat), (∀ i ∈ acc, ∀ p ∈ direct ops i, listed.getD p false = true) →
    (∀ i ∈ rd, listed.getD i false = true → ∀ p ∈ direct ops i, listed.getD p false = true) → waits ops j acc rd = true → ∀ i ∈ rd, listed.getD i false = true
  | _, [], _, _, _, i, hi => by cases hi
  | acc, k :: rd, hacc, hcl, h, i, hi => by
    simp only [waits, Bool.and_eq_true, Bool.or_eq_true, List.contains_iff_mem, List.any_eq_true] at h
    have hk : listed.getD k false = true := by
      rcases h.1 with h1 | ⟨q, hq, h1⟩
      · exact hj k h1
      · exact hacc q hq k h1
    rcases List.mem_cons.1 hi with rfl | hi
    · exact hk
    · refine waits_all hj (k :: acc) rd (fun q hq => ?_) (fun q hq => hcl q (by simp [hq])) h.2 i hi
      rcases List.mem_cons.1 hq with rfl | hq
      · exact hcl q (by simp) hk
      · exact hacc q hq

theorem order_first {listed : Array Bool} {D : Nat → Bool} (hD : ∀ i ∈ hd, listed.getD i false = D i) (hl : ∀ p, hd.contains p = false → l1.getD p false = true → listed.getD p false = true) :
    ∀ (before rest : List Nat), (∀ i ∈ before, D i = true ∧ i ∈ hd) → (∀ i ∈ rest, i ∈ hd) → chkOrder ops hd l1 before rest = true → (∃ i ∈ rest, D i = false) → ∃ i ∈ rest, D i = false ∧ ∀ p ∈ direct ops i, listed.getD p false = true
  | _, [], _, _, _, h => by obtain ⟨_, h, _⟩ := h; cases h
  | before, k :: rest, hb, hr, h, hex => by
    simp only [chkOrder, Bool.and_eq_true, List.all_eq_true] at h
    by_cases hk : D k = true
    · obtain ⟨i, hi, h1, h2⟩ := order_first hD hl (k :: before) rest (fun i hi => by
        rcases List.mem_cons.1 hi with rfl | hi
        · exact ⟨hk, hr i (by simp)⟩
        · exact hb i hi) (fun i hi => hr i (by simp [hi])) h.2 (by
        obtain ⟨i, hi, h1⟩ := hex
        rcases List.mem_cons.1 hi with rfl | hi
        · rw [hk] at h1; cases h1
        · exact ⟨i, hi, h1⟩)
      exact ⟨i, by simp [hi], h1, h2⟩
    · refine ⟨k, by simp, by simpa using hk, fun p hp => ?_⟩
      have := h.1 p hp
      simp only [Bool.or_eq_true, List.contains_iff_mem, Bool.and_eq_true, Bool.not_eq_true'] at this
      rcases this with h1 | ⟨h1, h2⟩
      · rw [hD p (hb p h1).2]; exact (hb p h1).1
      · exact hl p h1 h2

/-- The frame when those of which D is true have come up. -/
def partA (ops : Array Oper) (D : Nat → Bool) (val : Nat → Value) (l : List Nat) (a : Act) : Act := l.foldl (fun a i => if D i then a.put (dstOf ops i) (val i) else a) a
def upd {α : Type} (f : Nat → α) (i : Nat) (x : α) (k : Nat) : α := if k = i then x else f k

theorem part_put {D : Nat → Bool} {val : Nat → Value} {i : Nat} {v : Value} : ∀ (l : List Nat) (a : Act), (∀ k ∈ l, ∀ d, dstOf ops k = some d → dstOf ops i ≠ some d) → (partA ops D val l a).put (dstOf ops i) v = partA ops D val l (a.put (dstOf ops i) v)
  | [], _, _ => rfl
  | k :: l, a, h => by
    unfold partA
    simp only [List.foldl_cons]
    by_cases hk : D k = true
    · rw [if_pos hk, if_pos hk]
      have := part_put (D := D) (val := val) (v := v) l (a.put (dstOf ops k) (val k)) fun k hk => h k (by simp [hk])
      unfold partA at this
      rw [this, Act.put_comm a (val k) v (h k (by simp))]
    · rw [if_neg hk, if_neg hk]
      have := part_put (D := D) (val := val) (v := v) l a fun k hk => h k (by simp [hk])
      unfold partA at this
      rw [this]
theorem part_upd {D : Nat → Bool} {val : Nat → Value} {i : Nat} {v : Value} : ∀ (l : List Nat) (a : Act), i ∉ l → partA ops (upd D i true) (upd val i v) l a = partA ops D val l a
  | [], _, _ => rfl
  | k :: l, a, h => by
    have hk : k ≠ i := fun e => h (by simp [e])
    unfold partA
    simp only [List.foldl_cons]
    have e1 : upd D i true k = D k := by unfold upd; rw [if_neg hk]
    have e2 : upd val i v k = val k := by unfold upd; rw [if_neg hk]
    rw [e1, e2]
    exact part_upd l _ fun hm => h (by simp [hm])
theorem part_step {D : Nat → Bool} {val : Nat → Value} {i : Nat} {v : Value} (hi : D i = false) : ∀ (l : List Nat) (a : Act), l.Nodup → i ∈ l → (∀ k ∈ l, k ≠ i → ∀ d, dstOf ops k = some d → dstOf ops i ≠ some d) →
    (partA ops D val l a).put (dstOf ops i) v = partA ops (upd D i true) (upd val i v) l a
  | [], _, _, h, _ => by cases h
  | k :: l, a, hn, hm, h => by
    obtain ⟨hk, hn⟩ := List.nodup_cons.1 hn
    by_cases e : k = i
    · subst e
      show ((k :: l).foldl (fun a i => if D i then a.put (dstOf ops i) (val i) else a) a).put _ _ = (k :: l).foldl (fun a i => if upd D k true i then a.put (dstOf ops i) (upd val k v i) else a) a
      simp only [List.foldl_cons]
      have e1 : upd D k true k = true := by unfold upd; rw [if_pos rfl]
      have e2 : upd val k v k = v := by unfold upd; rw [if_pos rfl]
      rw [e1, e2, if_neg (by rw [hi]; exact Bool.false_ne_true), if_pos rfl]
      have h1 := part_put (ops := ops) (D := D) (val := val) (i := k) (v := v) l a fun q hq => h q (by simp [hq]) (fun e => hk (e ▸ hq))
      have h2 := part_upd (ops := ops) (D := D) (val := val) (i := k) (v := v) l (a.put (dstOf ops k) v) hk
      unfold partA at h1 h2
      rw [h1, h2]
    · have e1 : upd D i true k = D k := by unfold upd; rw [if_neg e]
      have e2 : upd val i v k = val k := by unfold upd; rw [if_neg e]
      have hm' : i ∈ l := by
        rcases List.mem_cons.1 hm with h | h
        · exact absurd h.symm e
        · exact h
      show ((k :: l).foldl (fun a i => if D i then a.put (dstOf ops i) (val i) else a) a).put _ _ = (k :: l).foldl (fun a q => if upd D i true q then a.put (dstOf ops q) (upd val i v q) else a) a
      simp only [List.foldl_cons]
      rw [e1, e2]
      exact part_step hi l _ hn hm' fun q hq => h q (by simp [hq])
theorem part_exec {D : Nat → Bool} {val : Nat → Value} {o : Oper} (hs : ∀ cs b, o.op ≠ .select cs b) : ∀ (l : List Nat) (a : Act), (∀ k ∈ l, D k = true → ∀ d, dstOf ops k = some d → d ∉ o.looksAt ops) → execOp (partA ops D val l a).eval o = execOp a.eval o
  | [], _, _ => rfl
  | k :: l, a, h => by
    unfold partA
    simp only [List.foldl_cons]
    by_cases hk : D k = true
    · rw [if_pos hk]
      exact (part_exec hs l _ fun q hq => h q (by simp [hq])).trans (execOp_put o hs a _ _ (h k (by simp) hk))
    · rw [if_neg hk]
      exact part_exec hs l _ fun q hq => h q (by simp [hq])
theorem part_full {D : Nat → Bool} {val : Nat → Value} : ∀ (l : List Nat) (a : Act), (∀ k ∈ l, D k = true) → partA ops D val l a = l.foldl (fun a i => a.put (dstOf ops i) (val i)) a
  | [], _, _ => rfl
  | k :: l, a, h => by
    unfold partA
    simp only [List.foldl_cons]
    rw [if_pos (h k (by simp))]
    exact part_full l _ fun q hq => h q (by simp [hq])
end

/-- What an operation yields: a value, or what the function that it enters hands back. -/
def StepR (o : Oper) (a : Act) (w : World) (R : Value → World → Prop) : Prop :=
  (∃ v w', (execOp a.eval o).run Tryz.prog w = .ok (.value v) w' ∧ R v w') ∨ ∃ f args, (execOp a.eval o).run Tryz.prog w = .ok (.enter f args) w ∧ Calls Tryz.prog f args w fun e w' => ∃ v, e = .returned v ∧ R v w'

theorem stepR_wp {o : Oper} {a0 a : Act} {w : World} {R : Value → World → Prop} {K : Act → World → Prop} {Q : Exit → Act → World → Prop} (he : execOp a.eval o = execOp a0.eval o) (h : StepR o a0 w R)
    (hK : ∀ v w', R v w' → K (a.put o.dst v) w') : o.wp Tryz.prog a w K Q := by
  unfold Oper.wp
  rw [he]
  rcases h with ⟨v, w', hr, h⟩ | ⟨f, args, hr, h⟩
  · rw [hr]; exact hK v w' h
  · rw [hr]
    refine Calls.mono h fun e w' ⟨v, hv, hR⟩ => ?_
    subst hv
    exact hK v w' hR

theorem step_call {o : Oper} {a : Act} {w : World} {f : FuncId} {xs : Array Operand} {ats : Array TypeId} {v : Value} (args : Array Value) (ho : o.op = .call { callee := .value (.func f), args := xs, argTypes := ats })
    (hn : ∀ args w, (callFunc f args).run Tryz.prog w = .ok (.enter f args) w) (ha : xs.map a.eval = args) (hc : Calls Tryz.prog f args w fun e w' => e = .returned v ∧ Below w.heap.size w w') :
    StepR o a w fun u w' => Below w.heap.size w w' ∧ u = v := by
  obtain ⟨dst, op, type, pos, after, guard⟩ := o
  dsimp only at ho
  subst ho
  refine .inr ⟨f, args, ?_, hc.mono fun e w' ⟨he, hb⟩ => ⟨v, he, hb, rfl⟩⟩
  rw [execOp_call_go]
  have e : (#[] ++ xs.map a.eval ++ #[] : Array Value) = xs.map a.eval := by simp
  rw [e, ha, hn]
theorem step_alloc {o : Oper} {a : Act} {w : World} {t : TypeId} {Z : Array Value} (ho : o.op = .alloc t) (hz : ∀ w, (zeroValue t).run Tryz.prog w = .ok (.agg Z) w) :
    StepR o a w fun u w' => Below w.heap.size w w' ∧ u = .pointer (some ⟨w.heap.size, 0, none⟩) ∧ At w' w.heap.size Z t := by
  refine .inl ⟨_, w.alloc (.cells Z t), ?_, (Below.refl _ _).alloc (Nat.le_refl _) _, rfl, At.new _ _ _⟩
  unfold execOp
  simp only [ho]
  simp [Instr.alloc, hz, go_sem]

theorem count_upd {D : Nat → Bool} {i : Nat} (hi : D i = false) : ∀ (l : List Nat), l.Nodup → i ∈ l → (l.filter fun k => !upd D i true k).length + 1 = (l.filter fun k => !D k).length
  | [], _, h => by cases h
  | k :: l, hn, hm => by
    obtain ⟨hk, hn⟩ := List.nodup_cons.1 hn
    by_cases e : k = i
    · subst e
      have e1 : upd D k true k = true := by unfold upd; rw [if_pos rfl]
      have e2 : l.filter (fun q => !upd D k true q) = l.filter (fun q => !D q) := List.filter_congr fun q hq => by
        have : q ≠ k := fun e => hk (by rw [← e]; exact hq)
        unfold upd
        rw [if_neg this]
      rw [List.filter_cons, List.filter_cons, e1, hi, e2]
      simp
    · have e1 : upd D i true k = D k := by unfold upd; rw [if_neg e]
      have hm' : i ∈ l := by
        rcases List.mem_cons.1 hm with h | h
        · exact absurd h.symm e
        · exact h
      have ih := count_upd hi l hn hm'
      rw [List.filter_cons, List.filter_cons, e1]
      cases D k <;> simp <;> omega

theorem getD_tf {l : Array Bool} {p : Nat} (hp : p < l.size) : l.getD p true = l.getD p false := by simp [hp]
theorem getD_lt {l : Array Bool} {p : Nat} (h : l.getD p false = true) : p < l.size := by
  by_cases hp : p < l.size
  · exact hp
  · simp [hp] at h
theorem getD_set {l : Array Bool} {i j : Nat} (b : Bool) (hi : i < l.size) : (l.setIfInBounds i true).getD j b = if j = i then true else l.getD j b := by
  by_cases e : j = i
  · subst e; rw [if_pos rfl]; simp [hi]
  · rw [if_neg e]
    simp only [Array.getD_eq_getD_getElem?, Array.getElem?_setIfInBounds_ne (fun h => e h.symm)]

/-- What has been yielded: a call's value; a new variable's place. -/
def Yp (W : World) (isA : Nat → Bool) (V : Nat → Value) (Zc : Nat → Array Value) (ty : Nat → TypeId) (i : Nat) (v : Value) (w : World) : Prop :=
  (isA i = false → v = V i) ∧ (isA i = true → ∃ b, v = .pointer (some ⟨b, 0, none⟩) ∧ At w b (Zc i) (ty i) ∧ W.heap.size ≤ b)

section
variable {ops : Array Oper} {Q : Exit → Act → World → Prop} {W : World} {fuel : Nat} {a0 : Act}

theorem par (hd rd : List Nat) (isA : Nat → Bool) (V : Nat → Value) (Zc : Nat → Array Value) (ty : Nat → TypeId) (l1 : Array Bool)
    (hnd : hd.Nodup) (hrd : ∀ i ∈ hd, i ∈ rd) (hdr : ∀ i ∈ rd, i ∈ hd) (hsz : l1.size = ops.size) (hin : ∀ i ∈ hd, l1.getD i false = true)
    (c1 : chkOrder ops hd l1 [] hd = true) (c2 : chkTail ops hd rd l1 = true) (c3 : chkApart ops hd = true) (c4 : Region.noSelect ops = true)
    (hstep : ∀ i ∈ hd, ∀ o, ops[i]? = some o → ∀ w, SB W w → StepR o a0 w fun v w' => Below w.heap.size w w' ∧ (isA i = false → v = V i) ∧ (isA i = true → v = .pointer (some ⟨w.heap.size, 0, none⟩) ∧ At w' w.heap.size (Zc i) (ty i)))
    (fin : ∀ (val : Nat → Value) (w : World), SB W w → (∀ i ∈ hd, Yp W isA V Zc ty i (val i) w) → (∀ i ∈ hd, ∀ k ∈ hd, i ≠ k → isA i = true → isA k = true → val i ≠ val k) →
      wpAnyH Tryz.prog .any ops (NoPanic Q) (SB W) fuel l1 (hd.foldl (fun a i => a.put (dstOf ops i) (val i)) a0) w) :
    ∀ (n : Nat) (D : Nat → Bool) (val : Nat → Value) (listed : Array Bool) (w : World), (hd.filter fun i => !D i).length = n → listed.size = ops.size → (∀ j, listed.getD j true = if hd.contains j then D j else l1.getD j true) →
      (∀ i ∈ hd, D i = true → ∀ p ∈ direct ops i, listed.getD p false = true) → SB W w → (∀ i ∈ hd, D i = true → Yp W isA V Zc ty i (val i) w) →
      (∀ i ∈ hd, ∀ k ∈ hd, i ≠ k → D i = true → D k = true → isA i = true → isA k = true → val i ≠ val k) →
      wpAnyH Tryz.prog .any ops (NoPanic Q) (SB W) (n + fuel) listed (partA ops D val hd a0) w := by
  intro n
  have hlt : ∀ i ∈ hd, i < ops.size := fun i hi => by rw [← hsz]; exact getD_lt (hin i hi)
  have hsel := Region.noSelect_spec c4
  induction n with
  | zero =>
    intro D val listed w hc hs hl _ hS hY hV
    have hD : ∀ i ∈ hd, D i = true := fun i hi => by
      cases h : D i
      · have : i ∈ hd.filter fun i => !D i := by simp [hi, h]
        rw [List.length_eq_zero_iff.1 hc] at this
        cases this
      · rfl
    have e : listed = l1 := by
      apply Array.ext (by rw [hs, hsz])
      intro j h1 h2
      have hj := hl j
      have hj2 : (if hd.contains j then D j else l1.getD j true) = l1.getD j true := by
        by_cases hm : hd.contains j = true
        · rw [if_pos hm]
          have hm' : j ∈ hd := by simpa using hm
          rw [hD j hm', getD_tf h2, hin j hm']
        · rw [if_neg hm]
      rw [hj2] at hj
      simpa [h1, h2] using hj
    rw [e, part_full hd a0 hD, Nat.zero_add]
    exact fin val w hS (fun i hi => hY i hi (hD i hi)) (fun i hi k hk hne ha hb => hV i hi k hk hne (hD i hi) (hD k hk) ha hb)
  | succ n ih =>
    intro D val listed w hc hs hl hcl hS hY hV
    have hDl : ∀ i ∈ hd, listed.getD i false = D i := fun i hi => by
      have := hl i
      rw [if_pos (by simpa using hi), getD_tf (by rw [hs]; exact hlt i hi)] at this
      exact this
    have hl1 : ∀ p, hd.contains p = false → l1.getD p false = true → listed.getD p false = true := fun p hp h => by
      have hp2 := getD_lt h
      have := hl p
      rw [if_neg (by rw [hp]; exact Bool.false_ne_true), getD_tf (l := l1) hp2, h, getD_tf (by rw [hs, ← hsz]; exact hp2)] at this
      exact this
    have hex : ∃ i ∈ hd, D i = false := by
      cases hf : hd.filter fun i => !D i with
      | nil => rw [hf] at hc; simp at hc
      | cons i l =>
        have : i ∈ hd.filter fun i => !D i := by rw [hf]; simp
        simp only [List.mem_filter, Bool.not_eq_true'] at this
        exact ⟨i, this.1, this.2⟩
    rw [show n + 1 + fuel = (n + fuel) + 1 by omega]
    refine ⟨fun hr => ?_, fun i hi => ?_⟩
    · obtain ⟨i, hi, h1, h2⟩ := order_first hDl hl1 [] hd (fun i hi => by cases hi) (fun i hi => hi) c1 hex
      have hmem : i ∈ Region.ready .any ops listed := ready_of (Array.getElem?_eq_getElem (hlt i hi)) (by rw [getD_tf (by rw [hs]; exact hlt i hi), hDl i hi, h1]) h2
      rw [hr] at hmem
      cases hmem
    · obtain ⟨hun, o, ho, _⟩ := mem_ready.1 hi
      have hdir := direct_ready hi
      have hih : i ∈ hd := by
        by_cases hm : i ∈ hd
        · exact hm
        · exfalso
          have h1 := hl i
          rw [hun, if_neg (by simpa using hm)] at h1
          have hisz : i < ops.size := by
            rcases Nat.lt_or_ge i ops.size with h | h
            · exact h
            · rw [Array.getElem?_eq_none h] at ho; cases ho
          have h2 : (l1.getD i true || ((direct ops i).any (fun p => !hd.contains p && !l1.getD p true) || waits ops i [] rd)) = true := by
            have := c2
            unfold chkTail at this
            rw [List.all_eq_true] at this
            exact this i (by simpa using hisz)
          rw [← h1, Bool.false_or, Bool.or_eq_true] at h2
          have h2 : waits ops i [] rd = true := h2.resolve_left fun h => by
            rw [List.any_eq_true] at h
            obtain ⟨p, hp, hpn⟩ := h
            simp only [Bool.and_eq_true, Bool.not_eq_true'] at hpn
            have h4 := hdir p hp
            have h5 := hl p
            rw [if_neg (by rw [hpn.1]; exact Bool.false_ne_true), hpn.2, getD_tf (getD_lt h4), h4] at h5
            cases h5
          have h3 := waits_all hdir [] rd (fun _ h => by cases h) (fun q hq hql => hcl q (hdr q hq) (by rw [← hDl q (hdr q hq)]; exact hql)) h2
          obtain ⟨k, hk, hkD⟩ := hex
          have := h3 k (hrd k hk)
          rw [hDl k hk, hkD] at this
          cases this
      have hDi : D i = false := by rw [← hDl i hih, ← getD_tf (by rw [hs]; exact hlt i hih)]; exact hun
      have hap : ∀ k ∈ hd, k ≠ i → ∀ o', ops[k]? = some o' → o.apart ops o' = true ∧ o'.apart ops o = true := fun k hk hne o' ho' => by
        have h := c3
        unfold chkApart at h
        rw [List.all_eq_true] at h
        have h1 := h i hih
        have h2 := h k hk
        simp only [ho, ho', Bool.and_eq_true, List.all_eq_true] at h1 h2
        have h3 := h1.2 k hk
        have h4 := h2.2 i hih
        simp only [ho, ho', Bool.or_eq_true, beq_iff_eq] at h3 h4
        exact ⟨h3.resolve_left (fun e => hne e.symm), h4.resolve_left hne⟩
      have hg : o.guard = none := by
        have h := c3
        unfold chkApart at h
        rw [List.all_eq_true] at h
        have h1 := h i hih
        simp only [ho, Bool.and_eq_true] at h1
        simpa using h1.1
      have hdo : dstOf ops i = o.dst := by unfold dstOf; rw [ho]; rfl
      have hexe : execOp (partA ops D val hd a0).eval o = execOp a0.eval o := part_exec (fun cs b => hsel i o cs b ho) hd a0 fun k hk hkD d hd' => by
        have hki : k ≠ i := fun e => by rw [e, hDi] at hkD; cases hkD
        have hk' := Array.getElem?_eq_getElem (hlt k hk)
        have := (Oper.apart_spec (hap k hk hki _ hk').2).1 d
        unfold dstOf at hd'
        rw [hk'] at hd'
        exact this hd'
      unfold wpOp
      simp only [ho]
      rw [if_pos (by simp [Region.wanted, hg])]
      refine .inl (stepR_wp hexe (hstep i hih o ho w hS) fun v w' ⟨hb, hv1, hv2⟩ => ?_)
      have hS' : SB W w' := below_trans hS hb (Below.size hS)
      have hWs : W.heap.size ≤ w.heap.size := Below.size hS
      refine ⟨hS', ?_⟩
      rw [← hdo, part_step hDi hd a0 hnd hih fun k hk hne d hkd => by
        have hk' := Array.getElem?_eq_getElem (hlt k hk)
        have := (Oper.apart_spec (hap k hk hne _ hk').2).2.1 d
        rw [hdo]
        unfold dstOf at hkd
        rw [hk'] at hkd
        exact this hkd]
      have hi2 : i < listed.size := by rw [hs]; exact hlt i hih
      refine ih (upd D i true) (upd val i v) (listed.setIfInBounds i true) w' ?_ ?_ ?_ ?_ hS' ?_ ?_
      · have := count_upd hDi hd hnd hih
        omega
      · rw [Array.size_setIfInBounds, hs]
      · intro j
        rw [getD_set true hi2]
        by_cases e : j = i
        · subst e
          rw [if_pos rfl, if_pos (by simpa using hih)]
          unfold upd
          rw [if_pos rfl]
        · rw [if_neg e, hl j]
          unfold upd
          rw [if_neg e]
      · intro k hk hkD p hp
        rw [getD_set false hi2]
        by_cases e : p = i
        · rw [if_pos e]
        · rw [if_neg e]
          by_cases e2 : k = i
          · subst e2; exact hdir p hp
          · have : D k = true := by unfold upd at hkD; rw [if_neg e2] at hkD; exact hkD
            exact hcl k hk this p hp
      · intro k hk hkD
        by_cases e : k = i
        · subst e
          have e2 : upd val k v k = v := by unfold upd; rw [if_pos rfl]
          rw [e2]
          exact ⟨hv1, fun ha => ⟨_, (hv2 ha).1, (hv2 ha).2, hWs⟩⟩
        · have e2 : upd val i v k = val k := by unfold upd; rw [if_neg e]
          have hkD' : D k = true := by unfold upd at hkD; rw [if_neg e] at hkD; exact hkD
          rw [e2]
          obtain ⟨y1, y2⟩ := hY k hk hkD'
          exact ⟨y1, fun ha => by obtain ⟨b, h1, h2, h3⟩ := y2 ha; exact ⟨b, h1, h2.below hb h2.lt, h3⟩⟩
      · have key : ∀ k ∈ hd, k ≠ i → D k = true → isA i = true → isA k = true → v ≠ val k := fun k hk hne hkD hai hak => by
          obtain ⟨b, h1, h2, _⟩ := (hY k hk hkD).2 hak
          have h3 := h2.lt
          rw [(hv2 hai).1, h1]
          intro e
          injection e with e
          injection e with e
          injection e with e
          omega
        intro k hk q hq hne hkD hqD hak haq
        by_cases e : k = i
        · subst e
          have e3 : upd val k v k = v := by unfold upd; rw [if_pos rfl]
          have e4 : upd val k v q = val q := by unfold upd; rw [if_neg (fun h => hne h.symm)]
          rw [e3, e4]
          exact key q hq (fun h => hne h.symm) (by unfold upd at hqD; rw [if_neg (fun h => hne h.symm)] at hqD; exact hqD) hak haq
        · have e3 : upd val i v k = val k := by unfold upd; rw [if_neg e]
          have hkD' : D k = true := by unfold upd at hkD; rw [if_neg e] at hkD; exact hkD
          by_cases e2 : q = i
          · subst e2
            have e4 : upd val q v q = v := by unfold upd; rw [if_pos rfl]
            rw [e3, e4]
            exact (key k hk e hkD' haq hak).symm
          · have e4 : upd val i v q = val q := by unfold upd; rw [if_neg e2]
            rw [e3, e4]
            exact hV k hk q hq hne hkD' (by unfold upd at hqD; rw [if_neg e2] at hqD; exact hqD) hak haq
end

theorem StepR.mono {o : Oper} {a : Act} {w : World} {R R' : Value → World → Prop} (h : StepR o a w R) (hR : ∀ v w', R v w' → R' v w') : StepR o a w R' := by
  rcases h with ⟨v, w', hr, h⟩ | ⟨f, args, hr, h⟩
  · exact .inl ⟨v, w', hr, hR v w' h⟩
  · exact .inr ⟨f, args, hr, h.mono fun e w' ⟨v, hv, hh⟩ => ⟨v, hv, hR v w' hh⟩⟩
theorem st_call {isA : Nat → Bool} {V : Nat → Value} {Zc : Nat → Array Value} {ty : Nat → TypeId} {i : Nat} {o : Oper} {a : Act} {w : World} {f : FuncId} {xs : Array Operand} {ats : Array TypeId} {v : Value} (args : Array Value)
    (ho : o.op = .call { callee := .value (.func f), args := xs, argTypes := ats }) (hA : isA i = false) (hV : V i = v)
    (hn : ∀ args w, (callFunc f args).run Tryz.prog w = .ok (.enter f args) w) (ha : xs.map a.eval = args) (hc : Calls Tryz.prog f args w fun e w' => e = .returned v ∧ Below w.heap.size w w') :
    StepR o a w fun v w' => Below w.heap.size w w' ∧ (isA i = false → v = V i) ∧ (isA i = true → v = .pointer (some ⟨w.heap.size, 0, none⟩) ∧ At w' w.heap.size (Zc i) (ty i)) :=
  (step_call args ho hn ha hc).mono fun _ _ ⟨h1, h2⟩ => ⟨h1, fun _ => h2.trans hV.symm, fun h => by rw [hA] at h; cases h⟩
theorem st_alloc {isA : Nat → Bool} {V : Nat → Value} {Zc : Nat → Array Value} {ty : Nat → TypeId} {i : Nat} {o : Oper} {a : Act} {w : World} {t : TypeId} {Z : Array Value} (ho : o.op = .alloc t) (hA : isA i = true) (hZ : Zc i = Z) (ht : ty i = t)
    (hz : ∀ w, (zeroValue t).run Tryz.prog w = .ok (.agg Z) w) :
    StepR o a w fun v w' => Below w.heap.size w w' ∧ (isA i = false → v = V i) ∧ (isA i = true → v = .pointer (some ⟨w.heap.size, 0, none⟩) ∧ At w' w.heap.size (Zc i) (ty i)) :=
  (step_alloc ho hz).mono fun _ _ ⟨h1, h2, h3⟩ => ⟨h1, (fun h => by rw [hA] at h; cases h), fun _ => ⟨h2, by rw [hZ, ht]; exact h3⟩⟩

section
variable {ops : Array Oper} {Q : Exit → Act → World → Prop} {W : World} {fuel : Nat} {a : Act} {w : World} {listed : Array Bool} {oi : Oper}

theorem par0 (hd rd : List Nat) (isA : Nat → Bool) (V : Nat → Value) (Zc : Nat → Array Value) (ty : Nat → TypeId) (l1 : Array Bool) (F : Nat) (hF : F = hd.length + fuel)
    (hnd : hd.Nodup) (hrd : ∀ i ∈ hd, i ∈ rd) (hdr : ∀ i ∈ rd, i ∈ hd) (hsz : l1.size = ops.size) (hin : (hd.all fun i => l1.getD i false) = true)
    (c0 : ((List.range ops.size).all fun j => listed.getD j true == (if hd.contains j then false else l1.getD j true)) = true) (c5 : listed.size = ops.size)
    (c1 : chkOrder ops hd l1 [] hd = true) (c2 : chkTail ops hd rd l1 = true) (c3 : chkApart ops hd = true) (c4 : Region.noSelect ops = true) (hS : SB W w)
    (hstep : ∀ i ∈ hd, ∃ o, ops[i]? = some o ∧ ∀ w, SB W w → StepR o a w fun v w' => Below w.heap.size w w' ∧ (isA i = false → v = V i) ∧ (isA i = true → v = .pointer (some ⟨w.heap.size, 0, none⟩) ∧ At w' w.heap.size (Zc i) (ty i)))
    (fin : ∀ (val : Nat → Value) (w : World), SB W w → (∀ i ∈ hd, Yp W isA V Zc ty i (val i) w) → (∀ i ∈ hd, ∀ k ∈ hd, i ≠ k → isA i = true → isA k = true → val i ≠ val k) →
      wpAnyH Tryz.prog .any ops (NoPanic Q) (SB W) fuel l1 (hd.foldl (fun a i => a.put (dstOf ops i) (val i)) a) w) :
    wpAnyH Tryz.prog .any ops (NoPanic Q) (SB W) F listed a w := by
  have hin' : ∀ i ∈ hd, l1.getD i false = true := fun i hi => by rw [List.all_eq_true] at hin; exact hin i hi
  have e : partA ops (fun _ => false) (fun _ => undef) hd a = a := by
    unfold partA
    generalize hd = l
    induction l with
    | nil => rfl
    | cons k l ih => simp only [List.foldl_cons, Bool.false_eq_true, if_false]; exact ih
  have := par (ops := ops) (Q := Q) (W := W) (fuel := fuel) (a0 := a) hd rd isA V Zc ty l1 hnd hrd hdr hsz hin' c1 c2 c3 c4 (fun i hi o ho => by obtain ⟨o', ho', h⟩ := hstep i hi; rw [ho] at ho'; injection ho' with e; subst e; exact h) fin hd.length (fun _ => false) (fun _ => undef) listed w
    (by simp) c5 (fun j => by
      by_cases hj : j < ops.size
      · rw [List.all_eq_true] at c0
        have := c0 j (by simpa using hj)
        simpa using this
      · have hm : hd.contains j = false := by
          cases hc : hd.contains j
          · rfl
          · exact absurd (by rw [← hsz]; exact getD_lt (hin' j (by simpa using hc))) hj
        rw [hm]
        simp [c5, hsz, hj]) (fun _ _ h => by cases h) hS (fun _ _ h => by cases h) (fun _ _ _ _ _ h => by cases h)
  rw [e] at this
  rw [hF]
  exact this

theorem mv_store {i : Nat} {t t' : TypeId} {x y : Operand} (b : Nat) (A old : Array Value) (hi : ops[i]? = some oi) (hd : oi.dst = none) (hr : Region.ready .any ops listed = [i]) (hw : Region.wanted oi (yielded ops a.tmps) = true)
    (ho : oi.op = .store t x y) (hx : a.eval x = .pointer (some ⟨b, 0, none⟩)) (hy : a.eval y = .agg A) (hold : At w b old t') (hs : old.size = A.size) (h1 : A.all (·.oneCell') = true) (hsz : (Tryz.prog.info? t).map (·.size) = some A.size)
    (hb : W.heap.size ≤ b) (hS : SB W w) (h : SB W (w.setRow b A) → wpAnyH Tryz.prog .any ops (NoPanic Q) (SB W) fuel (listed.setIfInBounds i true) a (w.setRow b A)) :
    wpAnyH Tryz.prog .any ops (NoPanic Q) (SB W) (fuel + 1) listed a w := by
  refine wpAnyH_ready (rs := [i]) hr (by simp) ?_
  refine AllReadyH.cons hi (fun K hK => ?_) AllReadyH.nil
  rw [if_pos hw]
  refine wp_store_row t x y ho b A hx hy t' old hold hsz hs h1 ?_
  rw [hd]
  have hS' : SB W (w.setRow b A) := below_setRow' hS hb A
  exact hK.out _ _ hS' h
end

end Go.Proofs.YtimhemcoflpmcaaGreatDoor.Row
end

section
/- Several variables made at once of calls that hand on to one another, 'x, y := f(g(a))': calls and what is made of them, each when what it waits for has come up; new variables, whenever; what is stored comes behind. For every package. -/
set_option linter.unusedVariables false
namespace Go.Proofs.YtimhemcoflpmcaaGreatDoor.Row
open Go.RowKit

/-- No guards, and each has a slot of its own. -/
def chkD (ops : Array Oper) (hd : List Nat) : Bool := hd.all fun i => match ops[i]? with
  | some o => o.guard.isNone && (hd.all fun k => i == k || dstOf ops k != o.dst)
  | none => false

section
variable {ops : Array Oper} {D : Nat → Bool} {val : Nat → Value}
theorem eval_put_ne {a : Act} {e : Option Tmp} {v : Value} {d : Tmp} (h : e ≠ some d) : (a.put e v).eval (.tmp d) = a.eval (.tmp d) := by
  cases e with
  | none => rfl
  | some k =>
    have hk : k ≠ d := fun e => h (by rw [e])
    simp [Act.put, Act.eval, Array.getElem?_setIfInBounds_ne hk]
/-- A slot that none of the list writes. -/
theorem part_other {d : Tmp} : ∀ (l : List Nat) (a : Act), (l.all fun k => dstOf ops k != some d) = true → (partA ops D val l a).eval (.tmp d) = a.eval (.tmp d)
  | [], _, _ => rfl
  | k :: l, a, h => by
    simp only [List.all_cons, Bool.and_eq_true, bne_iff_ne] at h
    unfold partA
    simp only [List.foldl_cons]
    have := part_other l (if D k = true then a.put (dstOf ops k) (val k) else a) h.2
    unfold partA at this
    rw [this]
    split
    · exact eval_put_ne h.1
    · rfl
/-- A slot that one of the list has written. -/
theorem part_eval {d : Tmp} (i : Nat) (hi : dstOf ops i = some d) (hD : D i = true) : ∀ (l : List Nat) (a : Act), l.contains i = true → (l.all fun k => k == i || dstOf ops k != some d) = true → decide (d < a.tmps.size) = true → (partA ops D val l a).eval (.tmp d) = val i
  | [], _, h, _, _ => by cases h
  | k :: l, a, hm, h, hs => by
    simp only [List.all_cons, Bool.and_eq_true, Bool.or_eq_true, beq_iff_eq, bne_iff_ne] at h
    rw [decide_eq_true_iff] at hs
    by_cases hl : l.contains i = true
    · unfold partA
      simp only [List.foldl_cons]
      have := part_eval i hi hD l (if D k = true then a.put (dstOf ops k) (val k) else a) hl h.2 (by
        rw [decide_eq_true_iff]
        split
        · unfold Act.put; split
          · simpa using hs
          · exact hs
        · exact hs)
      unfold partA at this
      exact this
    · have e : k = i := by
        simp only [List.contains_iff_mem, List.mem_cons] at hm hl
        exact (hm.resolve_right hl).symm
      subst e
      have hn : (l.all fun q => dstOf ops q != some d) = true := by
        rw [List.all_eq_true]
        intro q hq
        have := h.2
        rw [List.all_eq_true] at this
        have := this q hq
        simp only [Bool.or_eq_true, beq_iff_eq, bne_iff_ne] at this
        rw [bne_iff_ne]
        exact this.resolve_left fun e => hl (by rw [← e]; simpa using hq)
      unfold partA
      simp only [List.foldl_cons]
      have := part_other (D := D) (val := val) l (if D k = true then a.put (dstOf ops k) (val k) else a) hn
      unfold partA at this
      rw [this, if_pos hD, hi]
      simp [Act.put, Act.eval, hs]
end

section
variable {ops : Array Oper} {Q : Exit → Act → World → Prop} {W : World} {fuel : Nat} {a0 : Act}

theorem parD (hd rd : List Nat) (x : Nat) (isA : Nat → Bool) (V : Nat → Value) (Zc : Nat → Array Value) (ty : Nat → TypeId) (l0 l1 : Array Bool)
    (hnd : hd.Nodup) (hrd : ∀ i ∈ hd, i ≠ x → i ∈ rd) (hdr : ∀ i ∈ rd, i ∈ hd) (hsz : l1.size = ops.size) (hin : ∀ i ∈ hd, l1.getD i false = true)
    (hx : x ∈ hd) (hxA : isA x = false) (hl01 : l1 = l0.setIfInBounds x true) (hl0 : l0.getD x true = false) (c6 : Region.free .any ops l0 x = true) (c7 : (Region.ready .any ops l0).contains x = true)
    (c1 : chkOrder ops hd l1 [] hd = true) (c2 : chkTail ops hd rd l1 = true) (c3 : chkD ops hd = true) (c4 : Region.noSelect ops = true)
    (hstep : ∀ i ∈ hd, ∀ o, ops[i]? = some o → ∀ D val w, SB W w → (∀ p ∈ direct ops i, p ∈ hd → D p = true) → (∀ k ∈ hd, D k = true → isA k = false → val k = V k) → StepR o (partA ops D val hd a0) w fun v w' => Below w.heap.size w w' ∧ (isA i = false → v = V i) ∧ (isA i = true → v = .pointer (some ⟨w.heap.size, 0, none⟩) ∧ At w' w.heap.size (Zc i) (ty i)))
    (hlate : ∀ o, ops[x]? = some o → ∀ D val, (∀ p ∈ direct ops x, p ∈ hd → D p = true) → (∀ k ∈ hd, D k = true → isA k = false → val k = V k) → YieldsIf Tryz.prog ops (SB W) o (V x) (partA ops D val hd a0))
    (fin : ∀ (val : Nat → Value) (w : World), SB W w → (∀ i ∈ hd, Yp W isA V Zc ty i (val i) w) → (∀ i ∈ hd, ∀ k ∈ hd, i ≠ k → isA i = true → isA k = true → val i ≠ val k) →
      wpAnyH Tryz.prog .any ops (NoPanic Q) (SB W) fuel l1 (hd.foldl (fun a i => a.put (dstOf ops i) (val i)) a0) w) :
    ∀ (n : Nat) (D : Nat → Bool) (val : Nat → Value) (listed : Array Bool) (w : World), (hd.filter fun i => !D i).length = n → listed.size = ops.size → (∀ j, listed.getD j true = if hd.contains j then D j else l1.getD j true) →
      (∀ i ∈ hd, D i = true → ∀ p ∈ direct ops i, listed.getD p false = true) → SB W w → (∀ i ∈ hd, D i = true → Yp W isA V Zc ty i (val i) w) →
      (∀ i ∈ hd, ∀ k ∈ hd, i ≠ k → D i = true → D k = true → isA i = true → isA k = true → val i ≠ val k) →
      wpAnyH Tryz.prog .any ops (NoPanic Q) (SB W) (n + fuel) listed (partA ops D val hd a0) w := by
  intro n
  have hlt : ∀ i ∈ hd, i < ops.size := fun i hi => by rw [← hsz]; exact getD_lt (hin i hi)
  have hsel := Region.noSelect_spec c4
  induction n with
  | zero =>
    intro D val listed w hc hs hl _ hS hY hV
    have hD : ∀ i ∈ hd, D i = true := fun i hi => by
      cases h : D i
      · have : i ∈ hd.filter fun i => !D i := by simp [hi, h]
        rw [List.length_eq_zero_iff.1 hc] at this
        cases this
      · rfl
    have e : listed = l1 := by
      apply Array.ext (by rw [hs, hsz])
      intro j h1 h2
      have hj := hl j
      have hj2 : (if hd.contains j then D j else l1.getD j true) = l1.getD j true := by
        by_cases hm : hd.contains j = true
        · rw [if_pos hm]
          have hm' : j ∈ hd := by simpa using hm
          rw [hD j hm', getD_tf h2, hin j hm']
        · rw [if_neg hm]
      rw [hj2] at hj
      simpa [h1, h2] using hj
    rw [e, part_full hd a0 hD, Nat.zero_add]
    exact fin val w hS (fun i hi => hY i hi (hD i hi)) (fun i hi k hk hne ha hb => hV i hi k hk hne (hD i hi) (hD k hk) ha hb)
  | succ n ih =>
    intro D val listed w hc hs hl hcl hS hY hV
    have hDl : ∀ i ∈ hd, listed.getD i false = D i := fun i hi => by
      have := hl i
      rw [if_pos (by simpa using hi), getD_tf (by rw [hs]; exact hlt i hi)] at this
      exact this
    have hl1 : ∀ p, hd.contains p = false → l1.getD p false = true → listed.getD p false = true := fun p hp h => by
      have hp2 := getD_lt h
      have := hl p
      rw [if_neg (by rw [hp]; exact Bool.false_ne_true), getD_tf (l := l1) hp2, h, getD_tf (by rw [hs, ← hsz]; exact hp2)] at this
      exact this
    have hex : ∃ i ∈ hd, D i = false := by
      cases hf : hd.filter fun i => !D i with
      | nil => rw [hf] at hc; simp at hc
      | cons i l =>
        have : i ∈ hd.filter fun i => !D i := by rw [hf]; simp
        simp only [List.mem_filter, Bool.not_eq_true'] at this
        exact ⟨i, this.1, this.2⟩
    have hdst : ∀ i ∈ hd, ∀ k ∈ hd, k ≠ i → ∀ d, dstOf ops k = some d → dstOf ops i ≠ some d := fun i hih k hk hne d hkd => by
      have ho := Array.getElem?_eq_getElem (hlt i hih)
      have h := c3
      unfold chkD at h
      rw [List.all_eq_true] at h
      have h1 := h i hih
      simp only [ho, Bool.and_eq_true, List.all_eq_true] at h1
      have h3 := h1.2 k hk
      simp only [Bool.or_eq_true, beq_iff_eq, bne_iff_ne] at h3
      unfold dstOf at hkd ⊢
      rw [ho]
      intro e
      refine h3.resolve_left (fun e => hne e.symm) ?_
      unfold dstOf
      rw [hkd]
      exact e.symm
    have hWs : W.heap.size ≤ w.heap.size := Below.size hS
    have step : ∀ i ∈ hd, D i = false → (∀ p ∈ direct ops i, listed.getD p false = true) → ∀ v w', Below w.heap.size w w' → (isA i = false → v = V i) →
        (isA i = true → v = .pointer (some ⟨w.heap.size, 0, none⟩) ∧ At w' w.heap.size (Zc i) (ty i)) →
        wpAnyH Tryz.prog .any ops (NoPanic Q) (SB W) (n + fuel) (listed.setIfInBounds i true) ((partA ops D val hd a0).put (dstOf ops i) v) w' := by
      intro i hih hDi hdir v w' hb hv1 hv2
      have hS' : SB W w' := below_trans hS hb (Below.size hS)
      rw [part_step hDi hd a0 hnd hih (hdst i hih)]
      have hi2 : i < listed.size := by rw [hs]; exact hlt i hih
      refine ih (upd D i true) (upd val i v) (listed.setIfInBounds i true) w' ?_ ?_ ?_ ?_ hS' ?_ ?_
      · have := count_upd hDi hd hnd hih
        omega
      · rw [Array.size_setIfInBounds, hs]
      · intro j
        rw [getD_set true hi2]
        by_cases e : j = i
        · subst e
          rw [if_pos rfl, if_pos (by simpa using hih)]
          unfold upd
          rw [if_pos rfl]
        · rw [if_neg e, hl j]
          unfold upd
          rw [if_neg e]
      · intro k hk hkD p hp
        rw [getD_set false hi2]
        by_cases e : p = i
        · rw [if_pos e]
        · rw [if_neg e]
          by_cases e2 : k = i
          · subst e2; exact hdir p hp
          · have : D k = true := by unfold upd at hkD; rw [if_neg e2] at hkD; exact hkD
            exact hcl k hk this p hp
      · intro k hk hkD
        by_cases e : k = i
        · subst e
          have e2 : upd val k v k = v := by unfold upd; rw [if_pos rfl]
          rw [e2]
          exact ⟨hv1, fun ha => ⟨_, (hv2 ha).1, (hv2 ha).2, hWs⟩⟩
        · have e2 : upd val i v k = val k := by unfold upd; rw [if_neg e]
          have hkD' : D k = true := by unfold upd at hkD; rw [if_neg e] at hkD; exact hkD
          rw [e2]
          obtain ⟨y1, y2⟩ := hY k hk hkD'
          exact ⟨y1, fun ha => by obtain ⟨b, h1, h2, h3⟩ := y2 ha; exact ⟨b, h1, h2.below hb h2.lt, h3⟩⟩
      · have key : ∀ k ∈ hd, k ≠ i → D k = true → isA i = true → isA k = true → v ≠ val k := fun k hk hne hkD hai hak => by
          obtain ⟨b, h1, h2, _⟩ := (hY k hk hkD).2 hak
          have h3 := h2.lt
          rw [(hv2 hai).1, h1]
          intro e
          injection e with e
          injection e with e
          injection e with e
          omega
        intro k hk q hq hne hkD hqD hak haq
        by_cases e : k = i
        · subst e
          have e3 : upd val k v k = v := by unfold upd; rw [if_pos rfl]
          have e4 : upd val k v q = val q := by unfold upd; rw [if_neg (fun h => hne h.symm)]
          rw [e3, e4]
          exact key q hq (fun h => hne h.symm) (by unfold upd at hqD; rw [if_neg (fun h => hne h.symm)] at hqD; exact hqD) hak haq
        · have e3 : upd val i v k = val k := by unfold upd; rw [if_neg e]
          have hkD' : D k = true := by unfold upd at hkD; rw [if_neg e] at hkD; exact hkD
          by_cases e2 : q = i
          · subst e2
            have e4 : upd val q v q = v := by unfold upd; rw [if_pos rfl]
            rw [e3, e4]
            exact (key k hk e hkD' haq hak).symm
          · have e4 : upd val i v q = val q := by unfold upd; rw [if_neg e2]
            rw [e3, e4]
            exact hV k hk q hq hne hkD' (by unfold upd at hqD; rw [if_neg e2] at hqD; exact hqD) hak haq
    rw [show n + 1 + fuel = (n + fuel) + 1 by omega]
    by_cases hall : ∀ i ∈ hd, i ≠ x → D i = true
    · have hDx : D x = false := by
        obtain ⟨i, hi, h⟩ := hex
        by_cases e : i = x
        · rw [← e]; exact h
        · rw [hall i hi e] at h; cases h
      have e : listed = l0 := by
        have hs0 : l0.size = ops.size := by rw [← hsz, hl01, Array.size_setIfInBounds]
        have hx0 : x < l0.size := by rw [hs0]; exact hlt x hx
        apply Array.ext (by rw [hs, hs0])
        intro j h1 h2
        have hj := hl j
        by_cases ex : j = x
        · subst ex
          rw [if_pos (by simpa using hx), hDx, ← hl0] at hj
          simpa [h1, h2] using hj
        · have e0 : l1.getD j true = l0.getD j true := by rw [hl01, getD_set true hx0, if_neg ex]
          have hj2 : (if hd.contains j then D j else l1.getD j true) = l1.getD j true := by
            by_cases hm : hd.contains j = true
            · rw [if_pos hm]
              have hm' : j ∈ hd := by simpa using hm
              rw [hall j hm' ex, getD_tf (by rw [hsz]; exact hlt j hm'), hin j hm']
            · rw [if_neg hm]
          rw [hj2, e0] at hj
          simpa [h1, h2] using hj
      have ho := Array.getElem?_eq_getElem (hlt x hx)
      have hr : x ∈ Region.ready .any ops listed := by rw [e]; simpa using c7
      have hdir := direct_ready hr
      have hdo : dstOf ops x = (ops[x]'(hlt x hx)).dst := by unfold dstOf; rw [ho]; rfl
      refine wpAnyH_take ho c4 (by rw [e]; exact c6) (by rw [e]; exact c7) (fun _ _ _ h => h) (hlate _ ho D val (fun p hp hph => by rw [← hDl p hph]; exact hdir p hp) (fun k hk hkD => (hY k hk hkD).1)) hS ?_
      rw [← hdo]
      exact step x hx hDx hdir (V x) w (Below.refl _ _) (fun _ => rfl) (fun h => by rw [hxA] at h; cases h)
    refine ⟨fun hr => ?_, fun i hi => ?_⟩
    · obtain ⟨i, hi, h1, h2⟩ := order_first hDl hl1 [] hd (fun i hi => by cases hi) (fun i hi => hi) c1 hex
      have hmem : i ∈ Region.ready .any ops listed := ready_of (Array.getElem?_eq_getElem (hlt i hi)) (by rw [getD_tf (by rw [hs]; exact hlt i hi), hDl i hi, h1]) h2
      rw [hr] at hmem
      cases hmem
    · obtain ⟨hun, o, ho, _⟩ := mem_ready.1 hi
      have hdir := direct_ready hi
      have hih : i ∈ hd := by
        by_cases hm : i ∈ hd
        · exact hm
        · exfalso
          have h1 := hl i
          rw [hun, if_neg (by simpa using hm)] at h1
          have hisz : i < ops.size := by
            rcases Nat.lt_or_ge i ops.size with h | h
            · exact h
            · rw [Array.getElem?_eq_none h] at ho; cases ho
          have h2 : (l1.getD i true || ((direct ops i).any (fun p => !hd.contains p && !l1.getD p true) || waits ops i [] rd)) = true := by
            have := c2
            unfold chkTail at this
            rw [List.all_eq_true] at this
            exact this i (by simpa using hisz)
          rw [← h1, Bool.false_or, Bool.or_eq_true] at h2
          have h2 : waits ops i [] rd = true := h2.resolve_left fun h => by
            rw [List.any_eq_true] at h
            obtain ⟨p, hp, hpn⟩ := h
            simp only [Bool.and_eq_true, Bool.not_eq_true'] at hpn
            have h4 := hdir p hp
            have h5 := hl p
            rw [if_neg (by rw [hpn.1]; exact Bool.false_ne_true), hpn.2, getD_tf (getD_lt h4), h4] at h5
            cases h5
          have h3 := waits_all hdir [] rd (fun _ h => by cases h) (fun q hq hql => hcl q (hdr q hq) (by rw [← hDl q (hdr q hq)]; exact hql)) h2
          refine hall fun k hk hkx => ?_
          rw [← hDl k hk]
          exact h3 k (hrd k hk hkx)
      have hDi : D i = false := by rw [← hDl i hih, ← getD_tf (by rw [hs]; exact hlt i hih)]; exact hun
      have hg : o.guard = none := by
        have h := c3
        unfold chkD at h
        rw [List.all_eq_true] at h
        have h1 := h i hih
        simp only [ho, Bool.and_eq_true] at h1
        simpa using h1.1
      have hdo : dstOf ops i = o.dst := by unfold dstOf; rw [ho]; rfl
      unfold wpOp
      simp only [ho]
      rw [if_pos (by simp [Region.wanted, hg])]
      refine .inl (stepR_wp rfl (hstep i hih o ho D val w hS (fun p hp hph => by rw [← hDl p hph]; exact hdir p hp) (fun k hk hkD => (hY k hk hkD).1)) fun v w' ⟨hb, hv1, hv2⟩ => ?_)
      have hS' : SB W w' := below_trans hS hb (Below.size hS)
      refine ⟨hS', ?_⟩
      rw [← hdo]
      exact step i hih hDi hdir v w' hb hv1 hv2
end

section
variable {ops : Array Oper} {Q : Exit → Act → World → Prop} {W : World} {fuel : Nat} {a : Act} {w : World} {listed : Array Bool} {oi : Oper}

theorem parD0 (hd rd : List Nat) (x : Nat) (isA : Nat → Bool) (V : Nat → Value) (Zc : Nat → Array Value) (ty : Nat → TypeId) (l0 l1 : Array Bool) (F : Nat) (hF : F = hd.length + fuel)
    (hnd : hd.Nodup) (hrd : ∀ i ∈ hd, i ≠ x → i ∈ rd) (hdr : ∀ i ∈ rd, i ∈ hd) (hsz : l1.size = ops.size) (hin : (hd.all fun i => l1.getD i false) = true)
    (c0 : ((List.range ops.size).all fun j => listed.getD j true == (if hd.contains j then false else l1.getD j true)) = true) (c5 : listed.size = ops.size)
    (hx : x ∈ hd) (hxA : isA x = false) (hl01 : l1 = l0.setIfInBounds x true) (hl0 : l0.getD x true = false) (c6 : Region.free .any ops l0 x = true) (c7 : (Region.ready .any ops l0).contains x = true)
    (c1 : chkOrder ops hd l1 [] hd = true) (c2 : chkTail ops hd rd l1 = true) (c3 : chkD ops hd = true) (c4 : Region.noSelect ops = true) (hS : SB W w)
    (hstep : ∀ i ∈ hd, ∃ o, ops[i]? = some o ∧ ∀ D val w, SB W w → (∀ p ∈ direct ops i, p ∈ hd → D p = true) → (∀ k ∈ hd, D k = true → isA k = false → val k = V k) → StepR o (partA ops D val hd a) w fun v w' => Below w.heap.size w w' ∧ (isA i = false → v = V i) ∧ (isA i = true → v = .pointer (some ⟨w.heap.size, 0, none⟩) ∧ At w' w.heap.size (Zc i) (ty i)))
    (hlate : ∃ o, ops[x]? = some o ∧ ∀ D val, (∀ p ∈ direct ops x, p ∈ hd → D p = true) → (∀ k ∈ hd, D k = true → isA k = false → val k = V k) → YieldsIf Tryz.prog ops (SB W) o (V x) (partA ops D val hd a))
    (fin : ∀ (val : Nat → Value) (w : World), SB W w → (∀ i ∈ hd, Yp W isA V Zc ty i (val i) w) → (∀ i ∈ hd, ∀ k ∈ hd, i ≠ k → isA i = true → isA k = true → val i ≠ val k) →
      wpAnyH Tryz.prog .any ops (NoPanic Q) (SB W) fuel l1 (hd.foldl (fun a i => a.put (dstOf ops i) (val i)) a) w) :
    wpAnyH Tryz.prog .any ops (NoPanic Q) (SB W) F listed a w := by
  have hin' : ∀ i ∈ hd, l1.getD i false = true := fun i hi => by rw [List.all_eq_true] at hin; exact hin i hi
  have e : partA ops (fun _ => false) (fun _ => undef) hd a = a := by
    unfold partA
    generalize hd = l
    induction l with
    | nil => rfl
    | cons k l ih => simp only [List.foldl_cons, Bool.false_eq_true, if_false]; exact ih
  have := parD (ops := ops) (Q := Q) (W := W) (fuel := fuel) (a0 := a) hd rd x isA V Zc ty l0 l1 hnd hrd hdr hsz hin' hx hxA hl01 hl0 c6 c7 c1 c2 c3 c4 (fun i hi o ho => by obtain ⟨o', ho', h⟩ := hstep i hi; rw [ho] at ho'; injection ho' with e; subst e; exact h) (fun o ho => by obtain ⟨o', ho', h⟩ := hlate; rw [ho] at ho'; injection ho' with e; subst e; exact h) fin hd.length (fun _ => false) (fun _ => undef) listed w
    (by simp) c5 (fun j => by
      by_cases hj : j < ops.size
      · rw [List.all_eq_true] at c0
        have := c0 j (by simpa using hj)
        simpa using this
      · have hm : hd.contains j = false := by
          cases hc : hd.contains j
          · rfl
          · exact absurd (by rw [← hsz]; exact getD_lt (hin' j (by simpa using hc))) hj
        rw [hm]
        simp [c5, hsz, hj]) (fun _ _ h => by cases h) hS (fun _ _ h => by cases h) (fun _ _ _ _ _ h => by cases h)
  rw [e] at this
  rw [hF]
  exact this
end

/-- An operation that only reckons. -/
theorem st_run {isA : Nat → Bool} {V : Nat → Value} {Zc : Nat → Array Value} {ty : Nat → TypeId} {i : Nat} {o : Oper} {a : Act} {w : World} {v : Value} (hr : (execOp a.eval o).run Tryz.prog w = .ok (.value v) w) (hA : isA i = false) (hV : V i = v) :
    StepR o a w fun v w' => Below w.heap.size w w' ∧ (isA i = false → v = V i) ∧ (isA i = true → v = .pointer (some ⟨w.heap.size, 0, none⟩) ∧ At w' w.heap.size (Zc i) (ty i)) :=
  .inl ⟨v, w, hr, Below.refl _ _, fun _ => hV.symm, fun h => by rw [hA] at h; cases h⟩
theorem run_move {o : Oper} {a : Act} {w : World} {y : Operand} {v : Value} (ho : o.op = .move y) (hy : a.eval y = v) : (execOp a.eval o).run Tryz.prog w = .ok (.value v) w := by
  unfold execOp; simp only [ho, hy]; rfl
theorem run_extract {o : Oper} {a : Act} {w : World} {y : Operand} {n : Nat} {vs : Array Value} {v : Value} (ho : o.op = .extract y n) (hy : a.eval y = .tuple vs) (hv : vs[n]? = some v) : (execOp a.eval o).run Tryz.prog w = .ok (.value v) w := by
  unfold execOp; simp only [ho, hy]; simp [Instr.extract, hv, go_sem]
theorem map1 {f : Operand → Value} {x : Operand} {v : Value} (h : f x = v) : #[x].map f = #[v] := by simp [h]
theorem map2 {f : Operand → Value} {x1 x2 : Operand} {v1 v2 : Value} (h1 : f x1 = v1) (h2 : f x2 = v2) : #[x1, x2].map f = #[v1, v2] := by simp [h1, h2]
theorem map4 {f : Operand → Value} {x1 x2 x3 x4 : Operand} {v1 v2 v3 v4 : Value} (h1 : f x1 = v1) (h2 : f x2 = v2) (h3 : f x3 = v3) (h4 : f x4 = v4) : #[x1, x2, x3, x4].map f = #[v1, v2, v3, v4] := by simp [h1, h2, h3, h4]
/-- What an operation that only reckons yields. -/
theorem y_of_run {ops : Array Oper} {S : World → Prop} {o : Oper} {a : Act} {v : Value} (hw : Region.wanted o (yielded ops a.tmps) = true) (hr : ∀ w, (execOp a.eval o).run Tryz.prog w = .ok (.value v) w) : YieldsIf Tryz.prog ops S o v a := y_run hw hr
end Go.Proofs.YtimhemcoflpmcaaGreatDoor.Row
end

section
/- A struct (or a row) all of whose cells are whole numbers, however deep, that comes in as an argument: its numbers. -/
set_option linter.unusedVariables false
set_option maxRecDepth 100000
namespace Go.Proofs.YtimhemcoflpmcaaGreatDoor.Row
open Go.ChangeShapes Go.WideShapes Go.ChangeAt Go.RowKit

/-- Whatever is read as t is numbers, cell by cell. -/
def Flat {H : Type} (enc : TypeId × Value → H) (W : World) (base : Nat) (sp : Nat → Bool) (held : Bool) (t : TypeId) : Prop :=
  ∀ fuel cs x, DataW.trod enc Tryz.prog W base sp held fuel t cs = some x → ∀ k, k < Tryz.prog.cellsOf t → ∃ n : Int, cs[k]? = some (.int .i64 n) ∧ (Lit.int .i64 n).wf = true

section
variable {H : Type} {enc : TypeId × Value → H} {W : World} {base : Nat} {sp : Nat → Bool} {held : Bool} {t e : TypeId} {m : Nat}

theorem Flat.int (ht : Tryz.prog.underlying t = some (.int .i64)) (hc : Tryz.prog.cellsOf t = 1) : Flat enc W base sp held t := fun fuel cs x h k hk => by
  obtain ⟨n, rfl, _, hw⟩ := DataW.trod_int ht h
  obtain rfl : k = 0 := by omega
  exact ⟨n, rfl, hw⟩

theorem Flat.part {cs : List Value} {o c k : Nat} {v : Value} (h : ((cs.drop o).take c)[k]? = some v) : cs[o + k]? = some v := by
  have hk : k < c := by
    have h1 := (List.getElem?_eq_some_iff.1 h).1
    simp only [List.length_take] at h1
    omega
  rw [List.getElem?_take_of_lt hk, List.getElem?_drop] at h
  exact h

theorem Flat.array (hf : Flat enc W base sp held e) (ht : Tryz.prog.underlying t = some (.array m e)) (hc : Tryz.prog.cellsOf t = m * Tryz.prog.cellsOf e) : Flat enc W base sp held t := fun fuel cs x h k hk => by
  obtain ⟨xs, n, _, _, hl, hx, hi⟩ := DataW.trod_array ht h
  rw [hc] at hk
  have hc0 : 0 < Tryz.prog.cellsOf e := by
    rcases Nat.eq_zero_or_pos (Tryz.prog.cellsOf e) with h0 | h0
    · rw [h0] at hk; omega
    · exact h0
  have hd : k / Tryz.prog.cellsOf e < m := (Nat.div_lt_iff_lt_mul hc0).2 hk
  have hr := hi _ hd
  rw [List.getElem?_eq_getElem (by omega)] at hr
  obtain ⟨v, hv, hw⟩ := hf _ _ _ hr _ (Nat.mod_lt k hc0)
  refine ⟨v, ?_, hw⟩
  have := Flat.part hv
  rwa [Nat.mul_comm, Nat.div_add_mod] at this

theorem Flat.struct {fs : Array Field} (ht : Tryz.prog.underlying t = some (.struct fs)) (hf : ∀ (i : Nat) (f : Field), fs[i]? = some f → Flat enc W base sp held f.type)
    (hc : ∀ k, k < Tryz.prog.cellsOf t → ∃ (i : Nat) (f : Field), fs[i]? = some f ∧ f.offset ≤ k ∧ k < f.offset + Tryz.prog.cellsOf f.type) : Flat enc W base sp held t := fun fuel cs x h k hk => by
  obtain ⟨xs, n, _, _, hl, hx, hi⟩ := DataW.trod_struct ht h
  obtain ⟨i, f, h1, h2, h3⟩ := hc k hk
  have hs : i < xs.length := by rw [hx]; exact (Array.getElem?_eq_some_iff.1 h1).1
  have hr := hi i f h1
  rw [List.getElem?_eq_getElem hs] at hr
  obtain ⟨v, hv, hw⟩ := hf i f h1 _ _ _ hr (k - f.offset) (by omega)
  refine ⟨v, ?_, hw⟩
  have := Flat.part hv
  rwa [Nat.add_sub_cancel' h2] at this

theorem open_flat {r : Reach} {b0 : Nat} {v : Value} {d : DataW H} {ps : List MemPlace} {td : TypeDesc} (hu : Tryz.prog.underlying t = some td) (hd : td.isRow = true) (hf : Flat enc W base sp held t) (hm : Tryz.prog.cellsOf t = m)
    (hok : Value.okWide Tryz.prog W r b0 t v) (h : DataW.Trod enc Tryz.prog W base sp held t v d ps) :
    ∃ T : Array Value, v = .agg T ∧ IsRow m (intsOf T) T ∧ ∀ k, k < m → (Lit.int .i64 (intsOf T k)).wf = true := by
  have hok' : ∃ T : Array Value, v = .agg T ∧ T.size = m := by
    unfold Value.okWide at hok
    rw [hu, hm] at hok
    cases td <;> first | (cases hd; done) | (obtain ⟨T, h1, h2, _⟩ := hok; exact ⟨T, h1, h2⟩)
  obtain ⟨T, rfl, hs⟩ := hok'
  obtain ⟨fuel, hfu⟩ := h
  have key : ∀ k, k < m → ∃ x : Int, T[k]? = some (.int .i64 x) ∧ (Lit.int .i64 x).wf = true := fun k hk => by
    obtain ⟨x, hx, wx⟩ := hf _ _ _ hfu k (by omega)
    exact ⟨x, by simpa [Value.cells] using hx, wx⟩
  have hi : ∀ k, k < m → T[k]? = some (.int .i64 (intsOf T k)) ∧ (Lit.int .i64 (intsOf T k)).wf = true := fun k hk => by
    obtain ⟨x, hx, wx⟩ := key k hk
    have : intsOf T k = x := by unfold intsOf; rw [hx]
    rw [this]
    exact ⟨hx, wx⟩
  refine ⟨T, rfl, ⟨hs, ?_, fun k hk => (hi k hk).1⟩, fun k hk => (hi k hk).2⟩
  rw [Array.all_eq_true]
  intro i hi'
  have := (hi i (by omega)).1
  rw [Array.getElem?_eq_getElem hi'] at this
  injection this with this
  rw [this]
  rfl
end
end Go.Proofs.YtimhemcoflpmcaaGreatDoor.Row
end

section
/- Contract of the document's Length. -/
namespace Go.Proofs.YtimhemcoflpmcaaGreatDoor.Ref01
open Go.RowKit Go.Proofs.YtimhemcoflpmcaaGreatDoor.Row
set_option linter.unusedVariables false

theorem length_any (x : Int) (w : World) (h1 : 0 ≤ x) (h2 : x ≤ 9223372036854775807) :
    Calls Tryz.prog 27 #[.int .i64 x] w fun e w' => e = .returned (.int .i64 (Lib.bitLen x.natAbs)) ∧ w = w' := by
  have hl := Lib.bitLen_le x.natAbs 64 (by omega) (by omega)
  go_enter Tryz.func27, Tryz.ntmps27
  go_wp2
  go_loop [0, 3] (fun y n => ∃ (m k : Nat), y = .int .i64 (m : Int) ∧ n = .int .i64 (k : Int) ∧ m ≤ x.natAbs ∧ Hid (k + Lib.bitLen m = Lib.bitLen x.natAbs)) (fun y _ => (intOf y).toNat)
  case atStart => exact ⟨x.natAbs, 0, by rw [show (x.natAbs : Int) = x by omega], rfl, by omega, Lib.hid (by omega)⟩
  case round =>
    obtain ⟨m, k, rfl, rfl, hm, HK⟩ := hrel
    by_cases h0 : 0 < m
    · have hh := Lib.bitLen_half m (by omega) (by omega)
      have hk1 : k ≤ 63 := by have := HK.out; omega
      have HK2 := Lib.hid (show k + 1 + Lib.bitLen (m / 2) = Lib.bitLen x.natAbs by have := HK.out; omega)
      clear hh HK
      go_wp2
      go_round
      case rel => exact ⟨m / 2, k + 1, by go_num, by go_num, by omega, HK2⟩
      case measure => simp [intOf]; omega
    · obtain rfl : m = 0 := by omega
      have hz : Lib.bitLen 0 = 0 := by decide
      have HE := Lib.hid (show k = Lib.bitLen x.natAbs by have := HK.out; omega)
      clear hz HK
      go_wp2
      go_ret
      exact ⟨ret_int (by rw [← HE.out]), rfl⟩
end Go.Proofs.YtimhemcoflpmcaaGreatDoor.Ref01
end

section
/- Contracts of bits.Len64, bits.Len and fix.Length. -/
namespace Go.Proofs.YtimhemcoflpmcaaGreatDoor.Fix
open Go.RowKit
set_option linter.unusedVariables false

theorem ret_int {k : IntKind} {a b : Int} (h : a = b) : Ending.returned (.int k a) = .returned (.int k b) := by rw [h]

theorem ret_bool {a b : Bool} (h : a = b) : Ending.returned (.bool a) = .returned (.bool b) := by rw [h]

/-- The end of each of Len64's ways: y is x without its last k digits. -/
theorem len_end (x y : Int) (k : Nat) (h1 : 0 ≤ x) (h2 : x ≤ 18446744073709551615) (hk : 2 ^ k ≤ x.toNat) (hy : y.toNat = x.toNat / 2 ^ k) (y1 : 0 ≤ y) (y2 : y ≤ 255) :
    (k : Int) + Lib.len8 y = Lib.bitLen x.toNat ∧ 0 ≤ Lib.len8 y ∧ Lib.len8 y ≤ 8 := by
  rw [Lib.len8_of y y1 y2]
  have l := Lib.bitLen_le8' y y1 y2
  have s := Lib.bitLen_shift k x.toNat hk (by omega)
  rw [← hy] at s
  omega

set_option maxRecDepth 100000 in
theorem len64_111 (x : Int) (w : World) (h1 : 0 ≤ x) (h2 : x ≤ 18446744073709551615) (t1 : 4294967296 ≤ x) (t2 : 65536 ≤ x / 4294967296) (t3 : 256 ≤ x / 4294967296 / 65536) :
    Calls Tryz.prog 116 #[.int .u64 x] w fun e w' => e = .returned (.int .i64 (Lib.bitLen x.toNat)) ∧ w = w' := by
  have b1 : 0 ≤ x / 4294967296 / 65536 / 256 := by omega
  have b2 : x / 4294967296 / 65536 / 256 ≤ 255 := by omega
  obtain ⟨l1, l2, l3⟩ := len_end x (x / 4294967296 / 65536 / 256) 56 h1 h2 (by omega) (by omega) b1 b2
  have L1 := Lib.hid l1
  clear l1
  go_enter Tryz.func116, Tryz.ntmps116
  go_wp2
  go_ret
  exact ⟨ret_int L1.out, rfl⟩

set_option maxRecDepth 100000 in
theorem len64_110 (x : Int) (w : World) (h1 : 0 ≤ x) (h2 : x ≤ 18446744073709551615) (t1 : 4294967296 ≤ x) (t2 : 65536 ≤ x / 4294967296) (t3 : x / 4294967296 / 65536 < 256) :
    Calls Tryz.prog 116 #[.int .u64 x] w fun e w' => e = .returned (.int .i64 (Lib.bitLen x.toNat)) ∧ w = w' := by
  have b1 : 0 ≤ x / 4294967296 / 65536 := by omega
  have b2 : x / 4294967296 / 65536 ≤ 255 := by omega
  obtain ⟨l1, l2, l3⟩ := len_end x (x / 4294967296 / 65536) 48 h1 h2 (by omega) (by omega) b1 b2
  have L1 := Lib.hid l1
  clear l1
  go_enter Tryz.func116, Tryz.ntmps116
  go_wp2
  go_ret
  exact ⟨ret_int L1.out, rfl⟩

set_option maxRecDepth 100000 in
theorem len64_101 (x : Int) (w : World) (h1 : 0 ≤ x) (h2 : x ≤ 18446744073709551615) (t1 : 4294967296 ≤ x) (t2 : x / 4294967296 < 65536) (t3 : 256 ≤ x / 4294967296) :
    Calls Tryz.prog 116 #[.int .u64 x] w fun e w' => e = .returned (.int .i64 (Lib.bitLen x.toNat)) ∧ w = w' := by
  have b1 : 0 ≤ x / 4294967296 / 256 := by omega
  have b2 : x / 4294967296 / 256 ≤ 255 := by omega
  obtain ⟨l1, l2, l3⟩ := len_end x (x / 4294967296 / 256) 40 h1 h2 (by omega) (by omega) b1 b2
  have L1 := Lib.hid l1
  clear l1
  go_enter Tryz.func116, Tryz.ntmps116
  go_wp2
  go_ret
  exact ⟨ret_int L1.out, rfl⟩

set_option maxRecDepth 100000 in
theorem len64_100 (x : Int) (w : World) (h1 : 0 ≤ x) (h2 : x ≤ 18446744073709551615) (t1 : 4294967296 ≤ x) (t2 : x / 4294967296 < 65536) (t3 : x / 4294967296 < 256) :
    Calls Tryz.prog 116 #[.int .u64 x] w fun e w' => e = .returned (.int .i64 (Lib.bitLen x.toNat)) ∧ w = w' := by
  have b1 : 0 ≤ x / 4294967296 := by omega
  have b2 : x / 4294967296 ≤ 255 := by omega
  obtain ⟨l1, l2, l3⟩ := len_end x (x / 4294967296) 32 h1 h2 (by omega) (by omega) b1 b2
  have L1 := Lib.hid l1
  clear l1
  go_enter Tryz.func116, Tryz.ntmps116
  go_wp2
  go_ret
  exact ⟨ret_int L1.out, rfl⟩

set_option maxRecDepth 100000 in
theorem len64_011 (x : Int) (w : World) (h1 : 0 ≤ x) (h2 : x ≤ 18446744073709551615) (t1 : x < 4294967296) (t2 : 65536 ≤ x) (t3 : 256 ≤ x / 65536) :
    Calls Tryz.prog 116 #[.int .u64 x] w fun e w' => e = .returned (.int .i64 (Lib.bitLen x.toNat)) ∧ w = w' := by
  have b1 : 0 ≤ x / 65536 / 256 := by omega
  have b2 : x / 65536 / 256 ≤ 255 := by omega
  obtain ⟨l1, l2, l3⟩ := len_end x (x / 65536 / 256) 24 h1 h2 (by omega) (by omega) b1 b2
  have L1 := Lib.hid l1
  clear l1
  go_enter Tryz.func116, Tryz.ntmps116
  go_wp2
  go_ret
  exact ⟨ret_int L1.out, rfl⟩

set_option maxRecDepth 100000 in
theorem len64_010 (x : Int) (w : World) (h1 : 0 ≤ x) (h2 : x ≤ 18446744073709551615) (t1 : x < 4294967296) (t2 : 65536 ≤ x) (t3 : x / 65536 < 256) :
    Calls Tryz.prog 116 #[.int .u64 x] w fun e w' => e = .returned (.int .i64 (Lib.bitLen x.toNat)) ∧ w = w' := by
  have b1 : 0 ≤ x / 65536 := by omega
  have b2 : x / 65536 ≤ 255 := by omega
  obtain ⟨l1, l2, l3⟩ := len_end x (x / 65536) 16 h1 h2 (by omega) (by omega) b1 b2
  have L1 := Lib.hid l1
  clear l1
  go_enter Tryz.func116, Tryz.ntmps116
  go_wp2
  go_ret
  exact ⟨ret_int L1.out, rfl⟩

set_option maxRecDepth 100000 in
theorem len64_001 (x : Int) (w : World) (h1 : 0 ≤ x) (h2 : x ≤ 18446744073709551615) (t1 : x < 4294967296) (t2 : x < 65536) (t3 : 256 ≤ x) :
    Calls Tryz.prog 116 #[.int .u64 x] w fun e w' => e = .returned (.int .i64 (Lib.bitLen x.toNat)) ∧ w = w' := by
  have b1 : 0 ≤ x / 256 := by omega
  have b2 : x / 256 ≤ 255 := by omega
  obtain ⟨l1, l2, l3⟩ := len_end x (x / 256) 8 h1 h2 (by omega) (by omega) b1 b2
  have L1 := Lib.hid l1
  clear l1
  go_enter Tryz.func116, Tryz.ntmps116
  go_wp2
  go_ret
  exact ⟨ret_int L1.out, rfl⟩

set_option maxRecDepth 100000 in
theorem len64_000 (x : Int) (w : World) (h1 : 0 ≤ x) (h2 : x ≤ 18446744073709551615) (t1 : x < 4294967296) (t2 : x < 65536) (t3 : x < 256) :
    Calls Tryz.prog 116 #[.int .u64 x] w fun e w' => e = .returned (.int .i64 (Lib.bitLen x.toNat)) ∧ w = w' := by
  have b1 : 0 ≤ x := by omega
  have b2 : x ≤ 255 := by omega
  have L1 := Lib.hid (Lib.len8_of x b1 b2)
  have l2 : 0 ≤ Lib.len8 x := by rw [L1.out]; omega
  have l3 : Lib.len8 x ≤ 8 := by rw [L1.out]; exact Int.ofNat_le.mpr (Lib.bitLen_le8' x b1 b2)
  go_enter Tryz.func116, Tryz.ntmps116
  go_wp2
  go_ret
  exact ⟨ret_int L1.out, rfl⟩

theorem len64_any (x : Int) (w : World) (h1 : 0 ≤ x) (h2 : x ≤ 18446744073709551615) :
    Calls Tryz.prog 116 #[.int .u64 x] w fun e w' => e = .returned (.int .i64 (Lib.bitLen x.toNat)) ∧ w = w' := by
  by_cases a : 4294967296 ≤ x
  · by_cases b : 65536 ≤ x / 4294967296
    · by_cases c : 256 ≤ x / 4294967296 / 65536
      · exact len64_111 x w h1 h2 a b c
      · exact len64_110 x w h1 h2 a b (by omega)
    · by_cases c : 256 ≤ x / 4294967296
      · exact len64_101 x w h1 h2 a (by omega) c
      · exact len64_100 x w h1 h2 a (by omega) (by omega)
  · by_cases b : 65536 ≤ x
    · by_cases c : 256 ≤ x / 65536
      · exact len64_011 x w h1 h2 (by omega) b c
      · exact len64_010 x w h1 h2 (by omega) b (by omega)
    · by_cases c : 256 ≤ x
      · exact len64_001 x w h1 h2 (by omega) (by omega) c
      · exact len64_000 x w h1 h2 (by omega) (by omega) (by omega)

theorem len_any (x : Int) (w : World) (h1 : 0 ≤ x) (h2 : x ≤ 18446744073709551615) :
    Calls Tryz.prog 98 #[.int .u64 x] w fun e w' => e = .returned (.int .i64 (Lib.bitLen x.toNat)) ∧ w = w' := by
  go_enter Tryz.func98, Tryz.ntmps98
  go_wp2_with (go_at_call 116; refine (len64_any _ _ (by omega) (by omega)).mono ?_; rintro e w' ⟨rfl, rfl⟩)
  go_ret
  exact ⟨rfl, rfl⟩

theorem len_as (x : Int) (n : Nat) (w : World) (h1 : 0 ≤ x) (h2 : x ≤ 18446744073709551615) (h : x.toNat = n) :
    Calls Tryz.prog 98 #[.int .u64 x] w fun e w' => e = .returned (.int .i64 (Lib.bitLen n)) ∧ w = w' := by
  subst h; exact len_any x w h1 h2

theorem wrap_min : IntKind.u64.wrap (wrap64 9223372036854775808) = 9223372036854775808 := by decide +kernel

theorem len_min (x : Int) (w : World) (h : x = 9223372036854775808) :
    Calls Tryz.prog 98 #[.int .u64 x] w fun e w' => e = .returned (.int .i64 (Lib.bitLen 9223372036854775808)) ∧ w = w' := by
  subst h; exact len_as _ _ w (by omega) (by omega) (by omega)

theorem length_any (x : Int) (w : World) (h1 : -9223372036854775808 ≤ x) (h2 : x ≤ 9223372036854775807) :
    Calls Tryz.prog 71 #[.int .i64 x] w fun e w' => e = .returned (.int .i64 (Lib.bitLen x.natAbs)) ∧ w = w' := by
  by_cases h0 : x < 0
  · by_cases hm : x = -9223372036854775808
    · subst hm
      clear h0 h1 h2
      go_enter Tryz.func71, Tryz.ntmps71
      go_wp2_with (go_at_call 98; refine (len_min _ _ wrap_min).mono ?_; rintro e w' ⟨rfl, rfl⟩)
      go_ret
      exact ⟨rfl, rfl⟩
    · have h3 : -9223372036854775807 ≤ x := by omega
      clear h1 hm
      go_enter Tryz.func71, Tryz.ntmps71
      go_wp2_with (go_at_call 98; refine (len_as _ x.natAbs _ (by omega) (by omega) (by omega)).mono ?_; rintro e w' ⟨rfl, rfl⟩)
      go_ret
      exact ⟨rfl, rfl⟩
  · have h3 : 0 ≤ x := by omega
    clear h1 h0
    go_enter Tryz.func71, Tryz.ntmps71
    go_wp2_with (go_at_call 98; refine (len_as _ x.natAbs _ (by omega) (by omega) (by omega)).mono ?_; rintro e w' ⟨rfl, rfl⟩)
    go_ret
    exact ⟨rfl, rfl⟩
end Go.Proofs.YtimhemcoflpmcaaGreatDoor.Fix
end

section
/- What a call may have changed: the blocks that T names, and new ones. -/
set_option maxRecDepth 100000
namespace Go.Proofs.YtimhemcoflpmcaaGreatDoor.Row
open Go.RowKit

/-- All blocks that stood in w, but T's, stand as they were. -/
structure Fr (T : Nat → Prop) (w w' : World) : Prop where
  os : w'.os = w.os
  tape : w'.tape = w.tape
  output : w'.output = w.output
  size : w.heap.size ≤ w'.heap.size
  block : ∀ k, k < w.heap.size → ¬ T k → w'.heap[k]? = w.heap[k]?

theorem Fr.refl (T : Nat → Prop) (w : World) : Fr T w w := ⟨rfl, rfl, rfl, Nat.le_refl _, fun _ _ _ => rfl⟩
theorem Fr.of_below {T : Nat → Prop} {w w' : World} (h : Below w.heap.size w w') : Fr T w w' := ⟨h.os, h.tape, h.output, h.size, fun k hk _ => h.block k hk⟩
theorem Fr.trans {T U : Nat → Prop} {w w1 w2 : World} (h : Fr T w w1) (k : Fr U w1 w2) (hU : ∀ i, i < w.heap.size → U i → T i) : Fr T w w2 :=
  ⟨k.os.trans h.os, k.tape.trans h.tape, k.output.trans h.output, Nat.le_trans h.size k.size, fun i hi hT => (k.block i (Nat.lt_of_lt_of_le hi h.size) fun hu => hT (hU i hi hu)).trans (h.block i hi hT)⟩
theorem Fr.same {T : Nat → Prop} {w w1 w2 : World} (h : Fr T w w1) (k : Fr T w1 w2) : Fr T w w2 := h.trans k fun _ _ h => h
theorem Fr.below_trans {T : Nat → Prop} {w w1 w2 : World} (h : Fr T w w1) (k : Below w1.heap.size w1 w2) : Fr T w w2 := h.same (.of_below k)
theorem Fr.mono {T U : Nat → Prop} {w w' : World} (h : Fr T w w') (hT : ∀ i, i < w.heap.size → T i → U i) : Fr U w w' := ⟨h.os, h.tape, h.output, h.size, fun k hk hu => h.block k hk fun ht => hu (hT k hk ht)⟩
theorem Fr.drew {T : Nat → Prop} {w w' : World} (h : Fr T w w') : Fr T w w'.drew := ⟨h.os, h.tape, h.output, h.size, h.block⟩
theorem Fr.drewN {T : Nat → Prop} {w w' : World} (h : Fr T w w') (n : Nat) : Fr T w (w'.drewN n) := ⟨h.os, h.tape, h.output, h.size, h.block⟩
theorem Fr.alloc {T : Nat → Prop} {w w' : World} (h : Fr T w w') (o : Obj) : Fr T w (w'.alloc o) :=
  h.below_trans ((Below.refl _ _).alloc (Nat.le_refl _) o)
theorem Fr.setCell {T : Nat → Prop} {w w' : World} (h : Fr T w w') {p : Addr} (hp : T p.block ∨ w.heap.size ≤ p.block) (v : Value) : Fr T w (w'.setCell p v) :=
  ⟨h.os, h.tape, h.output, by simpa [World.setCell] using h.size, fun k hk hT => (Below.heap_setCell _ _ _ _ (fun e => by subst e; rcases hp with hp | hp; exact hT hp; omega)).trans (h.block k hk hT)⟩
theorem Fr.setRow {T : Nat → Prop} {w w' : World} (h : Fr T w w') {b : Nat} (hp : T b ∨ w.heap.size ≤ b) (A : Array Value) : Fr T w (w'.setRow b A) :=
  ⟨h.os, h.tape, h.output, by rw [size_setRow]; exact h.size, fun k hk hT => (Go.setRow_other _ _ _ _ (fun e => by subst e; rcases hp with hp | hp; exact hT hp; omega)).trans (h.block k hk hT)⟩
theorem Fr.grown {T : Nat → Prop} {w w1 w2 : World} {row : Option Nat} (h : Fr T w w1) (hg : w1.grownBy w2 row) (hr : ∀ k, row = some k → T k ∨ w.heap.size ≤ k) : Fr T w w2 :=
  ⟨hg.os.trans h.os, hg.tape.trans h.tape, hg.output.trans h.output, Nat.le_trans h.size hg.size, fun k hk hT => (hg.block k (Nat.lt_of_lt_of_le hk h.size) (fun e => by rcases hr k e.symm with h | h; exact hT h; omega)).trans (h.block k hk hT)⟩
theorem Fr.below {T : Nat → Prop} {B : Nat} {w w' : World} (h : Fr T w w') (hB : B ≤ w.heap.size) (hT : ∀ k, T k → B ≤ k) : Below B w w' :=
  ⟨h.os, h.tape, h.output, h.size, fun k hk => h.block k (by omega) fun ht => by have := hT k ht; omega⟩
theorem Fr.none {w w' : World} (h : Fr (fun _ => False) w w') : Below w.heap.size w w' := h.below (Nat.le_refl _) fun _ h => h.elim
theorem At.fr {T : Nat → Prop} {w w' : World} {b : Nat} {A : Array Value} {t : TypeId} (hA : At w b A t) (h : Fr T w w') (hT : ¬ T b) : At w' b A t := (h.block b hA.lt hT).trans hA
theorem Fr.cell {T : Nat → Prop} {w w' : World} (h : Fr T w w') {p : Addr} {x : Value} (hc : w.cell? p = some x) (hT : ¬ T p.block) : w'.cell? p = some x :=
  (World.cell?_of_block (w := w) (h.block _ (block_lt_of_cell hc) hT)).trans hc
theorem Fr.owns {T : Nat → Prop} {w w' : World} {B sz n : Nat} {e : TypeId} {v : Value} {xs : List Value} (h : Fr T w w') (ho : w.ownsRow B e sz v n xs) (hT : ∀ k, v.ownBlock = some k → ¬ T k) : w'.ownsRow B e sz v n xs := by
  obtain ⟨h1, h2⟩ := ho
  refine ⟨h1, ?_⟩
  rcases h2 with h2 | ⟨g, cap, cur, rfl, h3, h4, h5⟩
  · exact .inl h2
  · exact .inr ⟨g, cap, cur, rfl, h3, (h.block g (Array.getElem?_eq_some_iff.1 h4).1 (hT g rfl)).trans h4, h5⟩
theorem owns_below {w w' : World} {B sz n : Nat} {e : TypeId} {v : Value} {xs : List Value} (ho : w.ownsRow B e sz v n xs) (h : Below w.heap.size w w') : w'.ownsRow B e sz v n xs :=
  Fr.owns (T := fun _ => False) (.of_below h) ho fun _ _ h => h

/-- Just block alone. -/
def Just (b k : Nat) : Prop := k = b
theorem Just.self (b : Nat) : Just b b := rfl
theorem just_iff {b k : Nat} : Just b k ↔ k = b := Iff.rfl

/-- The cell at number i of a row at a block. -/
theorem At.cell {w : World} {b : Nat} {A : Array Value} {t : TypeId} (h : At w b A t) (i : Nat) : w.cell? ⟨b, i, none⟩ = A[i]? := cell_of_row _ _ i _ _ _ h
end Go.Proofs.YtimhemcoflpmcaaGreatDoor.Row
end

section
/- Slices of numbers: rows that a function makes, slices that came in, copies into a row. -/
set_option maxRecDepth 100000
namespace Go.Proofs.YtimhemcoflpmcaaGreatDoor.Row
open Go.ChangeShapes Go.WideShapes Go.ChangeAt Go.RowKit

theorem made_rowL (n : Nat) (f : Nat → Int) : madeCells #[.int .i64 0] n = rowL n f 0 := by
  rw [row_of0]
  apply Array.ext_getElem?
  intro i
  unfold madeCells
  by_cases hi : i < n
  · simp [hi, Nat.mod_one]
  · simp [hi]

theorem info_int : (Tryz.prog.info? 3).map (fun i => (i.zero, i.size, i.bytes)) = some (some (.int .i64 0), 1, 8) := by kernel_rfl

/-- 'make([]int, n)'. -/
theorem wpList_make_rowL (f : Nat → Int) {ops : Array Oper} {rest : List Oper} {o : Oper} {a : Act} {w : World} {Q : Exit → Act → World → Prop} (hg : o.guard = none) (l c : Operand) (hop : o.op = Op.makeSlice 66 l c)
    (n : Nat) (kl kc : IntKind) (hl : a.eval l = .int kl (n : Int)) (hc : a.eval c = .int kc (n : Int)) (hn : n ≤ 35184372088832)
    (hK : wpList Tryz.prog ops Q rest (a.put o.dst (.slice (some ⟨w.heap.size, 0, none⟩) n n)) (w.alloc (.cells (rowL n f 0) 3))) :
    wpList Tryz.prog ops Q (o :: rest) a w := by
  obtain ⟨i, hi, hzz⟩ := Option.map_eq_some_iff.1 info_int
  simp only [Prod.mk.injEq] at hzz
  obtain ⟨hz, hs, hb⟩ := hzz
  refine wpList_make_row w hg l c 66 hop 3 i (.int .i64 0) Tryz.underlying66 hi hz hs rfl kl kc n hl hc (by rw [hb]; omega) (by omega) ?_
  rw [made_rowL n f]
  exact hK

theorem run_make_rowL (f : Nat → Int) (n : Nat) (kl kc : IntKind) (hn : n ≤ 35184372088832) (w : World) :
    (Instr.makeSlice 66 (.int kl (n : Int)) (.int kc (n : Int))).run Tryz.prog w = .ok (.slice (some ⟨w.heap.size, 0, none⟩) n n) (w.alloc (.cells (rowL n f 0) 3)) := by
  rw [← made_rowL n f]
  exact run_make_row' 66 3 (.int .i64 0) 8 Tryz.underlying66 info_int rfl kl kc n (by omega) (by omega) w

/-- What a row holds when n of g's numbers were laid over its numbers from 'off' on. -/
def over (f g : Nat → Int) (off n : Nat) (i : Nat) : Int := if off ≤ i ∧ i < off + n then g (i - off) else f i

theorem IsRow.over {m off n : Nat} {f g : Nat → Int} {T : Array Value} (hT : IsRow m f T) (hm : off + n ≤ m) :
    IsRow m (over f g off n) (T.toList.take off ++ ((List.range n).map (fun i => Value.int .i64 (g i)) ++ T.toList.drop (off + n))).toArray := by
  obtain ⟨h1, h2, h3⟩ := hT
  have hl : T.toList.length = m := by simpa using h1
  have key : ∀ k, k < m → (T.toList.take off ++ ((List.range n).map (fun i => Value.int .i64 (g i)) ++ T.toList.drop (off + n)))[k]? = some (.int .i64 (Row.over f g off n k)) := fun k hk => by
    unfold Row.over
    have h3' := h3 k hk
    rw [← Array.getElem?_toList] at h3'
    by_cases c1 : k < off
    · rw [List.getElem?_append_left (by rw [List.length_take]; omega), List.getElem?_take_of_lt c1, if_neg (by omega), h3']
    · rw [List.getElem?_append_right (by rw [List.length_take]; omega), List.length_take, show min off T.toList.length = off by omega]
      by_cases c2 : k < off + n
      · rw [List.getElem?_append_left (by rw [List.length_map, List.length_range]; omega), if_pos (by omega)]
        simp [show k - off < n by omega]
      · rw [List.getElem?_append_right (by rw [List.length_map, List.length_range]; omega), List.length_map, List.length_range, if_neg (by omega), List.getElem?_drop, show off + n + (k - off - n) = k by omega, h3']
  have hs : (T.toList.take off ++ ((List.range n).map (fun i => Value.int .i64 (g i)) ++ T.toList.drop (off + n))).length = m := by
    simp only [List.length_append, List.length_take, List.length_map, List.length_range, List.length_drop]; omega
  refine ⟨by simpa using hs, ?_, fun k hk => by simpa using key k hk⟩
  rw [Array.all_eq_true]
  intro i hi
  have hi' : i < m := by simpa [hs] using hi
  have := key i hi'
  rw [List.getElem?_eq_getElem (by rw [hs]; exact hi')] at this
  injection this with this
  simp only [List.getElem_toArray, this]
  rfl

/-- 'copy(dst, src)' into a row that is known whole: the row behind it, under any name. -/
theorem wpList_copy_over {ops : Array Oper} {rest : List Oper} {o : Oper} {a : Act} {w : World} {Q : Exit → Act → World → Prop} (hgd : o.guard = none) (d s : Operand)
    (ho : o.op = .call { callee := .builtin .copy, args := #[d, s], argTypes := #[66, 66] })
    (g off n dCap sCap : Nat) (sp : Option Addr) (hd : a.eval d = .slice (some ⟨g, off, none⟩) n dCap) (hs : a.eval s = .slice sp n sCap) (m : Nat) (f h : Nat → Int) (T : Array Value) (t : TypeId)
    (hT : IsRow m f T) (hg : At w g T t) (hm : off + n ≤ m) (hn0 : 0 < n) (hsrc : Sl .i64 w sp n sCap h)
    (hK : ∀ U, IsRow m (over f h off n) U → wpList Tryz.prog ops Q rest (a.put o.dst (.int .i64 n)) (w.setRow g U)) : wpList Tryz.prog ops Q (o :: rest) a w := by
  obtain ⟨b, q, rfl, hc⟩ := hsrc.2.2 hn0
  have hsz : (Tryz.prog.info? 3).map (·.size) = some 1 := by kernel_rfl
  have hl : ((List.range n).map (fun i => Value.int .i64 (h i))).length = n := by simp
  refine wpList_copy_own hgd d s 66 66 ho 3 Tryz.underlying66 hsz g off n dCap ⟨b, q, none⟩ n sCap hd hs T t hg ((List.range n).map fun i => Value.int .i64 (h i)) (by rw [hl]; exact (Nat.min_self n).symm) ?_ (by rw [hl, hT.1]; exact hm) ?_ ?_
  · intro j v hj
    have hjn : j < n := by
      by_cases e : j < n
      · exact e
      · rw [List.getElem?_eq_none (by rw [hl]; omega)] at hj; cases hj
    have e : v = .int .i64 (h j) := by simpa [hjn] using hj.symm
    rw [e, ← hc j hjn]
    unfold Addr.add
    by_cases e0 : j = 0
    · subst e0; simp
    · simp [e0]
  · intro v hv
    simp only [List.mem_map, List.mem_range] at hv
    obtain ⟨i, _, rfl⟩ := hv
    rfl
  · rw [hl]
    have := hK _ (hT.over (g := h) hm)
    exact this
end Go.Proofs.YtimhemcoflpmcaaGreatDoor.Row
end

section
/- Slices of integers that a function appends to: what they hold, one number more, what they are to a callee. -/
set_option maxRecDepth 100000
namespace Go.Proofs.YtimhemcoflpmcaaGreatDoor.Row
open Go.RowKit

/-- Block g is the function's own row of c cells, of which the first n are f's. -/
def OwnG (w : World) (B g c n : Nat) (f : Nat → Int) : Prop := B ≤ g ∧ n ≤ c ∧ c ≤ maxLen ∧ ∃ cur : Array Value, At w g cur 3 ∧ cur.size = c ∧ ∀ i, i < n → cur[i]? = some (.int .i64 (f i))
/-- A slice of its own: nil as long as nothing is in it. -/
def OwnS (w : World) (B : Nat) (a : Option Addr) (n c : Nat) (f : Nat → Int) : Prop := (a = none ∧ n = 0 ∧ c = 0) ∨ ∃ g, a = some ⟨g, 0, none⟩ ∧ OwnG w B g c n f

theorem OwnG.cell {w : World} {B g c n : Nat} {f : Nat → Int} (h : OwnG w B g c n f) (i : Nat) (hi : i < n) : w.cell? ⟨g, i, none⟩ = some (.int .i64 (f i)) := by
  obtain ⟨_, _, _, cur, hA, _, hc⟩ := h
  rw [cell_of_row _ _ i _ _ _ hA, hc i hi]
theorem OwnG.lt {w : World} {B g c n : Nat} {f : Nat → Int} (h : OwnG w B g c n f) : g < w.heap.size := by
  obtain ⟨_, _, _, cur, hA, _, _⟩ := h
  exact hA.lt
theorem OwnG.frozen {w : World} {B g c n : Nat} {f : Nat → Int} (h : OwnG w B g c n f) (i : Nat) : w.frozen? ⟨g, i, none⟩ = false := by
  obtain ⟨_, _, _, cur, hA, _, _⟩ := h
  exact hA.frozen i
theorem OwnG.below {w w' : World} {B g c n : Nat} {f : Nat → Int} (h : OwnG w B g c n f) (hb : Below w.heap.size w w') : OwnG w' B g c n f := by
  obtain ⟨h1, h2, h3, cur, hA, h4, h5⟩ := h
  exact ⟨h1, h2, h3, cur, hA.below hb hA.lt, h4, h5⟩
theorem OwnG.drewN {w : World} {B g c n : Nat} {f : Nat → Int} (h : OwnG w B g c n f) (k : Nat) : OwnG (w.drewN k) B g c n f := h
theorem OwnG.ext {w : World} {B g c n : Nat} {f f' : Nat → Int} (h : OwnG w B g c n f) (e : ∀ i, i < n → f i = f' i) : OwnG w B g c n f' := by
  obtain ⟨h1, h2, h3, cur, hA, h4, h5⟩ := h
  exact ⟨h1, h2, h3, cur, hA, h4, fun i hi => by rw [← e i hi]; exact h5 i hi⟩
theorem OwnS.nil (w : World) (B : Nat) (f : Nat → Int) : OwnS w B none 0 0 f := .inl ⟨rfl, rfl, rfl⟩
theorem OwnS.below {w w' : World} {B n c : Nat} {a : Option Addr} {f : Nat → Int} (h : OwnS w B a n c f) (hb : Below w.heap.size w w') : OwnS w' B a n c f := by
  rcases h with h | ⟨g, e, h⟩
  · exact .inl h
  · exact .inr ⟨g, e, h.below hb⟩
theorem OwnS.pos {w : World} {B n c : Nat} {a : Option Addr} {f : Nat → Int} (h : OwnS w B a n c f) (hn : 0 < n) : ∃ g, a = some ⟨g, 0, none⟩ ∧ OwnG w B g c n f := by
  rcases h with ⟨_, h, _⟩ | h
  · omega
  · exact h
theorem OwnG.sl {w : World} {B g c n : Nat} {f : Nat → Int} (h : OwnG w B g c n f) : Sl .i64 w (some ⟨g, 0, none⟩) n c f :=
  ⟨h.2.1, h.2.2.1, fun _ => ⟨g, 0, rfl, fun i hi => by rw [Nat.zero_add]; exact h.cell i hi⟩⟩
theorem OwnS.sl {w : World} {B n c : Nat} {a : Option Addr} {f : Nat → Int} (h : OwnS w B a n c f) : Sl .i64 w a n c f := by
  rcases h with ⟨rfl, rfl, rfl⟩ | ⟨g, rfl, h⟩
  · exact ⟨Nat.le_refl _, Nat.zero_le _, fun h => absurd h (Nat.lt_irrefl _)⟩
  · exact h.sl

def intsL (f : Nat → Int) (n : Nat) : List Value := (List.range n).map fun i => .int .i64 (f i)
theorem intsL_length (f : Nat → Int) (n : Nat) : (intsL f n).length = n := by unfold intsL; simp
theorem intsL_get (f : Nat → Int) (n i : Nat) (hi : i < n) : (intsL f n)[i]? = some (.int .i64 (f i)) := by unfold intsL; simp [hi]
theorem intsL_next (f : Nat → Int) (n : Nat) : intsL f n ++ [.int .i64 (f n)] = intsL f (n + 1) := by unfold intsL; rw [List.range_succ, List.map_append]; rfl

theorem OwnS.owns {w : World} {B n c : Nat} {a : Option Addr} {f : Nat → Int} (h : OwnS w B a n c f) : w.ownsRow B 3 1 (.slice a n c) n (intsL f n) := by
  refine ⟨by rw [intsL_length]; omega, ?_⟩
  rcases h with ⟨rfl, rfl, rfl⟩ | ⟨g, rfl, h1, h2, h3, cur, hA, h4, h5⟩
  · exact .inl ⟨rfl, rfl⟩
  · refine .inr ⟨g, c, cur, rfl, h1, hA, h2, h3, by omega, ?_⟩
    apply List.ext_getElem?
    intro i
    rw [Nat.mul_one]
    by_cases hi : i < n
    · rw [intsL_get f n i hi, List.getElem?_take_of_lt hi, Array.getElem?_toList, h5 i hi]
    · rw [List.getElem?_eq_none (l := List.take n cur.toList) (by rw [List.length_take]; omega), List.getElem?_eq_none (l := intsL f n) (by rw [intsL_length]; omega)]

theorem own_of {w : World} {B n : Nat} {v : Value} {f : Nat → Int} (h : w.ownsRow B 3 1 v n (intsL f n)) (hn : 0 < n) : ∃ g c, v = .slice (some ⟨g, 0, none⟩) n c ∧ OwnG w B g c n f := by
  obtain ⟨_, ⟨_, h0⟩ | ⟨g, c, cur, e, h1, hA, h2, h3, h4, h5⟩⟩ := h
  · omega
  · refine ⟨g, c, e, h1, h2, h3, cur, hA, by omega, fun i hi => ?_⟩
    have := intsL_get f n i hi
    rw [← h5, Nat.mul_one, List.getElem?_take_of_lt hi, Array.getElem?_toList] at this
    exact this

theorem own_block_ge {w : World} {B n c : Nat} {a : Option Addr} {f : Nat → Int} (h : OwnS w B a n c f) (k : Nat) (hk : (Value.slice a n c).ownBlock = some k) : B ≤ k := by
  rcases h with ⟨rfl, _, _⟩ | ⟨g, rfl, h1, _⟩
  · cases hk
  · simp [Value.ownBlock] at hk; omega

theorem info_int3 : ∃ i, Tryz.prog.info? 3 = some i ∧ i.zero = some (.int .i64 0) ∧ i.size = 1 ∧ i.bytes = 8 := by
  obtain ⟨i, hi, hzz⟩ := Option.map_eq_some_iff.1 info_int
  simp only [Prod.mk.injEq] at hzz
  exact ⟨i, hi, hzz.1, hzz.2.1, hzz.2.2⟩

/-- 'p = append(p, x)', one number: the new slice's shape, what it holds, and that nothing below B is changed. -/
theorem wpList_append_one {ops : Array Oper} {rest : List Oper} {o : Oper} {a : Act} {w : World} {Q : Exit → Act → World → Prop} (hgd : o.guard = none) (s x : Operand)
    (ho : o.op = .call { callee := .builtin .append, args := #[s, x], argTypes := #[66, 66] })
    (B : Nat) (f : Nat → Int) (ao : Option Addr) (n c : Nat) (hs : a.eval s = .slice ao n c) (hown : OwnS w B ao n c f) (b : Nat) (hx : a.eval x = .slice (some ⟨b, 0, none⟩) 1 1) (hnew : w.cell? ⟨b, 0, none⟩ = some (.int .i64 (f n)))
    (hn : n + 1 ≤ 1000000000) (hB : B ≤ w.heap.size)
    (h : ∀ g c' w', OwnG w' B g c' (n + 1) f → Below B w w' → w.grownBy w' (Value.slice ao n c).ownBlock → (ao = some ⟨g, 0, none⟩ ∨ g = w.heap.size) → wpList Tryz.prog ops Q rest (a.put o.dst (.slice (some ⟨g, 0, none⟩) (n + 1) c')) w') : wpList Tryz.prog ops Q (o :: rest) a w := by
  obtain ⟨i, hi, hz, hsz, hby⟩ := info_int3
  refine wpList_append_own_at w hgd s x 66 ho B 3 i (.int .i64 0) 1 8 Tryz.underlying66 hi hz hsz hby rfl (by decide) (.slice ao n c) n (intsL f n) hs hown.owns ⟨b, 0, none⟩ 1 1 [.int .i64 (f n)] hx rfl ?_ ?_ (by unfold maxLen; omega) (by omega) hB ?_
  · intro j u hj
    match j, hj with
    | 0, hj => simp at hj; subst hj; simpa [Addr.add] using hnew
  · intro u hu; simp at hu; subst hu; rfl
  · intro v' w' hown' hg _ hat
    rw [intsL_next] at hown'
    obtain ⟨g, c', rfl, hG⟩ := own_of hown' (by omega)
    refine h g c' w' hG ((Below.refl B w).grown hg hB fun k hk => own_block_ge hown k hk) hg ?_
    rcases hat with e | e
    · rcases hown with ⟨rfl, _, _⟩ | ⟨g0, rfl, _⟩
      · cases e
      · simp only [Value.ownBlock, Option.some.injEq] at e
        exact .inl (by rw [e])
    · simp only [Value.ownBlock, Option.some.injEq] at e
      exact .inr e

/-- Two own slices that have no block in common. -/
def Dis (a q : Option Addr) : Prop := ∀ g, a = some ⟨g, 0, none⟩ → q ≠ some ⟨g, 0, none⟩
theorem Dis.symm {a q : Option Addr} (h : Dis a q) : Dis q a := fun g e e' => h g e' e
theorem dis_nil (q : Option Addr) : Dis none q := fun _ e => by cases e
theorem Dis.new {w : World} {B n c g : Nat} {a q : Option Addr} {f : Nat → Int} (hd : Dis a q) (h : OwnS w B q n c f) (hat : a = some ⟨g, 0, none⟩ ∨ g = w.heap.size) : Dis (some ⟨g, 0, none⟩) q := by
  intro g' e e'
  have e : g = g' := by injection e with e; injection e
  subst e
  rcases hat with hat | hat
  · exact hd g hat e'
  · rcases h with ⟨rfl, _, _⟩ | ⟨g2, rfl, h⟩
    · cases e'
    · have e' : g2 = g := by injection e' with e'; injection e'
      have := h.lt
      omega
theorem OwnS.kept {w w' : World} {B n c m d : Nat} {a q : Option Addr} {f : Nat → Int} (h : OwnS w B q n c f) (hg : w.grownBy w' (Value.slice a m d).ownBlock) (ha : ∀ g, a = some g → g.off = 0 ∧ g.spot = none) (hd : Dis a q) : OwnS w' B q n c f := by
  rcases h with h | ⟨g, rfl, h1, h2, h3, cur, hA, h4, h5⟩
  · exact .inl h
  · refine .inr ⟨g, rfl, h1, h2, h3, cur, ?_, h4, h5⟩
    have hlt := hA.lt
    refine (hg.block g hlt fun e => ?_).trans hA
    cases a with
    | none => cases e
    | some x =>
      obtain ⟨xb, xo, xs⟩ := x
      obtain ⟨e1, e2⟩ := ha _ rfl
      dsimp only at e1 e2
      subst e1 e2
      simp only [Value.ownBlock, Option.some.injEq] at e
      subst e
      exact hd _ rfl rfl
theorem OwnS.head {w : World} {B n c : Nat} {a : Option Addr} {f : Nat → Int} (h : OwnS w B a n c f) : ∀ g, a = some g → g.off = 0 ∧ g.spot = none := by
  rcases h with ⟨rfl, _, _⟩ | ⟨g, rfl, _⟩
  · intro g e; cases e
  · intro g' e; injection e with e; subst e; exact ⟨rfl, rfl⟩
end Go.Proofs.YtimhemcoflpmcaaGreatDoor.Row
end

section
/- Parts of rows: what a part of a block holds, a part loaded, a part stored, rows written out with rows in them; for every package. -/
set_option maxRecDepth 100000
set_option linter.unusedVariables false
namespace Go.Proofs.YtimhemcoflpmcaaGreatDoor.Row
open Go.RowKit

theorem isRow_of {m : Nat} {f : Nat → Int} {T : Array Value} (hs : T.size = m) (h : ∀ k, k < m → T[k]? = some (.int .i64 (f k))) : IsRow m f T := by
  refine ⟨hs, ?_, h⟩
  rw [Array.all_eq_true]
  intro i hi
  have := h i (by omega)
  rw [Array.getElem?_eq_getElem hi] at this
  injection this with this
  rw [this]
  rfl

theorem IsRow.sub {m l n : Nat} {f : Nat → Int} {T : Array Value} (h : IsRow m f T) (hm : l + n ≤ m) : IsRow n (fun i => f (l + i)) (T.extract l (l + n)) := by
  refine isRow_of (by rw [Array.size_extract, h.1]; omega) fun k hk => ?_
  rw [Array.getElem?_extract, h.1, if_pos (by omega), h.2.2 _ (by omega)]

theorem At.range {w : World} {g m l n : Nat} {f h : Nat → Int} {T U : Array Value} {t : TypeId} (hT : IsRow m f T) (hA : At w g T t) (hU : IsRow n h U) (hm : l + n ≤ m) (e : ∀ i, i < n → f (l + i) = h i) : w.rangeAt g l U.toList := fun j v hj => by
  have hjn : j < n := by
    have := (List.getElem?_eq_some_iff.1 hj).1
    rw [Array.length_toList, hU.1] at this
    exact this
  rw [Array.getElem?_toList, hU.2.2 j hjn] at hj
  injection hj with hj
  rw [hT.cell hA (l + j) (by omega), e j hjn, hj]

/-- A part of a row loaded, whether guarded or not. -/
theorem wpList_load_part {ops : Array Oper} {rest : List Oper} {o : Oper} {a : Act} {w : World} {Q : Exit → Act → World → Prop} (hw : Region.wanted o (yielded ops a.tmps) = true) (ty : TypeId) (x : Operand) (ho : o.op = .load ty x)
    (g l : Nat) (hx : a.eval x = .pointer (some ⟨g, l, none⟩)) {m n : Nat} {f h : Nat → Int} {T U : Array Value} {t : TypeId} (hT : IsRow m f T) (hA : At w g T t) (hU : IsRow n h U) (hm : l + n ≤ m) (e : ∀ i, i < n → f (l + i) = h i)
    {d : TypeDesc} (hu : Tryz.prog.underlying ty = some d) (hd : d.isRow = true) (hi : (Tryz.prog.info? ty).map (·.size) = some U.size)
    (hK : wpList Tryz.prog ops Q rest (a.put o.dst (.agg U)) w) : wpList Tryz.prog ops Q (o :: rest) a w := by
  rw [wpList, if_pos hw]
  refine .inl (wp_load_mid ty x ho g l hx U.toList d (At.range hT hA hU hm e) hu hd (by rw [Array.length_toList]; exact hi) ?_)
  rw [Array.toArray_toList]
  exact hK

/-- A whole row, or struct, loaded, whether guarded or not. -/
theorem wpList_load_all {ops : Array Oper} {rest : List Oper} {o : Oper} {a : Act} {w : World} {Q : Exit → Act → World → Prop} (hw : Region.wanted o (yielded ops a.tmps) = true) (ty : TypeId) (x : Operand) (ho : o.op = .load ty x)
    (g : Nat) (hx : a.eval x = .pointer (some ⟨g, 0, none⟩)) {m : Nat} {f : Nat → Int} {T : Array Value} {t : TypeId} (hT : IsRow m f T) (hA : At w g T t)
    {d : TypeDesc} (hu : Tryz.prog.underlying ty = some d) (hd : d.isRow = true) (hi : ∀ A : Array Value, A.size = m → (Tryz.prog.info? ty).map (·.size) = some A.size)
    (hK : wpList Tryz.prog ops Q rest (a.put o.dst (.agg T)) w) : wpList Tryz.prog ops Q (o :: rest) a w :=
  wpList_load_part hw ty x ho g 0 hx hT hA hT (by omega) (fun i _ => by rw [Nat.zero_add]) hu hd (hi T hT.1) hK

/-- A part of a row loaded in a region that draws its order. -/
theorem y_load_part {ops : Array Oper} {S : World → Prop} {oi : Oper} {a : Act} (hw : Region.wanted oi (yielded ops a.tmps) = true) {ty : TypeId} {x : Operand} (ho : oi.op = .load ty x)
    {g l : Nat} (hx : a.eval x = .pointer (some ⟨g, l, none⟩)) {m n : Nat} {f h : Nat → Int} {T U : Array Value} {t : TypeId} (hT : IsRow m f T) (hA : ∀ w, S w → At w g T t) (hU : IsRow n h U) (hm : l + n ≤ m) (e : ∀ i, i < n → f (l + i) = h i)
    {d : TypeDesc} (hu : Tryz.prog.underlying ty = some d) (hd : d.isRow = true) (hi : (Tryz.prog.info? ty).map (·.size) = some U.size) : YieldsIf Tryz.prog ops S oi (.agg U) a := by
  have := yieldsIf_load_mid (P := Tryz.prog) (S := S) hw ty x ho g l hx U.toList d (fun w hS => At.range hT (hA w hS) hU hm e) hu hd (by rw [Array.length_toList]; exact hi)
  rwa [Array.toArray_toList] at this

theorem setRow_self {w : World} {g : Nat} {T : Array Value} {t : TypeId} (h : At w g T t) : w.setRow g T = w := by
  have hlt := h.lt
  have hv : w.heap[g] = .cells T t (0, 0) := (Array.getElem?_eq_some_iff.1 h).2
  unfold World.setRow
  cases w with
  | mk heap tape drawn os output =>
    congr 1
    apply Array.ext
    · simp
    · intro k h1 h2
      simp only [Array.getElem_modify]
      split
      · rename_i hk; subst hk; simp at hv; simp [hv]
      · rfl

/-- Cells stored side by side into a row that is known whole. -/
theorem setCells_row {g : Nat} {t : TypeId} : ∀ (vs : List Value) (o : Nat) (T : Array Value) (w : World), At w g T t → ∃ C : Array Value, w.setCells g o vs = w.setRow g C ∧ C.size = T.size ∧
    ∀ i, i < T.size → C[i]? = if o ≤ i ∧ i < o + vs.length then vs[i - o]? else T[i]?
  | [], o, T, w, h => ⟨T, (setRow_self h).symm, rfl, fun i _ => by rw [if_neg (by simp)]⟩
  | v :: vs, o, T, w, h => by
    obtain ⟨C, h1, h2, h3⟩ := setCells_row vs (o + 1) (T.setIfInBounds o v) (w.setCell ⟨g, o, none⟩ v) h.setCell
    refine ⟨C, ?_, by rw [h2, Array.size_setIfInBounds], fun i hi => ?_⟩
    · rw [World.setCells, h1, setCell_eq_setRow w g o T t (0, 0) v h, setRow_setRow]
    · rw [h3 i (by rw [Array.size_setIfInBounds]; exact hi), List.length_cons]
      by_cases c1 : i = o
      · subst c1
        rw [if_neg (by omega), if_pos (by omega), Array.getElem?_setIfInBounds_self_of_lt hi, Nat.sub_self]
        rfl
      · by_cases c2 : o + 1 ≤ i ∧ i < o + 1 + vs.length
        · rw [if_pos c2, if_pos (by omega), show i - o = (i - (o + 1)) + 1 by omega]
          rfl
        · rw [if_neg c2, if_neg (by omega), Array.getElem?_setIfInBounds_ne (fun e => c1 e.symm)]

/-- A part of a row stored. -/
theorem wpList_store_part {ops : Array Oper} {rest : List Oper} {o : Oper} {a : Act} {w : World} {Q : Exit → Act → World → Prop} (hgd : o.guard = none) (ty : TypeId) (x y : Operand) (ho : o.op = .store ty x y)
    (g l : Nat) {m n : Nat} {f h : Nat → Int} {T U : Array Value} {t : TypeId} (hx : a.eval x = .pointer (some ⟨g, l, none⟩)) (hy : a.eval y = .agg U) (hT : IsRow m f T) (hA : At w g T t) (hU : IsRow n h U) (hm : l + n ≤ m)
    (hi : (Tryz.prog.info? ty).map (·.size) = some U.size)
    (hK : ∀ C, IsRow m (over f h l n) C → wpList Tryz.prog ops Q rest (a.put o.dst undef) (w.setRow g C)) : wpList Tryz.prog ops Q (o :: rest) a w := by
  obtain ⟨C, h1, h2, h3⟩ := setCells_row U.toList l T w hA
  have hC : IsRow m (over f h l n) C := isRow_of (by rw [h2, hT.1]) fun k hk => by
    rw [h3 k (by rw [hT.1]; exact hk), Array.length_toList, hU.1]
    unfold over
    by_cases c : l ≤ k ∧ k < l + n
    · rw [if_pos c, if_pos c, Array.getElem?_toList, hU.2.2 _ (by omega)]
    · rw [if_neg c, if_neg c, hT.2.2 k hk]
  refine wpList_store_mid hgd ty x y ho g l U hx hy (fun j hj => ?_) hi hU.2.1 ?_
  · rw [hU.1] at hj
    exact ⟨by rw [hT.cell hA (l + j) (by omega)]; rfl, hA.frozen _⟩
  · rw [h1]
    exact hK C hC

/-- One part of a row that is written out. -/
theorem fold_lay : ∀ (l : List Value) (k off : Nat) (C : Array Value), ((l.zipIdx k).foldl (fun cs x => cs.setIfInBounds (off + x.2) x.1) C).size = C.size ∧
    ∀ i, i < C.size → ((l.zipIdx k).foldl (fun cs x => cs.setIfInBounds (off + x.2) x.1) C)[i]? = if off + k ≤ i ∧ i < off + k + l.length then l[i - (off + k)]? else C[i]?
  | [], k, off, C => ⟨rfl, fun i _ => by rw [if_neg (by simp)]; rfl⟩
  | v :: l, k, off, C => by
    obtain ⟨h1, h2⟩ := fold_lay l (k + 1) off (C.setIfInBounds (off + k) v)
    rw [List.zipIdx_cons, List.foldl_cons]
    refine ⟨by rw [h1, Array.size_setIfInBounds], fun i hi => ?_⟩
    rw [h2 i (by rw [Array.size_setIfInBounds]; exact hi), List.length_cons]
    by_cases c1 : i = off + k
    · subst c1
      rw [if_neg (by omega), if_pos (by omega), Array.getElem?_setIfInBounds_self_of_lt hi, Nat.sub_self]
      rfl
    · by_cases c2 : off + (k + 1) ≤ i ∧ i < off + (k + 1) + l.length
      · rw [if_pos c2, if_pos (by omega), show i - (off + k) = (i - (off + (k + 1))) + 1 by omega]
        rfl
      · rw [if_neg c2, if_neg (by omega), Array.getElem?_setIfInBounds_ne (fun e => c1 e.symm)]

theorem fill_step {place : Nat → Option (Nat × Nat)} {i l n : Nat} {v : Value} {T : Array Value} {rest : List (Nat × Value)} (hp : place i = some (l, n)) (hv : v.cells.size = n) (hm : l + n ≤ T.size) :
    Instr.fill place T ((i, v) :: rest) = Instr.fill place ((v.cells.toList.zipIdx 0).foldl (fun cs x => cs.setIfInBounds (l + x.2) x.1) T) rest := by
  conv => lhs; unfold Instr.fill
  rw [hp]
  have h0 : (decide (v.cells.size ≠ n) || decide (l + v.cells.size > T.size)) = false := by
    rw [Bool.or_eq_false_iff, decide_eq_false_iff_not, decide_eq_false_iff_not]
    omega
  simp only [h0]
  simp only [Bool.false_eq_true, if_false]
  rw [← Array.foldl_toList, Array.toList_zipIdx]

theorem fill_agg {place : Nat → Option (Nat × Nat)} {i m l n : Nat} {f h : Nat → Int} {T U : Array Value} {rest : List (Nat × Value)} (hp : place i = some (l, n)) (hT : IsRow m f T) (hU : IsRow n h U) (hm : l + n ≤ m) :
    ∃ C, IsRow m (over f h l n) C ∧ Instr.fill place T ((i, .agg U) :: rest) = Instr.fill place C rest := by
  obtain ⟨h1, h2⟩ := fold_lay U.toList 0 l T
  refine ⟨(U.toList.zipIdx 0).foldl (fun cs x => cs.setIfInBounds (l + x.2) x.1) T, ?_, fill_step (v := .agg U) hp hU.1 (by rw [hT.1]; exact hm)⟩
  exact isRow_of (by rw [h1, hT.1]) fun k hk => by
    rw [h2 k (by rw [hT.1]; exact hk), Array.length_toList, hU.1]
    unfold over
    by_cases c : l ≤ k ∧ k < l + n
    · rw [if_pos (by omega), if_pos c, Array.getElem?_toList, show k - (l + 0) = k - l by omega, hU.2.2 _ (by omega)]
    · rw [if_neg (by omega), if_neg c, hT.2.2 k hk]

theorem fill_int {place : Nat → Option (Nat × Nat)} {i m l : Nat} {f : Nat → Int} {x : Int} {T : Array Value} {rest : List (Nat × Value)} (hp : place i = some (l, 1)) (hT : IsRow m f T) (hm : l < m) :
    ∃ C, IsRow m (fun j => if j = l then x else f j) C ∧ Instr.fill place T ((i, .int .i64 x) :: rest) = Instr.fill place C rest :=
  ⟨T.setIfInBounds l (.int .i64 x), hT.set x hm, fill_step (v := .int .i64 x) hp rfl (by rw [hT.1]; omega)⟩

/-- A row or a struct, and a number, as results. -/
theorem results_any_int {fn : Func} {p q : Tmp} {t u : TypeId} {z : Value} (h : fn.results = #[.cell p t, .tmp q]) (tmps : Array Value) (w : World) (g : Nat) (A : Array Value) (d : TypeDesc)
    (hp : tmps.getD p undef = .pointer (some ⟨g, 0, none⟩)) (hq : tmps.getD q undef = z) (hg : At w g A u)
    (hu : Tryz.prog.underlying t = some d) (hd : d.isRow = true) (hA : (Tryz.prog.info? t).map (·.size) = some A.size) :
    (results fn tmps).run Tryz.prog w = .ok (.tuple #[.agg A, z]) w := by
  have hp' : tmps[p]?.getD undef = .pointer (some ⟨g, 0, none⟩) := by simpa using hp
  have hq' : tmps[q]?.getD undef = z := by simpa using hq
  have h1 := run_loadVar_row w g u t A (0, 0) _ hg hu (by cases d <;> first | rfl | cases hd) hA
  simp [results, h, hp', hq', asAddr, h1]
/-- Two rows or structs as results. -/
theorem results_any_two {fn : Func} {p q : Tmp} {t u t' u' : TypeId} (h : fn.results = #[.cell p t, .cell q u]) (tmps : Array Value) (w : World) (g k : Nat) (A B : Array Value) (d d' : TypeDesc)
    (hp : tmps.getD p undef = .pointer (some ⟨g, 0, none⟩)) (hq : tmps.getD q undef = .pointer (some ⟨k, 0, none⟩)) (hg : At w g A t') (hk : At w k B u')
    (hu : Tryz.prog.underlying t = some d) (hd : d.isRow = true) (hA : (Tryz.prog.info? t).map (·.size) = some A.size)
    (hu' : Tryz.prog.underlying u = some d') (hd' : d'.isRow = true) (hB : (Tryz.prog.info? u).map (·.size) = some B.size) :
    (results fn tmps).run Tryz.prog w = .ok (.tuple #[.agg A, .agg B]) w := by
  have hp' : tmps[p]?.getD undef = .pointer (some ⟨g, 0, none⟩) := by simpa using hp
  have hq' : tmps[q]?.getD undef = .pointer (some ⟨k, 0, none⟩) := by simpa using hq
  have h1 := run_loadVar_row w g t' t A (0, 0) _ hg hu (by cases d <;> first | rfl | cases hd) hA
  have h2 := run_loadVar_row w k u' u B (0, 0) _ hk hu' (by cases d' <;> first | rfl | cases hd') hB
  simp [results, h, hp', hq', asAddr, h1, h2]

/-- A row or a struct written out, its parts as a list of values. -/
theorem wpList_build_parts {ops : Array Oper} {rest : List Oper} {o : Oper} {a : Act} {w : World} {Q : Exit → Act → World → Prop} (hw : Region.wanted o (yielded ops a.tmps) = true) (t : TypeId) (L : List (Nat × Operand)) (ho : o.op = .build t L.toArray)
    (vs : List (Nat × Value)) (hv : (L.map fun x => (x.1, a.eval x.2)) = vs) {C : Array Value} (hc : Tryz.prog.built t vs = some C)
    (h : wpList Tryz.prog ops Q rest (a.put o.dst (.agg C)) w) : wpList Tryz.prog ops Q (o :: rest) a w := by
  refine wpList_build_wanted hw t L.toArray ho C ?_ h
  rw [List.map_toArray, List.toList_toArray, ← hc, ← hv]
theorem y_build_parts {ops : Array Oper} {S : World → Prop} {oi : Oper} {a : Act} {t : TypeId} {L : List (Nat × Operand)} (hw : Region.wanted oi (yielded ops a.tmps) = true) (ho : oi.op = .build t L.toArray)
    (vs : List (Nat × Value)) (hv : (L.map fun x => (x.1, a.eval x.2)) = vs) {C : Array Value} (hc : Tryz.prog.built t vs = some C) : YieldsIf Tryz.prog ops S oi (.agg C) a := by
  refine y_build hw ho ?_
  rw [List.map_toArray, List.toList_toArray, ← hc, ← hv]
end Go.Proofs.YtimhemcoflpmcaaGreatDoor.Row
end

section
/- A row of bytes with room, that bytes are appended to in place; cells of any kind loaded and stored in a drawn region; for every package. -/
set_option maxRecDepth 100000
set_option linter.unusedVariables false
namespace Go.Proofs.YtimhemcoflpmcaaGreatDoor.Row
open Go.RowKit

theorem info_byte : ∃ i, Tryz.prog.info? 5 = some i ∧ i.zero = some (.int .u8 0) ∧ i.size = 1 ∧ i.bytes = 1 := by
  have h : (Tryz.prog.info? 5).map (fun i => (i.zero, i.size, i.bytes)) = some (some (.int .u8 0), 1, 1) := by kernel_rfl
  obtain ⟨i, hi, hzz⟩ := Option.map_eq_some_iff.1 h
  simp only [Prod.mk.injEq] at hzz
  exact ⟨i, hi, hzz.1, hzz.2.1, hzz.2.2⟩

/-- Bytes as cells. -/
def bv (l : List UInt8) : List Value := l.map fun c => Value.int .u8 (c.toNat : Int)
theorem bv_length (l : List UInt8) : (bv l).length = l.length := by unfold bv; simp
theorem bv_get (l : List UInt8) (i : Nat) : (bv l)[i]? = l[i]?.map fun c => Value.int .u8 (c.toNat : Int) := by unfold bv; simp

/-- At block g stand the bytes l, in a row of N. -/
def TxtAt (N : Nat) (w : World) (g : Nat) (l : List UInt8) : Prop := l.length ≤ N ∧ ∃ cur : Array Value, At w g cur 5 ∧ cur.size = N ∧ ∀ (i : Nat) (c : UInt8), l[i]? = some c → cur[i]? = some (Value.int .u8 (c.toNat : Int))
theorem TxtAt.lt {N : Nat} {w : World} {g : Nat} {l : List UInt8} (h : TxtAt N w g l) : g < w.heap.size := by
  obtain ⟨_, cur, hA, _⟩ := h; exact hA.lt
theorem TxtAt.fr {N : Nat} {w w' : World} {g : Nat} {l : List UInt8} {T : Nat → Prop} (h : TxtAt N w g l) (hf : Fr T w w') (hT : ¬ T g) : TxtAt N w' g l := by
  obtain ⟨h0, cur, hA, h1, h2⟩ := h
  exact ⟨h0, cur, hA.fr hf hT, h1, h2⟩
theorem TxtAt.below {N : Nat} {w w' : World} {g : Nat} {l : List UInt8} (h : TxtAt N w g l) (hb : Below w.heap.size w w') : TxtAt N w' g l :=
  h.fr (T := fun _ => False) (.of_below hb) fun h => h
theorem TxtAt.setCell_other {N : Nat} {w : World} {g : Nat} {l : List UInt8} {a : Addr} {v : Value} (h : TxtAt N w g l) (hg : g ≠ a.block) : TxtAt N (w.setCell a v) g l := by
  obtain ⟨h0, cur, hA, h1, h2⟩ := h
  exact ⟨h0, cur, hA.setCell_other hg, h1, h2⟩
theorem TxtAt.nil {N : Nat} {w : World} {g : Nat} {cur : Array Value} (h : At w g cur 5) (hs : cur.size = N) : TxtAt N w g [] := ⟨Nat.zero_le _, cur, h, hs, fun i c hc => by cases hc⟩

/-- What is appended in place. -/
theorem TxtAt.app {N : Nat} {w : World} {g n : Nat} {l : List UInt8} (h : TxtAt N w g l) (m : List UInt8) (hl : l.length = n) (hm : n + m.length ≤ N) : ∃ C, w.setCells g n (bv m) = w.setRow g C ∧ TxtAt N (w.setRow g C) g (l ++ m) := by
  subst hl
  obtain ⟨h0, cur, hA, h1, h2⟩ := h
  obtain ⟨C, e1, e2, e3⟩ := setCells_row (bv m) l.length cur w hA
  refine ⟨C, e1, by rw [List.length_append]; omega, C, hA.setRow, by rw [e2, h1], fun i c hc => ?_⟩
  have hi : i < l.length + m.length := by
    have := (List.getElem?_eq_some_iff.1 hc).1
    rwa [List.length_append] at this
  rw [e3 i (by omega), bv_length]
  by_cases c1 : i < l.length
  · rw [List.getElem?_append_left c1] at hc
    rw [if_neg (by omega)]
    exact h2 i c hc
  · rw [List.getElem?_append_right (by omega)] at hc
    rw [if_pos (by omega), bv_get, hc]
    rfl

/-- 'append(p, x)' where there is room. -/
theorem run_app {N : Nat} {w : World} {g n k : Nat} {l m : List UInt8} {tx ty : TypeId} {x : Value} (h : TxtAt N w g l) (hl : l.length = n) (hmk : m.length = k) (hs : Src Tryz.prog 1 tx x k (bv m) w) (hm : n + k ≤ N) :
    ∃ C, (Builtin.append_ #[43, tx] ty #[.slice (some ⟨g, 0, none⟩) n N, x]).run Tryz.prog w = .ok (.slice (some ⟨g, 0, none⟩) (n + k) N) (w.setRow g C) ∧ TxtAt N (w.setRow g C) g (l ++ m) := by
  subst hmk
  obtain ⟨C, e1, e2⟩ := h.app m hl hm
  obtain ⟨i, hi, hz, hsz, hby⟩ := info_byte
  refine ⟨C, ?_, e2⟩
  obtain ⟨h0, cur, hA, h1, h2⟩ := h
  have hr := run_append_room_src (P := Tryz.prog) w 43 tx ty 5 i Tryz.underlying43 hi g 0 n N x m.length (bv m) (by rw [hsz]; exact hs) hm
    (fun j hj => by
      rw [bv_length] at hj
      rw [hsz, cell_of_row _ _ _ _ _ _ hA, Array.getElem?_eq_getElem (by omega)]; rfl)
    (fun j _ => hA.frozen _)
  rw [hr, hsz, Nat.zero_add, Nat.mul_one, e1]

/-- The same in a region that doesn't draw. -/
theorem wpList_app {N : Nat} {ops : Array Oper} {rest : List Oper} {o : Oper} {a : Act} {w : World} {Q : Exit → Act → World → Prop} (hgd : o.guard = none) (s y : Operand) (tx : TypeId)
    (ho : o.op = .call { callee := .builtin .append, args := #[s, y], argTypes := #[43, tx] }) {g n k r : Nat} {l m : List UInt8} {x : Value}
    (hs : a.eval s = .slice (some ⟨g, 0, none⟩) n N) (hx : a.eval y = x) (h : TxtAt N w g l) (hl : l.length = n) (hmk : m.length = k) (hsrc : Src Tryz.prog 1 tx x k (bv m) w) (hr : n + k = r) (hm : r ≤ N)
    (hK : ∀ C, TxtAt N (w.setRow g C) g (l ++ m) → wpList Tryz.prog ops Q rest (a.put o.dst (.slice (some ⟨g, 0, none⟩) r N)) (w.setRow g C)) : wpList Tryz.prog ops Q (o :: rest) a w := by
  subst hr
  obtain ⟨C, hr, hT⟩ := run_app (ty := o.type) h hl hmk hsrc hm
  refine wpList_plain hgd fun K hK' => ?_
  unfold Oper.wp
  simp [execOp, ho, resolve, invoke, builtin, hs, hx, hr, Result.andThen]
  exact hK' _ _ (hK C hT)

theorem src_string (s : List UInt8) (w : World) : Src Tryz.prog 1 9 (.string ⟨s.toArray⟩) s.length (bv s) w := by
  have := Src.ofString (P := Tryz.prog) w Tryz.underlying9 ⟨s.toArray⟩
  have e : byteCells ⟨s.toArray⟩ = bv s := by unfold byteCells bv; simp
  rw [e] at this
  have e2 : (⟨s.toArray⟩ : ByteArray).size = s.length := by simp [ByteArray.size]
  rwa [e2] at this
theorem src_one {w : World} {b c : Nat} {x : UInt8} (h : w.cell? ⟨b, 0, none⟩ = some (.int .u8 (x.toNat : Int))) : Src Tryz.prog 1 43 (.slice (some ⟨b, 0, none⟩) 1 c) 1 (bv [x]) w :=
  Src.ofSlice (P := Tryz.prog) w Tryz.underlying43 ⟨b, 0, none⟩ 1 c (bv [x]) rfl (fun j u hj => by
    match j, hj with
    | 0, hj => simp [bv] at hj; subst hj; simpa [Addr.add] using h) (fun u hu => by simp [bv] at hu; subst hu; rfl)

theorem conv_txt {N : Nat} {w : World} {g n c : Nat} {l : List UInt8} (h : TxtAt N w g l) (hl : l.length = n) : (convert 43 9 (.slice (some ⟨g, 0, none⟩) n c)).run Tryz.prog w = .ok (.string ⟨l.toArray⟩) w := by
  subst hl
  refine run_convert_bytes_back (P := Tryz.prog) w 43 9 5 ⟨g, 0, none⟩ c l Tryz.underlying43 Tryz.underlying5 Tryz.underlying9 ?_
  intro j hj
  obtain ⟨h0, cur, hA, h1, h2⟩ := h
  rw [Addr.add_lit, cell_of_row _ _ _ _ _ _ hA, Nat.zero_add]
  exact h2 j _ (List.getElem?_eq_getElem hj)

/-! Cells of any kind that is no row. -/
theorem run_cellV {w : World} {p : Addr} {v : Value} {t : TypeId} {d : TypeDesc} (hu : Tryz.prog.underlying t = some d) (hd : d.isRow = false) (h : w.cell? p = some v) : (Instr.loadAt t (.pointer (some p))).run Tryz.prog w = .ok v w := by
  have h2 : (isAgg t).run Tryz.prog w = .ok false w := by
    unfold isAgg
    rw [Sem.run_bind, run_underlying hu w]
    cases d <;> simp_all
  simp [Instr.loadAt, Instr.sureAddr, loadVar, h2, h, go_sem]
theorem y_cellV {ops : Array Oper} {S : World → Prop} {a : Act} {oi : Oper} {y : Operand} {p : Addr} {v : Value} {t : TypeId} {d : TypeDesc} (hw : Region.wanted oi (yielded ops a.tmps) = true) (ho : oi.op = .load t y) (hy : a.eval y = .pointer (some p))
    (hu : Tryz.prog.underlying t = some d) (hd : d.isRow = false) (hc : ∀ w, S w → w.cell? p = some v) : YieldsIf Tryz.prog ops S oi v a :=
  .inl ⟨hw, fun w hw' => by
    unfold execOp
    simp only [ho, hy, run_cellV hu hd (hc w hw'), Sem.run_bind, Sem.run_pure, Result.andThen_ok]⟩

theorem run_storeAt_one {w : World} {p : Addr} {u v : Value} {t : TypeId} (hi : (Tryz.prog.info? t).map (·.size) = some 1) (hv : v.cells = #[v]) (h1 : v.oneCell' = true) (hc : w.cell? p = some u) (hf : w.frozen? p = false) : (Instr.storeAt t (.pointer (some p)) v).run Tryz.prog w = .ok () (w.setCell p v) := by
  have e : p.add 0 = p := by unfold Addr.add; simp
  have hz : (sizeOf t).run Tryz.prog w = .ok 1 w := by
    cases hq : Tryz.prog.info? t with
    | none => rw [hq] at hi; cases hi
    | some i =>
      rw [hq] at hi
      injection hi with hi
      simp [sizeOf, typeInfo, hq, hi]
  simp [e, Instr.storeAt, Instr.sureAddr, storeVar, storeCells, hz, hv, run_store Tryz.prog w p v _ h1, hc, hf]

section
variable {ops : Array Oper} {Q : Exit → Act → World → Prop} {S : World → Prop} {F : Nat → Bool} {fuel : Nat} {listed : Array Bool} {a : Act} {w : World} {oi : Oper} {i d : Nat} {rs : List Nat}

/-- A cell of any kind stored, by one of F. -/
theorem af_cellV {x y : Operand} {t : TypeId} (p : Addr) (v : Value) {u : Value} (hi : ops[i]? = some oi) (hd : oi.dst = none) (hw : Region.wanted oi (yielded ops a.tmps) = true)
    (ho : oi.op = .store t x y) (hF : F i = true) (hx : a.eval x = .pointer (some p)) (hy : a.eval y = v) (hsz : (Tryz.prog.info? t).map (·.size) = some 1) (hv : v.cells = #[v]) (h1 : v.oneCell' = true) (hc : w.cell? p = some u) (hf : w.frozen? p = false)
    (h : wpAnyF Tryz.prog .any ops (NoPanic Q) S F fuel (listed.setIfInBounds i true) a (w.setCell p v))
    (hs : AllReadyF Tryz.prog .any ops (NoPanic Q) S F fuel listed a w rs) : AllReadyF Tryz.prog .any ops (NoPanic Q) S F fuel listed a w (i :: rs) := by
  refine AllReadyF.cons hi (fun K hK => ?_) hs
  rw [if_pos hw]
  unfold Oper.wp execOp
  simp only [ho, hx, hy, Sem.run_bind, Sem.run_pure, Result.andThen_ok, run_storeAt_one hsz hv h1 hc hf]
  rw [Oper.upon_skip, hd]
  exact hK.out _ _ (fun h => by rw [hF] at h; cases h) h

/-- 'append' in place, by one of F. -/
theorem af_app {N : Nat} (s y : Operand) (tx : TypeId) (hi : ops[i]? = some oi) (hd : oi.dst = some d) (hw : Region.wanted oi (yielded ops a.tmps) = true)
    (ho : oi.op = .call { callee := .builtin .append, args := #[s, y], argTypes := #[43, tx] }) (hF : F i = true) {g n k : Nat} {l m : List UInt8} {x : Value}
    (hse : a.eval s = .slice (some ⟨g, 0, none⟩) n N) (hx : a.eval y = x) (hT : TxtAt N w g l) (hl : l.length = n) (hmk : m.length = k) (hsrc : Src Tryz.prog 1 tx x k (bv m) w) (hm : n + k ≤ N)
    (h : ∀ C, TxtAt N (w.setRow g C) g (l ++ m) → wpAnyF Tryz.prog .any ops (NoPanic Q) S F fuel (listed.setIfInBounds i true) (a.put (some d) (.slice (some ⟨g, 0, none⟩) (n + k) N)) (w.setRow g C))
    (hs : AllReadyF Tryz.prog .any ops (NoPanic Q) S F fuel listed a w rs) : AllReadyF Tryz.prog .any ops (NoPanic Q) S F fuel listed a w (i :: rs) := by
  obtain ⟨C, hr, hT⟩ := run_app (ty := oi.type) hT hl hmk hsrc hm
  refine AllReadyF.cons hi (fun K hK => ?_) hs
  rw [if_pos hw]
  unfold Oper.wp
  simp [execOp, ho, resolve, invoke, builtin, hse, hx, hr, Result.andThen]
  rw [Oper.upon_value, hd]
  exact hK.out _ _ (fun h => by rw [hF] at h; cases h) (h C hT)
end
end Go.Proofs.YtimhemcoflpmcaaGreatDoor.Row
end

section
/- A range over a function whose own state lies in cells: the iterator's contract, by the number of rounds, and the law of the statement over it, at the wide fence. -/
set_option maxRecDepth 100000
set_option linter.unusedVariables false
namespace Go.Proofs.YtimhemcoflpmcaaGreatDoor.Rf
open Go.RowKit Go.Proofs.YtimhemcoflpmcaaGreatDoor.Row Go.Shelf

/-- What holds of a world holds when new blocks are laid, and one at or beyond B is turned, whatever it is. -/
def Deaf (B : Nat) (J : World → Prop) : Prop := ∀ W W' row, J W → W.grownBy W' row → (∀ r, row = some r → B ≤ r) → J W'
theorem Deaf.mono {B C : Nat} {J : World → Prop} (h : Deaf B J) (hBC : B ≤ C) : Deaf C J := fun W W' row hj hg hr => h W W' row hj hg fun r e => Nat.le_trans hBC (hr r e)
theorem Deaf.and {B : Nat} {J K : World → Prop} (h : Deaf B J) (k : Deaf B K) : Deaf B fun W => J W ∧ K W := fun W W' row hj hg hr => ⟨h W W' row hj.1 hg hr, k W W' row hj.2 hg hr⟩
theorem Deaf.const (B : Nat) (p : Prop) : Deaf B fun _ => p := fun _ _ _ hj _ _ => hj
theorem Deaf.below {B n : Nat} {w : World} (hn : n ≤ w.heap.size) (hB : n ≤ B) : Deaf B fun W => Below n w W := fun W W' row hj hg hr => hj.grown hg (Nat.le_trans hn hj.size) fun k e => Nat.le_trans hB (hr k e)
theorem Deaf.at {B b : Nat} {A : Array Value} {t : TypeId} (hb : b < B) : Deaf B fun W => At W b A t := fun W W' row hj hg hr => (hg.block b hj.lt fun e => by have := hr b e.symm; omega).trans hj
theorem Deaf.put {B l : Nat} {J : World → Prop} (h : Deaf B J) (hl : B ≤ l) (o : Obj) {W : World} (hj : J W) : J (W.putObj l o) := h W _ (some l) hj (grownBy_putObj' W l o) fun r e => by cases e; exact hl
theorem Deaf.alloc {B : Nat} {J : World → Prop} (h : Deaf B J) (o : Obj) {W : World} (hj : J W) : J (W.alloc o) := h W _ none hj (World.grownBy_alloc W o none) fun r e => by cases e
theorem grownBy_setCell (W : World) (p : Addr) (v : Value) : W.grownBy (W.setCell p v) (some p.block) :=
  ⟨rfl, rfl, rfl, by simp [World.setCell], fun k _ hk => heap_setCell_other _ _ _ _ fun e => hk (by rw [e])⟩
theorem Deaf.setCell {B : Nat} {J : World → Prop} (h : Deaf B J) {p : Addr} (hp : B ≤ p.block) (v : Value) {W : World} (hj : J W) : J (W.setCell p v) := h W _ (some p.block) hj (grownBy_setCell W p v) fun r e => by cases e; exact hp
theorem Deaf.setRow {B : Nat} {J : World → Prop} (h : Deaf B J) {b : Nat} (hb : B ≤ b) (A : Array Value) {W : World} (hj : J W) : J (W.setRow b A) :=
  h W _ (some b) hj ⟨rfl, rfl, rfl, by rw [size_setRow]; exact Nat.le_refl _, fun k _ hk => setRow_other _ _ _ _ fun e => hk (by rw [e])⟩ fun r e => by cases e; exact hb

/-- The blocks from B on stand as they stood. -/
structure Kept (B : Nat) (W W' : World) : Prop where
  size : W.heap.size ≤ W'.heap.size
  same : ∀ k, B ≤ k → k < W.heap.size → W'.heap[k]? = W.heap[k]?
theorem Kept.refl (B : Nat) (W : World) : Kept B W W := ⟨Nat.le_refl _, fun _ _ _ => rfl⟩
theorem Kept.trans {B : Nat} {W W1 W2 : World} (h : Kept B W W1) (k : Kept B W1 W2) : Kept B W W2 := ⟨Nat.le_trans h.size k.size, fun i hB hi => (k.same i hB (Nat.lt_of_lt_of_le hi h.size)).trans (h.same i hB hi)⟩
theorem Kept.mono {B C : Nat} {W W' : World} (h : Kept B W W') (hBC : B ≤ C) : Kept C W W' := ⟨h.size, fun k hk => h.same k (Nat.le_trans hBC hk)⟩
theorem Kept.at {B b : Nat} {W W' : World} {A : Array Value} {t : TypeId} (h : Kept B W W') (hA : At W b A t) (hb : B ≤ b) : At W' b A t := (h.same b hb hA.lt).trans hA
theorem Kept.of_below {B : Nat} {W W' : World} (h : Below W.heap.size W W') : Kept B W W' := ⟨h.size, fun k _ hk => h.block k hk⟩
theorem Kept.put {B l : Nat} (W : World) (hl : l < B) (o : Obj) : Kept B W (W.putObj l o) := ⟨(grownBy_putObj' W l o).size, fun k hk _ => World.putObj_heap_other (by omega)⟩
theorem Kept.alloc (B : Nat) (W : World) (o : Obj) : Kept B W (W.alloc o) := .of_below ((Below.refl _ _).alloc (Nat.le_refl _) o)
theorem Kept.setCell {B : Nat} (W : World) {p : Addr} (hp : p.block < B) (v : Value) : Kept B W (W.setCell p v) := ⟨(grownBy_setCell W p v).size, fun k hk _ => heap_setCell_other _ _ _ _ (by omega)⟩
theorem Kept.drew (B : Nat) (W : World) : Kept B W W.drew := ⟨Nat.le_refl _, fun _ _ _ => rfl⟩

/-- An iterator hands E 0, E 1 .. to N rounds, one by one; it stops where a round says so; what it keeps itself lies in blocks of its own, which the rounds leave alone. -/
def Hands (n : Nat) (P : Program) (g N : Nat) (E : Nat → Array Value) : Prop :=
  ∀ (l : Nat) (J : Nat → World → Prop) (Jx : World → Prop) (W : World), (∀ i, Deaf W.heap.size (J i)) → Deaf W.heap.size Jx →
    (∀ i W1, i < N → J i W1 → YieldAt Fence.wide (n - 1) P l (E i) W1 fun e W' => (e = .returned (.bool true) ∧ J (i + 1) W' ∧ Kept W.heap.size W1 W') ∨ (e = .returned (.bool false) ∧ Jx W')) →
    J 0 W → CallsIn Fence.wide n P g #[.func (.yield l) #[] #[]] W fun e W' => (∃ v, e = .returned v) ∧ (J N W' ∨ Jx W')

/-- What a round's body must come to. -/
def RoundEnd (B : Nat) (I' Ix : World → Prop) (W : World) : Exit → Act → World → Prop
  | .normal, _, W' => Kept B W W' ∧ I' W'
  | .ret, _, W' => Kept B W W' ∧ Ix W'
  | _, _, _ => False

/-- The law of the statement: I i holds between two rounds, i of them done; Ix where a round has left by a return; Ax of the activation in which a round's body begins. -/
theorem range_over {n : Nat} {P : Program} {g : Operand} {ps : Array Tmp} {assign body : Code} {Q : Exit → Act → World → Prop} {a : Act} {w : World} {gf N : Nat} {E : Nat → Array Value}
    (hg : a.eval g = .func (.func gf) #[] #[]) (eg : ∀ args w, (callFunc gf args).run P w = .ok (.enter gf args) w) (hs : Hands (n - 1) P gf N E) (hps : ∀ i, (E i).size = ps.size)
    (I : Nat → World → Prop) (Ix : World → Prop) (hI : ∀ i, Deaf w.heap.size (I i)) (hIx : Deaf w.heap.size Ix) (h0 : I 0 w) (Ax : Nat → Act → World → Prop)
    (hAx : ∀ i a' W W', Ax i a' W → Kept (w.heap.size + 2) W W' → Ax i a' W')
    (hassign : ∀ (l i : Nat) (W : World) (K : Act → World → Prop), i < N → I i W → w.heap.size + 2 ≤ W.heap.size → (∀ a' W', Kept w.heap.size W W' → I i W' → Ax i a' W' → K a' W') →
      assign.wpIn (Fence.wide.inRound l) (n - 1 - 1) P (Exit.then K (fun _ _ _ => False)) { tmps := (ps.zip (E i)).foldl (fun t (p, v) => t.setIfInBounds p v) a.tmps, defers := [] } W)
    (hbody : ∀ (l i : Nat) (a' : Act) (W : World), i < N → I i W → Ax i a' W → body.wpIn (Fence.wide.inRound l) (n - 1 - 1) P (RoundEnd w.heap.size (I (i + 1)) Ix W) a' W)
    (hdone : ∀ (D : Nat) (W : World), w.heap.size ≤ D → I N W → W.heap[D]? = some (.deferred (some [])) → Q .normal { a with defers := { target := .collected D, args := #[] } :: a.defers } W)
    (hstop : ∀ (D : Nat) (W : World), w.heap.size ≤ D → Ix W → W.heap[D]? = some (.deferred (some [])) → Code.ret.wpIn Fence.wide n P Q { a with defers := { target := .collected D, args := #[] } :: a.defers } W) :
    (Code.rangeFunc g ps assign body).wpIn Fence.wide n P Q a w := by
  refine wpIn_rangeFunc fun fn hfn => ?_
  rw [show Fence.wide.round = none from rfl]
  -- the record, in its states
  obtain ⟨R, hR⟩ : ∃ R : LoopState → Option Code → Obj, R = fun st pe => .loop { state := st, pending := pe, fn, tmps := a.tmps, params := ps, assign, body, defers := w.heap.size } := ⟨_, rfl⟩
  obtain ⟨V, hV⟩ : ∃ V, (w.alloc (.deferred (some []))).alloc (R .ready none) = V := ⟨_, rfl⟩
  have hsz : V.heap.size = w.heap.size + 2 := by rw [← hV]; simp
  -- the two blocks of the statement
  obtain ⟨Two, hTwo⟩ : ∃ Two : LoopState → Option Code → World → Prop, Two = fun st pe W => W.heap[w.heap.size + 1]? = some (R st pe) ∧ W.heap[w.heap.size]? = some (.deferred (some [])) := ⟨_, rfl⟩
  have two_deaf : ∀ st pe, Deaf V.heap.size (Two st pe) := by
    intro st pe W W' row hj hg' hr
    rw [hTwo] at hj ⊢
    exact ⟨(hg'.block _ (Array.getElem?_eq_some_iff.1 hj.1).1 fun e => by have := hr _ e.symm; omega).trans hj.1, (hg'.block _ (Array.getElem?_eq_some_iff.1 hj.2).1 fun e => by have := hr _ e.symm; omega).trans hj.2⟩
  have two_kept : ∀ {st pe W W'}, Two st pe W → Kept w.heap.size W W' → Two st pe W' := by
    intro st pe W W' hj hk
    rw [hTwo] at hj ⊢
    exact ⟨(hk.same _ (by omega) (Array.getElem?_eq_some_iff.1 hj.1).1).trans hj.1, (hk.same _ (Nat.le_refl _) (Array.getElem?_eq_some_iff.1 hj.2).1).trans hj.2⟩
  have two_put : ∀ {st pe st' pe' W}, Two st pe W → Two st' pe' (W.putObj (w.heap.size + 1) (R st' pe')) := by
    intro st pe st' pe' W hj
    rw [hTwo] at hj ⊢
    exact ⟨World.putObj_heap_same (Array.getElem?_eq_some_iff.1 hj.1).1, (World.putObj_heap_other (by omega)).trans hj.2⟩
  have two0 : Two .ready none V := by
    rw [hTwo, ← hV]
    refine ⟨?_, (Below.heap_alloc _ _ _ (by simp)).trans (World.alloc_heap_new w _)⟩
    have := World.alloc_heap_new (w.alloc (.deferred (some []))) (R .ready none)
    rwa [World.size_alloc] at this
  refine ⟨w.heap.size + 1, [{ target := .collected w.heap.size, args := #[] }], V, { target := .fn (.func gf) #[], args := #[.func (.yield (w.heap.size + 1)) #[] #[]] }, V, gf, #[.func (.yield (w.heap.size + 1)) #[] #[]], V, ?_, ?_, fun _ _ => trivial, ?_, (fun h => nomatch h), ?_⟩
  · rw [← hV, hR]; exact run_enterLoop_outer _ _ _ _ _
  · simp only [resolve, hg]; simp [go_sem]
  · simp [invoke, go_sem, eg]
  refine (hs (w.heap.size + 1) (fun i W => I i W ∧ Two .ready none W ∧ V.heap.size ≤ W.heap.size) (fun W => Ix W ∧ Two .done (some .ret) W) V ?_ ?_ ?_ ?_).mono ?_
  · exact fun i => ((hI i).mono (by omega)).and ((two_deaf _ _).and fun W W' row hj hg' _ => Nat.le_trans hj hg'.size)
  · exact (hIx.mono (by omega)).and (two_deaf _ _)
  · -- a round
    rintro i W hi ⟨hj, ht, hW⟩
    have hl := ht
    rw [hTwo, hR] at hl
    refine ⟨fn, _, assign, body, run_yield (args := E i) hl.1 (hps i), roundIn_of_wpIn hfn (hassign _ i W _ hi hj (by omega) fun a' W1 hk1 hj1 hax => ?_)⟩
    have ht1 := two_kept ht hk1
    have hl1 := ht1
    rw [hTwo, hR] at hl1
    refine ⟨_, run_beginRound hl1.1 rfl, ?_⟩
    obtain ⟨O, hO, eB⟩ : ∃ O, O = R .busy none ∧ O = .loop { state := .busy, pending := none, fn, tmps := a.tmps, params := ps, assign, body, defers := w.heap.size } := ⟨_, rfl, by rw [hR]⟩
    show body.wpIn _ _ _ _ _ (W1.putObj (w.heap.size + 1) (.loop { state := .busy, pending := none, fn, tmps := a.tmps, params := ps, assign, body, defers := w.heap.size }))
    rw [← eB, hO]
    have ht2 := two_put (st' := .busy) (pe' := none) ht1
    refine wpIn_mono (hbody _ i a' _ hi ((hI i).put (by omega) _ hj1) (hAx i a' _ _ hax (Kept.put _ (by omega) _))) ?_
    have kp : ∀ {W3 : World} (o : Obj), Kept w.heap.size (W1.putObj (w.heap.size + 1) (R .busy none)) W3 → Kept V.heap.size W (W3.putObj (w.heap.size + 1) o) := fun o hk3 =>
      ((hk1.mono (by omega)).trans (Kept.put _ (by omega) _)).trans ((hk3.mono (by omega)).trans (Kept.put _ (by omega) _))
    have fin : ∀ (jump : Option Code) {W3 : World}, Kept w.heap.size (W1.putObj (w.heap.size + 1) (R .busy none)) W3 →
        (Instr.endRound (w.heap.size + 1) jump).run P W3 = .ok (.bool jump.isNone) (W3.putObj (w.heap.size + 1) (R (if jump.isNone then .ready else .done) jump)) ∧ Two .busy none W3 := by
      intro jump W3 hk3
      have ht3 := two_kept ht2 hk3
      have hl3 := ht3
      rw [hTwo, hR] at hl3
      have := run_endRound (P := P) jump hl3.1
      rw [hR]
      exact ⟨this, ht3⟩
    intro e a3 W3 hp
    cases e with
    | normal =>
      obtain ⟨hk3, hi3⟩ := hp
      obtain ⟨he, ht3⟩ := fin none hk3
      exact ⟨_, _, he, .inl ⟨rfl, ⟨(hI _).put (by omega) _ hi3, two_put ht3, Nat.le_trans hW (kp _ hk3).size⟩, kp _ hk3⟩⟩
    | ret =>
      obtain ⟨hk3, hi3⟩ := hp
      obtain ⟨he, ht3⟩ := fin (some .ret) hk3
      exact ⟨_, _, he, .inr ⟨rfl, hIx.put (by omega) _ hi3, two_put ht3⟩⟩
    | exit _ => exact hp.elim
    | goto _ => exact hp.elim
    | panic _ => exact hp.elim
    | outgrown => exact hp.elim
  · refine ⟨?_, two0, Nat.le_refl _⟩
    rw [← hV]
    exact (hI 0).alloc _ ((hI 0).alloc _ h0)
  · -- behind the iterator
    rintro e W2 ⟨⟨v, rfl⟩, ⟨hi, ht, _⟩ | ⟨hi, ht⟩⟩
    · have hl := ht
      rw [hTwo, hR] at hl
      refine ⟨none, _, run_endLoop hl.1 (by simp), ?_⟩
      have ht' := two_put (st' := .done) (pe' := none) ht
      rw [hTwo] at ht'
      exact hdone _ _ (Nat.le_refl _) ((hI N).put (by omega) _ hi) ((World.putObj_heap_other (by omega)).trans hl.2)
    · have hl := ht
      rw [hTwo, hR] at hl
      refine ⟨some .ret, _, run_endLoop hl.1 (by simp), ?_⟩
      exact hstop _ _ (Nat.le_refl _) (hIx.put (by omega) _ hi) ((World.putObj_heap_other (by omega)).trans hl.2)
end Go.Proofs.YtimhemcoflpmcaaGreatDoor.Rf
end
