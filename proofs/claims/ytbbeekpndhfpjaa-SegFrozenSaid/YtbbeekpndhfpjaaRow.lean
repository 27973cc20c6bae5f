/- Rows of whole numbers in memory, for every package: what stands at a block, and what stays there; rows loaded, stored, compared, written out; numbers out of rows. -/
import Derived.Test.YtbbeekpndhfpjaaRows
import Derived.WalkKit
import Derived.ProofKit
import Derived.OpenShut
import Derived.IntWalk
import Derived.Lib.Hide
import Derived.Laws.Rows
import Derived.Deep.WholeRow
import Derived.Deep.QuietTactic
import Derived.BigQuiet
import Derived.Deep.RegionHeld3
import Derived.Deep.MidRow
import Derived.Laws.StructEq
import Derived.Laws.Tables
import Derived.Carry
import Derived.ChangeSame
set_option maxRecDepth 100000
namespace Go.Proofs.Ytbbeekpndhfpjaa.Row
open Go.ChangeShapes Go.WideShapes Go.ChangeAt Go.RowKit

theorem ret_int {k : IntKind} {a b : Int} (h : a = b) : Ending.returned (.int k a) = .returned (.int k b) := by rw [h]
theorem ret_bool {a b : Bool} (h : a = b) : Ending.returned (.bool a) = .returned (.bool b) := by rw [h]

/-- A row of m numbers: the first n are f's, the others 0. -/
def rowL (m : Nat) (f : Nat → Int) (n : Nat) : Array Value := Array.ofFn (n := m) fun i => Value.int .i64 (if i.val < n then f i.val else 0)

theorem rowL_size (m : Nat) (f : Nat → Int) (n : Nat) : (rowL m f n).size = m := by unfold rowL; exact Array.size_ofFn

theorem rowL_get (m : Nat) (f : Nat → Int) (n k : Nat) (hk : k < m) : (rowL m f n)[k]? = some (Value.int .i64 (if k < n then f k else 0)) := by
  unfold rowL
  rw [Array.getElem?_ofFn, dif_pos hk]

theorem rowL_next (m : Nat) (f : Nat → Int) (k : Nat) (hk : k < m) : (rowL m f k).setIfInBounds k (.int .i64 (f k)) = rowL m f (k + 1) := by
  apply Array.ext_getElem?
  intro i
  by_cases hi : i < m
  · by_cases e : k = i
    · subst e
      rw [Array.getElem?_setIfInBounds_self_of_lt (by rw [rowL_size]; exact hk), rowL_get _ _ _ _ hk, if_pos (by omega)]
    · rw [Array.getElem?_setIfInBounds_ne e, rowL_get _ _ _ _ hi, rowL_get _ _ _ _ hi]
      by_cases h : i < k
      · rw [if_pos h, if_pos (by omega)]
      · rw [if_neg h, if_neg (by omega)]
  · rw [Array.getElem?_eq_none (by rw [Array.size_setIfInBounds, rowL_size]; omega), Array.getElem?_eq_none (by rw [rowL_size]; omega)]

theorem rowL_one (m : Nat) (f : Nat → Int) (n : Nat) : (rowL m f n).all (·.oneCell') = true := by
  rw [Array.all_eq_true]
  intro i hi
  rw [rowL_size] at hi
  have := rowL_get m f n i hi
  rw [Array.getElem?_eq_getElem (by rw [rowL_size]; exact hi)] at this
  injection this with this
  rw [this]
  rfl

theorem below_setRow {w w' : World} (h : Below w.heap.size w w') (cs : Array Value) : Below w.heap.size w (w'.setRow w.heap.size cs) :=
  ⟨h.os, h.tape, h.output, by rw [size_setRow]; exact h.size, fun k hk => (setRow_other w' w.heap.size k cs (by omega)).trans (h.block k hk)⟩

theorem row_of0 (m : Nat) (f : Nat → Int) : rowL m f 0 = Array.replicate m (.int .i64 0) := by
  apply Array.ext_getElem?
  intro i
  by_cases hi : i < m
  · rw [rowL_get _ _ _ _ hi, if_neg (by omega), Array.getElem?_replicate, if_pos hi]
  · rw [Array.getElem?_eq_none (by rw [rowL_size]; omega), Array.getElem?_eq_none (by simp; omega)]


/-- At block b stands the row A. -/
def At (w : World) (b : Nat) (A : Array Value) (t : TypeId) : Prop := w.heap[b]? = some (.cells A t (0, 0))

theorem At.lt {w : World} {b : Nat} {A : Array Value} {t : TypeId} (h : At w b A t) : b < w.heap.size := by
  unfold At at h
  exact (Array.getElem?_eq_some_iff.1 h).1
theorem At.new (w : World) (A : Array Value) (t : TypeId) : At (w.alloc (.cells A t)) w.heap.size A t := heap_alloc_new _ _
theorem At.alloc {w : World} {b : Nat} {A : Array Value} {t : TypeId} (h : At w b A t) (o : Obj) : At (w.alloc o) b A t := (heap_alloc_old _ _ h.lt).trans h
theorem At.below {B : Nat} {w w' : World} {b : Nat} {A : Array Value} {t : TypeId} (h : At w b A t) (hb : Below B w w') (hl : b < B) : At w' b A t := (hb.block b hl).trans h
theorem At.setRow {w : World} {b : Nat} {A C : Array Value} {t : TypeId} (h : At w b A t) : At (w.setRow b C) b C t := setRow_heap _ _ _ _ _ _ h
theorem At.setRow_other {w : World} {b g : Nat} {A C : Array Value} {t : TypeId} (h : At w b A t) (hg : b ≠ g) : At (w.setRow g C) b A t := (Go.setRow_other _ _ _ _ hg).trans h
theorem At.setCell {w : World} {b i : Nat} {A : Array Value} {t : TypeId} {v : Value} (h : At w b A t) : At (w.setCell ⟨b, i, none⟩ v) b (A.setIfInBounds i v) t := heap_setCell_same _ _ _ _ _ _ h
theorem At.setCell_other {w : World} {b : Nat} {A : Array Value} {t : TypeId} {a : Addr} {v : Value} (h : At w b A t) (hg : b ≠ a.block) : At (w.setCell a v) b A t := (heap_setCell_other _ _ _ _ hg).trans h
theorem At.drewN {w : World} {b : Nat} {A : Array Value} {t : TypeId} (h : At w b A t) (n : Nat) : At (w.drewN n) b A t := h
theorem At.frozen {w : World} {b : Nat} {A : Array Value} {t : TypeId} (h : At w b A t) (j : Nat) : w.frozen? ⟨b, j, none⟩ = false := frozen_of_row _ _ _ _ _ h

/-- A is a row of m numbers: f's. -/
def IsRow (m : Nat) (f : Nat → Int) (T : Array Value) : Prop := T.size = m ∧ T.all (·.oneCell') = true ∧ ∀ k, k < m → T[k]? = some (.int .i64 (f k))

theorem isRow (m : Nat) (f : Nat → Int) : IsRow m f (rowL m f m) := ⟨rowL_size _ _ _, rowL_one _ _ _, fun k hk => by rw [rowL_get _ _ _ _ hk, if_pos hk]⟩
theorem IsRow.ext {m : Nat} {f g : Nat → Int} {T : Array Value} (h : IsRow m f T) (e : ∀ k, k < m → f k = g k) : IsRow m g T := ⟨h.1, h.2.1, fun k hk => by rw [← e k hk]; exact h.2.2 k hk⟩
theorem IsRow.eq {m : Nat} {f g : Nat → Int} {T U : Array Value} (h : IsRow m f T) (h' : IsRow m g U) (e : ∀ k, k < m → f k = g k) : T = U := by
  apply Array.ext_getElem?
  intro i
  by_cases hi : i < m
  · rw [h.2.2 i hi, h'.2.2 i hi, e i hi]
  · rw [Array.getElem?_eq_none (by rw [h.1]; omega), Array.getElem?_eq_none (by rw [h'.1]; omega)]
theorem IsRow.at {m : Nat} {f : Nat → Int} {T : Array Value} (h : IsRow m f T) : T = rowL m f m := h.eq (isRow m f) fun _ _ => rfl
theorem IsRow.cell {w : World} {g m : Nat} {f : Nat → Int} {T : Array Value} {t : TypeId} (hT : IsRow m f T) (h : At w g T t) (k : Nat) (hk : k < m) : w.cell? ⟨g, k, none⟩ = some (.int .i64 (f k)) := by
  rw [cell_of_row _ _ k _ _ _ h, hT.2.2 k hk]
theorem rowL_cell {w : World} {g m n : Nat} {f : Nat → Int} {t : TypeId} (h : At w g (rowL m f n) t) (k : Nat) (hk : k < m) : w.cell? ⟨g, k, none⟩ = some (.int .i64 (if k < n then f k else 0)) := by
  rw [cell_of_row _ _ k _ _ _ h, rowL_get _ _ _ _ hk]
theorem At.put {w : World} {b m k : Nat} {f : Nat → Int} {t : TypeId} (h : At w b (rowL m f k) t) (hk : k < m) : At (w.setCell ⟨b, k, none⟩ (.int .i64 (f k))) b (rowL m f (k + 1)) t := by
  rw [← rowL_next m f k hk]; exact h.setCell

theorem below_drewN {B : Nat} {w0 w : World} (h : Below B w0 w) (k : Nat) : Below B w0 (w.drewN k) := ⟨h.os, h.tape, h.output, h.size, h.block⟩
theorem below_setRow' {B b : Nat} {w w' : World} (h : Below B w w') (hb : B ≤ b) (cs : Array Value) : Below B w (w'.setRow b cs) :=
  ⟨h.os, h.tape, h.output, by rw [size_setRow]; exact h.size, fun k hk => (Go.setRow_other w' b k cs (by omega)).trans (h.block k hk)⟩
theorem below_trans {B : Nat} {w w1 w2 : World} (h : Below B w w1) (h2 : Below w1.heap.size w1 w2) (hB : B ≤ w1.heap.size) : Below B w w2 :=
  ⟨h2.os.trans h.os, h2.tape.trans h.tape, h2.output.trans h.output, Nat.le_trans h.size h2.size, fun k hk => (h2.block k (by omega)).trans (h.block k hk)⟩

/-- The zero value of a row's type, and its size, of one closed fact. -/
theorem zero_row {t : TypeId} {m : Nat} (h : (Try.prog.info? t).map (fun i => (i.zero, i.size)) = some (some (.agg (Array.replicate m (.int .i64 0))), m)) :
    ∃ Z, IsRow m (fun _ => 0) Z ∧ (∀ f, rowL m f 0 = Z) ∧ (∀ w, (zeroValue t).run Try.prog w = .ok (.agg Z) w) ∧ ∀ A : Array Value, A.size = m → (Try.prog.info? t).map (·.size) = some A.size := by
  obtain ⟨h1, h2⟩ := zero_of_info h
  refine ⟨_, ?_, row_of0 m, h1, fun A hA => by rw [h2, hA]⟩
  rw [← row_of0 m (fun _ => 0)]
  refine ⟨rowL_size _ _ _, rowL_one _ _ _, fun k hk => ?_⟩
  rw [rowL_get _ _ _ _ hk]
  by_cases e : k < 0
  · omega
  · rw [if_neg e]

theorem cell_set_other (w : World) (a b : Addr) (v : Value) (h : b.block ≠ a.block) : (w.setCell a v).cell? b = w.cell? b := by
  unfold World.cell?
  rw [heap_setCell_other _ _ _ _ h]
theorem cells2 {w : World} {a p q : Addr} {v x y : Value} (h : w.cell? p = some x ∧ w.cell? q = some y) (hp : p.block ≠ a.block) (hq : q.block ≠ a.block) : (w.setCell a v).drew.cell? p = some x ∧ (w.setCell a v).drew.cell? q = some y :=
  ⟨(cell_set_other w a p v hp).trans h.1, (cell_set_other w a q v hq).trans h.2⟩

/-- A number out of a row by value. -/
theorem run_index {t : TypeId} {m k : Nat} {x : Int} {T : Array Value} (hu : Try.prog.underlying t = some (.array m 3)) (hk : k < m) (hc : T[k]? = some (.int .i64 x)) (w : World) :
    (Instr.index t (.agg T) (.int .i64 k)).run Try.prog w = .ok (.int .i64 x) w := by
  simp [Instr.index, run_underlying hu, asIntOf, hk, hc, go_sem]

theorem first_bad {n : Nat} {P : Nat → Prop} (h : ¬ ∀ i, i < n → P i) : ∃ j, j < n ∧ ¬ P j ∧ ∀ i, i < j → P i := by
  induction n with
  | zero => exact absurd (fun i hi => absurd hi (Nat.not_lt_zero i)) h
  | succ n ih =>
    by_cases hn : ∀ i, i < n → P i
    · refine ⟨n, by omega, fun hp => h fun i hi => ?_, hn⟩
      by_cases e : i = n
      · subst e; exact hp
      · exact hn i (by omega)
    · obtain ⟨j, h1, h2, h3⟩ := ih hn
      exact ⟨j, by omega, h2, h3⟩

theorem IsRow.set {m k : Nat} {f : Nat → Int} {T : Array Value} (h : IsRow m f T) (x : Int) (hk : k < m) : IsRow m (fun i => if i = k then x else f i) (T.setIfInBounds k (.int .i64 x)) := by
  obtain ⟨h1, h2, h3⟩ := h
  refine ⟨by rw [Array.size_setIfInBounds, h1], ?_, fun i hi => ?_⟩
  · rw [Array.all_eq_true] at h2 ⊢
    intro i hi
    rw [Array.size_setIfInBounds] at hi
    by_cases e : k = i
    · subst e; rw [Array.getElem_setIfInBounds_self]; rfl
    · rw [Array.getElem_setIfInBounds_ne hi e]; exact h2 i hi
  · by_cases e : k = i
    · subst e
      show _ = some (Value.int .i64 (if k = k then x else f k))
      rw [if_pos rfl, Array.getElem?_setIfInBounds_self_of_lt (by omega)]
    · show _ = some (Value.int .i64 (if i = k then x else f i))
      rw [if_neg (by omega), Array.getElem?_setIfInBounds_ne e]; exact h3 i hi

theorem quiet_int {f : FuncId} {xs : Array Value} {w0 : World} {n : Nat} {c : Int}
    (h : Calls Try.prog f xs (w0.drewN n) fun e w' => e = .returned (.int .i64 c) ∧ w0.drewN n = w') :
    Calls Try.prog f xs (w0.drewN n) fun e w' => e = .returned (.int .i64 c) ∧ ∃ m, w' = w0.drewN m :=
  h.mono fun _ _ ⟨he, hw⟩ => ⟨he, n, hw.symm⟩

/-- A whole row out of its block. -/
theorem run_load {t : TypeId} {w : World} {g m : Nat} {e t' : TypeId} {A : Array Value} (hu : Try.prog.underlying t = some (.array m e)) (hA : At w g A t') (hi : (Try.prog.info? t).map (·.size) = some A.size) :
    (Instr.loadAt t (.pointer (some ⟨g, 0, none⟩))).run Try.prog w = .ok (.agg A) w := by
  simp only [Instr.loadAt, Instr.sureAddr, Sem.run_bind, Sem.run_pure, Result.andThen]
  exact run_loadVar_row w g t' t A (0, 0) _ hA hu rfl hi

/-- The same in a region, whether guarded or not. -/
theorem wpList_load_wanted {ops : Array Oper} {rest : List Oper} {o : Oper} {a : Act} {w : World} {Q : Exit → Act → World → Prop} (hw : Region.wanted o (yielded ops a.tmps) = true) (ty : TypeId) (x : Operand) (ho : o.op = .load ty x)
    (g : Nat) (hx : a.eval x = .pointer (some ⟨g, 0, none⟩)) (t : TypeId) (cs : Array Value) (m : Nat) (e : TypeId) (hg : At w g cs t)
    (hu : Try.prog.underlying ty = some (.array m e)) (hi : (Try.prog.info? ty).map (·.size) = some cs.size)
    (h : wpList Try.prog ops Q rest (a.put o.dst (.agg cs)) w) : wpList Try.prog ops Q (o :: rest) a w := by
  rw [wpList, if_pos hw]
  exact .inl (wp_load_row ty x ho g hx t cs (0, 0) _ hg hu rfl hi h)

/-- A whole row loaded in a region that draws its order. -/
theorem yields_load {ops : Array Oper} {S : World → Prop} {op : Oper} {a : Act} (hw : Region.wanted op (yielded ops a.tmps) = true) (ty : TypeId) (x : Operand) (ho : op.op = .load ty x)
    (b : Nat) (hx : a.eval x = .pointer (some ⟨b, 0, none⟩)) (A : Array Value) (m : Nat) (e : TypeId) (hS : ∀ w, S w → At w b A ty)
    (hu : Try.prog.underlying ty = some (.array m e)) (hi : (Try.prog.info? ty).map (·.size) = some A.size) : YieldsIf Try.prog ops S op (.agg A) a :=
  .inl ⟨hw, fun w hw' => by
    unfold execOp
    simp only [ho, hx, run_load hu (hS w hw') hi, Sem.run_bind, Sem.run_pure, Result.andThen_ok]⟩

/-- Two results that are rows. -/
theorem results_rows {fn : Func} {p q : Tmp} {t : TypeId} (h : fn.results = #[.cell p t, .cell q t]) (tmps : Array Value) (w : World) (g k : Nat) (A B : Array Value) (m : Nat) (e : TypeId)
    (hp : tmps.getD p undef = .pointer (some ⟨g, 0, none⟩)) (hq : tmps.getD q undef = .pointer (some ⟨k, 0, none⟩)) (hg : At w g A t) (hk : At w k B t)
    (hu : Try.prog.underlying t = some (.array m e)) (hA : (Try.prog.info? t).map (·.size) = some A.size) (hB : (Try.prog.info? t).map (·.size) = some B.size) :
    (results fn tmps).run Try.prog w = .ok (.tuple #[.agg A, .agg B]) w := by
  have hp' : tmps[p]?.getD undef = .pointer (some ⟨g, 0, none⟩) := by simpa using hp
  have hq' : tmps[q]?.getD undef = .pointer (some ⟨k, 0, none⟩) := by simpa using hq
  have h1 := run_loadVar_row w g t t A (0, 0) _ hg hu rfl hA
  have h2 := run_loadVar_row w k t t B (0, 0) _ hk hu rfl hB
  simp [results, h, hp', hq', asAddr, h1, h2]

theorem sizeOf_int (w : World) : (sizeOf 3).run Try.prog w = .ok 1 w := by
  have h : (Try.prog.info? 3).map (·.size) = some 1 := by kernel_rfl
  cases hi : Try.prog.info? 3 with
  | none => rw [hi] at h; cases h
  | some i =>
    rw [hi] at h
    injection h with h
    simp [sizeOf, typeInfo, hi, h]

theorem part_int {T : Array Value} {i : Nat} {x : Int} (h : T[i]? = some (.int .i64 x)) (w : World) : (part 3 T (i * 1)).run Try.prog w = .ok (.int .i64 x) w := by
  simp [part, isAgg, run_underlying Try.underlying3, h]

/-- Rows compared, number by number. -/
theorem run_rows {t : TypeId} {m d : Nat} {f g : Nat → Int} {T U : Array Value} (hu : Try.prog.underlying t = some (.array m 3)) (hT : IsRow m f T) (hU : IsRow m g U) (w : World) :
    (Op.equalIn (d + 2) t (.agg T) (.agg U)).run Try.prog w = .ok ((List.range' 0 m 1).all fun i => f i == g i) w := by
  rw [Op.equalIn]
  simp only [Sem.run_bind, run_underlying hu, Result.andThen_ok, sizeOf_int, Std.Legacy.Range.forIn_eq_forIn_range', Std.Legacy.Range.size, Nat.sub_zero, Nat.add_sub_cancel, Nat.div_one]
  have hl : ∀ i ∈ List.range' 0 m 1, i < m := fun i hi => by simpa using (List.mem_range'_1.1 hi).2
  generalize List.range' 0 m 1 = l at hl ⊢
  induction l with
  | nil => simp
  | cons i l ih =>
    have hi : i < m := hl i (by simp)
    have pe : (Op.equalIn (d + 1) 3 (.int .i64 (f i)) (.int .i64 (g i))).run Try.prog w = .ok (f i == g i) w := run_equalIn_int w d _ .i64 .i64 _ _ Try.underlying3
    simp only [List.forIn_cons, Sem.run_bind, part_int (hT.2.2 i hi), part_int (hU.2.2 i hi), pe, Result.andThen_ok, List.all_cons]
    cases hb : (f i == g i)
    · simp
    · simp only [Bool.not_true, Bool.false_eq_true, if_false, Sem.run_pure, Result.andThen_ok, Bool.true_and]
      exact ih fun j hj => hl j (by simp [hj])

theorem rows_eq {m : Nat} {f g : Nat → Int} {T U : Array Value} (hT : IsRow m f T) (hU : IsRow m g U) (h : ∀ i, i < m → f i = g i) {t : TypeId} (hu : Try.prog.underlying t = some (.array m 3)) (w : World) :
    (Op.equalIn 10000 t (.agg T) (.agg U)).run Try.prog w = .ok true w := by
  rw [run_rows (d := 9998) hu hT hU w]
  congr 1
  rw [List.all_eq_true]
  intro i hi
  rw [beq_iff_eq]
  exact h i (by simpa using (List.mem_range'_1.1 hi).2)
theorem rows_ne {m : Nat} {f g : Nat → Int} {T U : Array Value} (hT : IsRow m f T) (hU : IsRow m g U) (i : Nat) (hi : i < m) (h : f i ≠ g i) {t : TypeId} (hu : Try.prog.underlying t = some (.array m 3)) (w : World) :
    (Op.equalIn 10000 t (.agg T) (.agg U)).run Try.prog w = .ok false w := by
  rw [run_rows (d := 9998) hu hT hU w]
  congr 1
  rw [List.all_eq_false]
  exact ⟨i, by simpa using hi, by simpa using h⟩

/-- A row written out. -/
theorem wpList_build_wanted {ops : Array Oper} {rest : List Oper} {o : Oper} {a : Act} {w : World} {Q : Exit → Act → World → Prop} (hw : Region.wanted o (yielded ops a.tmps) = true) (t : TypeId) (parts : Array (Nat × Operand)) (ho : o.op = .build t parts)
    (C : Array Value) (hc : Try.prog.built t (parts.map fun (i, x) => (i, a.eval x)).toList = some C)
    (h : wpList Try.prog ops Q rest (a.put o.dst (.agg C)) w) : wpList Try.prog ops Q (o :: rest) a w := by
  rw [wpList, if_pos hw]
  refine .inl (wp_build t parts ho (by rw [hc]; rfl) ?_)
  rw [hc]
  exact h

theorem isRow_zero (m : Nat) : IsRow m (fun _ => 0) (Array.replicate m (.int .i64 0)) := by
  rw [← row_of0 m (fun _ => 0)]
  refine ⟨rowL_size _ _ _, rowL_one _ _ _, fun k hk => ?_⟩
  rw [rowL_get _ _ _ _ hk]
  by_cases e : k < 0
  · omega
  · rw [if_neg e]

def intsOf (T : Array Value) (k : Nat) : Int := match T[k]? with
  | some (.int _ x) => x
  | _ => 0

theorem mapM_each {α β : Type} {g : α → Option β} : ∀ {L : List α} {ys : List β}, L.mapM g = some ys → ∀ i ∈ L, ∃ y, g i = some y
  | [], _, _, _, hi => by cases hi
  | j :: L, ys, h, i, hi => by
    rw [List.mapM_cons] at h
    simp only [bind, Option.bind_eq_some_iff, pure, Option.some.injEq] at h
    obtain ⟨y, hy, zs, hz, rfl⟩ := h
    rcases List.mem_cons.1 hi with rfl | hi
    · exact ⟨y, hy⟩
    · exact mapM_each hz i hi

theorem open_row {H : Type} {enc : TypeId × Value → H} {W : World} {r : Reach} {base b0 : Nat} {sp : Nat → Bool} {held : Bool} {t e : TypeId} {m : Nat} {v : Value} {d : DataW H} {ps : List MemPlace}
    (hu : Try.prog.underlying t = some (.array m e)) (he : Try.prog.underlying e = some (.int .i64)) (hc : Try.prog.cellsOf e = 1) (hm : Try.prog.cellsOf t = m)
    (hok : Value.okWide Try.prog W r b0 t v) (h : DataW.Trod enc Try.prog W base sp held t v d ps) :
    ∃ T : Array Value, v = .agg T ∧ IsRow m (intsOf T) T ∧ ∀ k, k < m → (Lit.int .i64 (intsOf T k)).wf = true := by
  simp only [Value.okWide, hu] at hok
  obtain ⟨T, rfl, hs, _⟩ := hok
  rw [hm] at hs
  have key : ∀ k, k < m → ∃ x : Int, T[k]? = some (.int .i64 x) ∧ (Lit.int .i64 x).wf = true := by
    obtain ⟨fuel, hf⟩ := h
    cases fuel with
    | zero => simp [DataW.trod] at hf
    | succ n =>
      rw [DataW.trod_step] at hf
      unfold DataW.trodStep at hf
      simp only [hu, Value.cells] at hf
      rw [if_pos (by rw [hm]; simpa using hs)] at hf
      simp only [Option.map_eq_some_iff] at hf
      obtain ⟨ys, hy, _⟩ := hf
      intro k hk
      obtain ⟨y, hy⟩ := mapM_each hy k (by simpa using hk)
      obtain ⟨x, ex, _, wx⟩ := DataW.trod_int he hy
      refine ⟨x, ?_, wx⟩
      rw [hc, Nat.mul_one] at ex
      have : (T.toList.drop k)[0]? = some (.int .i64 x) := by
        have h2 : ((T.toList.drop k).take 1)[0]? = some (.int .i64 x) := by rw [ex]; rfl
        rw [List.getElem?_take_of_lt (by omega)] at h2
        exact h2
      simpa using this
  have hi : ∀ k, k < m → T[k]? = some (.int .i64 (intsOf T k)) ∧ (Lit.int .i64 (intsOf T k)).wf = true := fun k hk => by
    obtain ⟨x, hx, wx⟩ := key k hk
    have : intsOf T k = x := by unfold intsOf; rw [hx]
    rw [this]
    exact ⟨hx, wx⟩
  refine ⟨T, rfl, ⟨hs, ?_, fun k hk => (hi k hk).1⟩, fun k hk => (hi k hk).2⟩
  rw [Array.all_eq_true]
  intro i hi'
  have := (hi i (by omega)).1
  rw [Array.getElem?_eq_getElem hi'] at this
  injection this with this
  rw [this]
  rfl
end Go.Proofs.Ytbbeekpndhfpjaa.Row
