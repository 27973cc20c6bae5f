/- Texts of the walk, one behind the other. -/
import Derived.Test.YtfohinlldchdpaaGreatDoorRows
import Derived.WalkKit
import Derived.ProofKit
import Derived.OpenShut
import Derived.IntWalk
import Derived.Lib.Hide
import Derived.Laws.Rows
import Derived.Deep.WholeRow
import Derived.Deep.QuietTactic
import Derived.BigQuiet
import Derived.Deep.RegionHeld3
import Derived.Deep.MidRow
import Derived.Laws.StructEq
import Derived.Laws.Tables
import Derived.Carry
import Derived.ChangeSame
import Derived.ChangeArms

section
/- Rows of whole numbers in memory, for every package: what stands at a block, and what stays there; rows loaded, stored, compared, written out; numbers out of rows. -/
set_option maxRecDepth 100000
namespace Go.Proofs.YtfohinlldchdpaaGreatDoor.Row
open Go.ChangeShapes Go.WideShapes Go.ChangeAt Go.RowKit

theorem ret_int {k : IntKind} {a b : Int} (h : a = b) : Ending.returned (.int k a) = .returned (.int k b) := by rw [h]
theorem ret_bool {a b : Bool} (h : a = b) : Ending.returned (.bool a) = .returned (.bool b) := by rw [h]

/-- A row of m numbers: the first n are f's, the others 0. -/
def rowL (m : Nat) (f : Nat → Int) (n : Nat) : Array Value := Array.ofFn (n := m) fun i => Value.int .i64 (if i.val < n then f i.val else 0)

theorem rowL_size (m : Nat) (f : Nat → Int) (n : Nat) : (rowL m f n).size = m := by unfold rowL; exact Array.size_ofFn

theorem rowL_get (m : Nat) (f : Nat → Int) (n k : Nat) (hk : k < m) : (rowL m f n)[k]? = some (Value.int .i64 (if k < n then f k else 0)) := by
  unfold rowL
  rw [Array.getElem?_ofFn, dif_pos hk]

theorem rowL_next (m : Nat) (f : Nat → Int) (k : Nat) (hk : k < m) : (rowL m f k).setIfInBounds k (.int .i64 (f k)) = rowL m f (k + 1) := by
  apply Array.ext_getElem?
  intro i
  by_cases hi : i < m
  · by_cases e : k = i
    · subst e
      rw [Array.getElem?_setIfInBounds_self_of_lt (by rw [rowL_size]; exact hk), rowL_get _ _ _ _ hk, if_pos (by omega)]
    · rw [Array.getElem?_setIfInBounds_ne e, rowL_get _ _ _ _ hi, rowL_get _ _ _ _ hi]
      by_cases h : i < k
      · rw [if_pos h, if_pos (by omega)]
      · rw [if_neg h, if_neg (by omega)]
  · rw [Array.getElem?_eq_none (by rw [Array.size_setIfInBounds, rowL_size]; omega), Array.getElem?_eq_none (by rw [rowL_size]; omega)]

theorem rowL_one (m : Nat) (f : Nat → Int) (n : Nat) : (rowL m f n).all (·.oneCell') = true := by
  rw [Array.all_eq_true]
  intro i hi
  rw [rowL_size] at hi
  have := rowL_get m f n i hi
  rw [Array.getElem?_eq_getElem (by rw [rowL_size]; exact hi)] at this
  injection this with this
  rw [this]
  rfl

theorem below_setRow {w w' : World} (h : Below w.heap.size w w') (cs : Array Value) : Below w.heap.size w (w'.setRow w.heap.size cs) :=
  ⟨h.os, h.tape, h.output, by rw [size_setRow]; exact h.size, fun k hk => (setRow_other w' w.heap.size k cs (by omega)).trans (h.block k hk)⟩

theorem row_of0 (m : Nat) (f : Nat → Int) : rowL m f 0 = Array.replicate m (.int .i64 0) := by
  apply Array.ext_getElem?
  intro i
  by_cases hi : i < m
  · rw [rowL_get _ _ _ _ hi, if_neg (by omega), Array.getElem?_replicate, if_pos hi]
  · rw [Array.getElem?_eq_none (by rw [rowL_size]; omega), Array.getElem?_eq_none (by simp; omega)]


/-- At block b stands the row A. -/
def At (w : World) (b : Nat) (A : Array Value) (t : TypeId) : Prop := w.heap[b]? = some (.cells A t (0, 0))

theorem At.lt {w : World} {b : Nat} {A : Array Value} {t : TypeId} (h : At w b A t) : b < w.heap.size := by
  unfold At at h
  exact (Array.getElem?_eq_some_iff.1 h).1
theorem At.new (w : World) (A : Array Value) (t : TypeId) : At (w.alloc (.cells A t)) w.heap.size A t := heap_alloc_new _ _
theorem At.alloc {w : World} {b : Nat} {A : Array Value} {t : TypeId} (h : At w b A t) (o : Obj) : At (w.alloc o) b A t := (heap_alloc_old _ _ h.lt).trans h
theorem At.below {B : Nat} {w w' : World} {b : Nat} {A : Array Value} {t : TypeId} (h : At w b A t) (hb : Below B w w') (hl : b < B) : At w' b A t := (hb.block b hl).trans h
theorem At.setRow {w : World} {b : Nat} {A C : Array Value} {t : TypeId} (h : At w b A t) : At (w.setRow b C) b C t := setRow_heap _ _ _ _ _ _ h
theorem At.setRow_other {w : World} {b g : Nat} {A C : Array Value} {t : TypeId} (h : At w b A t) (hg : b ≠ g) : At (w.setRow g C) b A t := (Go.setRow_other _ _ _ _ hg).trans h
theorem At.setCell {w : World} {b i : Nat} {A : Array Value} {t : TypeId} {v : Value} (h : At w b A t) : At (w.setCell ⟨b, i, none⟩ v) b (A.setIfInBounds i v) t := heap_setCell_same _ _ _ _ _ _ h
theorem At.setCell_other {w : World} {b : Nat} {A : Array Value} {t : TypeId} {a : Addr} {v : Value} (h : At w b A t) (hg : b ≠ a.block) : At (w.setCell a v) b A t := (heap_setCell_other _ _ _ _ hg).trans h
theorem At.drewN {w : World} {b : Nat} {A : Array Value} {t : TypeId} (h : At w b A t) (n : Nat) : At (w.drewN n) b A t := h
theorem At.frozen {w : World} {b : Nat} {A : Array Value} {t : TypeId} (h : At w b A t) (j : Nat) : w.frozen? ⟨b, j, none⟩ = false := frozen_of_row _ _ _ _ _ h

/-- A is a row of m numbers: f's. -/
def IsRow (m : Nat) (f : Nat → Int) (T : Array Value) : Prop := T.size = m ∧ T.all (·.oneCell') = true ∧ ∀ k, k < m → T[k]? = some (.int .i64 (f k))

theorem isRow (m : Nat) (f : Nat → Int) : IsRow m f (rowL m f m) := ⟨rowL_size _ _ _, rowL_one _ _ _, fun k hk => by rw [rowL_get _ _ _ _ hk, if_pos hk]⟩
theorem IsRow.ext {m : Nat} {f g : Nat → Int} {T : Array Value} (h : IsRow m f T) (e : ∀ k, k < m → f k = g k) : IsRow m g T := ⟨h.1, h.2.1, fun k hk => by rw [← e k hk]; exact h.2.2 k hk⟩
theorem IsRow.eq {m : Nat} {f g : Nat → Int} {T U : Array Value} (h : IsRow m f T) (h' : IsRow m g U) (e : ∀ k, k < m → f k = g k) : T = U := by
  apply Array.ext_getElem?
  intro i
  by_cases hi : i < m
  · rw [h.2.2 i hi, h'.2.2 i hi, e i hi]
  · rw [Array.getElem?_eq_none (by rw [h.1]; omega), Array.getElem?_eq_none (by rw [h'.1]; omega)]
theorem IsRow.at {m : Nat} {f : Nat → Int} {T : Array Value} (h : IsRow m f T) : T = rowL m f m := h.eq (isRow m f) fun _ _ => rfl
theorem IsRow.cell {w : World} {g m : Nat} {f : Nat → Int} {T : Array Value} {t : TypeId} (hT : IsRow m f T) (h : At w g T t) (k : Nat) (hk : k < m) : w.cell? ⟨g, k, none⟩ = some (.int .i64 (f k)) := by
  rw [cell_of_row _ _ k _ _ _ h, hT.2.2 k hk]
theorem rowL_cell {w : World} {g m n : Nat} {f : Nat → Int} {t : TypeId} (h : At w g (rowL m f n) t) (k : Nat) (hk : k < m) : w.cell? ⟨g, k, none⟩ = some (.int .i64 (if k < n then f k else 0)) := by
  rw [cell_of_row _ _ k _ _ _ h, rowL_get _ _ _ _ hk]
theorem At.put {w : World} {b m k : Nat} {f : Nat → Int} {t : TypeId} (h : At w b (rowL m f k) t) (hk : k < m) : At (w.setCell ⟨b, k, none⟩ (.int .i64 (f k))) b (rowL m f (k + 1)) t := by
  rw [← rowL_next m f k hk]; exact h.setCell

theorem below_drewN {B : Nat} {w0 w : World} (h : Below B w0 w) (k : Nat) : Below B w0 (w.drewN k) := ⟨h.os, h.tape, h.output, h.size, h.block⟩
theorem below_setRow' {B b : Nat} {w w' : World} (h : Below B w w') (hb : B ≤ b) (cs : Array Value) : Below B w (w'.setRow b cs) :=
  ⟨h.os, h.tape, h.output, by rw [size_setRow]; exact h.size, fun k hk => (Go.setRow_other w' b k cs (by omega)).trans (h.block k hk)⟩
theorem below_trans {B : Nat} {w w1 w2 : World} (h : Below B w w1) (h2 : Below w1.heap.size w1 w2) (hB : B ≤ w1.heap.size) : Below B w w2 :=
  ⟨h2.os.trans h.os, h2.tape.trans h.tape, h2.output.trans h.output, Nat.le_trans h.size h2.size, fun k hk => (h2.block k (by omega)).trans (h.block k hk)⟩

/-- The zero value of a row's type, and its size, of one closed fact. -/
theorem zero_row {t : TypeId} {m : Nat} (h : (Tryz.prog.info? t).map (fun i => (i.zero, i.size)) = some (some (.agg (Array.replicate m (.int .i64 0))), m)) :
    ∃ Z, IsRow m (fun _ => 0) Z ∧ (∀ f, rowL m f 0 = Z) ∧ (∀ w, (zeroValue t).run Tryz.prog w = .ok (.agg Z) w) ∧ ∀ A : Array Value, A.size = m → (Tryz.prog.info? t).map (·.size) = some A.size := by
  obtain ⟨h1, h2⟩ := zero_of_info h
  refine ⟨_, ?_, row_of0 m, h1, fun A hA => by rw [h2, hA]⟩
  rw [← row_of0 m (fun _ => 0)]
  refine ⟨rowL_size _ _ _, rowL_one _ _ _, fun k hk => ?_⟩
  rw [rowL_get _ _ _ _ hk]
  by_cases e : k < 0
  · omega
  · rw [if_neg e]

theorem cell_set_other (w : World) (a b : Addr) (v : Value) (h : b.block ≠ a.block) : (w.setCell a v).cell? b = w.cell? b := by
  unfold World.cell?
  rw [heap_setCell_other _ _ _ _ h]
theorem cells2 {w : World} {a p q : Addr} {v x y : Value} (h : w.cell? p = some x ∧ w.cell? q = some y) (hp : p.block ≠ a.block) (hq : q.block ≠ a.block) : (w.setCell a v).drew.cell? p = some x ∧ (w.setCell a v).drew.cell? q = some y :=
  ⟨(cell_set_other w a p v hp).trans h.1, (cell_set_other w a q v hq).trans h.2⟩

/-- A number out of a row by value. -/
theorem run_index {t : TypeId} {m k : Nat} {x : Int} {T : Array Value} (hu : Tryz.prog.underlying t = some (.array m 3)) (hk : k < m) (hc : T[k]? = some (.int .i64 x)) (w : World) :
    (Instr.index t (.agg T) (.int .i64 k)).run Tryz.prog w = .ok (.int .i64 x) w := by
  simp [Instr.index, run_underlying hu, asIntOf, hk, hc, go_sem]

theorem first_bad {n : Nat} {P : Nat → Prop} (h : ¬ ∀ i, i < n → P i) : ∃ j, j < n ∧ ¬ P j ∧ ∀ i, i < j → P i := by
  induction n with
  | zero => exact absurd (fun i hi => absurd hi (Nat.not_lt_zero i)) h
  | succ n ih =>
    by_cases hn : ∀ i, i < n → P i
    · refine ⟨n, by omega, fun hp => h fun i hi => ?_, hn⟩
      by_cases e : i = n
      · subst e; exact hp
      · exact hn i (by omega)
    · obtain ⟨j, h1, h2, h3⟩ := ih hn
      exact ⟨j, by omega, h2, h3⟩

theorem IsRow.set {m k : Nat} {f : Nat → Int} {T : Array Value} (h : IsRow m f T) (x : Int) (hk : k < m) : IsRow m (fun i => if i = k then x else f i) (T.setIfInBounds k (.int .i64 x)) := by
  obtain ⟨h1, h2, h3⟩ := h
  refine ⟨by rw [Array.size_setIfInBounds, h1], ?_, fun i hi => ?_⟩
  · rw [Array.all_eq_true] at h2 ⊢
    intro i hi
    rw [Array.size_setIfInBounds] at hi
    by_cases e : k = i
    · subst e; rw [Array.getElem_setIfInBounds_self]; rfl
    · rw [Array.getElem_setIfInBounds_ne hi e]; exact h2 i hi
  · by_cases e : k = i
    · subst e
      show _ = some (Value.int .i64 (if k = k then x else f k))
      rw [if_pos rfl, Array.getElem?_setIfInBounds_self_of_lt (by omega)]
    · show _ = some (Value.int .i64 (if i = k then x else f i))
      rw [if_neg (by omega), Array.getElem?_setIfInBounds_ne e]; exact h3 i hi

theorem quiet_int {f : FuncId} {xs : Array Value} {w0 : World} {n : Nat} {c : Int}
    (h : Calls Tryz.prog f xs (w0.drewN n) fun e w' => e = .returned (.int .i64 c) ∧ w0.drewN n = w') :
    Calls Tryz.prog f xs (w0.drewN n) fun e w' => e = .returned (.int .i64 c) ∧ ∃ m, w' = w0.drewN m :=
  h.mono fun _ _ ⟨he, hw⟩ => ⟨he, n, hw.symm⟩

/-- A whole row out of its block. -/
theorem run_load {t : TypeId} {w : World} {g m : Nat} {e t' : TypeId} {A : Array Value} (hu : Tryz.prog.underlying t = some (.array m e)) (hA : At w g A t') (hi : (Tryz.prog.info? t).map (·.size) = some A.size) :
    (Instr.loadAt t (.pointer (some ⟨g, 0, none⟩))).run Tryz.prog w = .ok (.agg A) w := by
  simp only [Instr.loadAt, Instr.sureAddr, Sem.run_bind, Sem.run_pure, Result.andThen]
  exact run_loadVar_row w g t' t A (0, 0) _ hA hu rfl hi

/-- The same in a region, whether guarded or not. -/
theorem wpList_load_wanted {ops : Array Oper} {rest : List Oper} {o : Oper} {a : Act} {w : World} {Q : Exit → Act → World → Prop} (hw : Region.wanted o (yielded ops a.tmps) = true) (ty : TypeId) (x : Operand) (ho : o.op = .load ty x)
    (g : Nat) (hx : a.eval x = .pointer (some ⟨g, 0, none⟩)) (t : TypeId) (cs : Array Value) (m : Nat) (e : TypeId) (hg : At w g cs t)
    (hu : Tryz.prog.underlying ty = some (.array m e)) (hi : (Tryz.prog.info? ty).map (·.size) = some cs.size)
    (h : wpList Tryz.prog ops Q rest (a.put o.dst (.agg cs)) w) : wpList Tryz.prog ops Q (o :: rest) a w := by
  rw [wpList, if_pos hw]
  exact .inl (wp_load_row ty x ho g hx t cs (0, 0) _ hg hu rfl hi h)

/-- A whole row loaded in a region that draws its order. -/
theorem yields_load {ops : Array Oper} {S : World → Prop} {op : Oper} {a : Act} (hw : Region.wanted op (yielded ops a.tmps) = true) (ty : TypeId) (x : Operand) (ho : op.op = .load ty x)
    (b : Nat) (hx : a.eval x = .pointer (some ⟨b, 0, none⟩)) (A : Array Value) (m : Nat) (e : TypeId) (hS : ∀ w, S w → At w b A ty)
    (hu : Tryz.prog.underlying ty = some (.array m e)) (hi : (Tryz.prog.info? ty).map (·.size) = some A.size) : YieldsIf Tryz.prog ops S op (.agg A) a :=
  .inl ⟨hw, fun w hw' => by
    unfold execOp
    simp only [ho, hx, run_load hu (hS w hw') hi, Sem.run_bind, Sem.run_pure, Result.andThen_ok]⟩

/-- Two results that are rows. -/
theorem results_rows {fn : Func} {p q : Tmp} {t : TypeId} (h : fn.results = #[.cell p t, .cell q t]) (tmps : Array Value) (w : World) (g k : Nat) (A B : Array Value) (m : Nat) (e : TypeId)
    (hp : tmps.getD p undef = .pointer (some ⟨g, 0, none⟩)) (hq : tmps.getD q undef = .pointer (some ⟨k, 0, none⟩)) (hg : At w g A t) (hk : At w k B t)
    (hu : Tryz.prog.underlying t = some (.array m e)) (hA : (Tryz.prog.info? t).map (·.size) = some A.size) (hB : (Tryz.prog.info? t).map (·.size) = some B.size) :
    (results fn tmps).run Tryz.prog w = .ok (.tuple #[.agg A, .agg B]) w := by
  have hp' : tmps[p]?.getD undef = .pointer (some ⟨g, 0, none⟩) := by simpa using hp
  have hq' : tmps[q]?.getD undef = .pointer (some ⟨k, 0, none⟩) := by simpa using hq
  have h1 := run_loadVar_row w g t t A (0, 0) _ hg hu rfl hA
  have h2 := run_loadVar_row w k t t B (0, 0) _ hk hu rfl hB
  simp [results, h, hp', hq', asAddr, h1, h2]

theorem sizeOf_int (w : World) : (sizeOf 3).run Tryz.prog w = .ok 1 w := by
  have h : (Tryz.prog.info? 3).map (·.size) = some 1 := by kernel_rfl
  cases hi : Tryz.prog.info? 3 with
  | none => rw [hi] at h; cases h
  | some i =>
    rw [hi] at h
    injection h with h
    simp [sizeOf, typeInfo, hi, h]

theorem part_int {T : Array Value} {i : Nat} {x : Int} (h : T[i]? = some (.int .i64 x)) (w : World) : (part 3 T (i * 1)).run Tryz.prog w = .ok (.int .i64 x) w := by
  simp [part, isAgg, run_underlying Tryz.underlying3, h]

/-- Rows compared, number by number. -/
theorem run_rows {t : TypeId} {m d : Nat} {f g : Nat → Int} {T U : Array Value} (hu : Tryz.prog.underlying t = some (.array m 3)) (hT : IsRow m f T) (hU : IsRow m g U) (w : World) :
    (Op.equalIn (d + 2) t (.agg T) (.agg U)).run Tryz.prog w = .ok ((List.range' 0 m 1).all fun i => f i == g i) w := by
  rw [Op.equalIn]
  simp only [Sem.run_bind, run_underlying hu, Result.andThen_ok, sizeOf_int, Std.Legacy.Range.forIn_eq_forIn_range', Std.Legacy.Range.size, Nat.sub_zero, Nat.add_sub_cancel, Nat.div_one]
  have hl : ∀ i ∈ List.range' 0 m 1, i < m := fun i hi => by simpa using (List.mem_range'_1.1 hi).2
  generalize List.range' 0 m 1 = l at hl ⊢
  induction l with
  | nil => simp
  | cons i l ih =>
    have hi : i < m := hl i (by simp)
    have pe : (Op.equalIn (d + 1) 3 (.int .i64 (f i)) (.int .i64 (g i))).run Tryz.prog w = .ok (f i == g i) w := run_equalIn_int w d _ .i64 .i64 _ _ Tryz.underlying3
    simp only [List.forIn_cons, Sem.run_bind, part_int (hT.2.2 i hi), part_int (hU.2.2 i hi), pe, Result.andThen_ok, List.all_cons]
    cases hb : (f i == g i)
    · simp
    · simp only [Bool.not_true, Bool.false_eq_true, if_false, Sem.run_pure, Result.andThen_ok, Bool.true_and]
      exact ih fun j hj => hl j (by simp [hj])

/-- A row written out. -/
theorem wpList_build_wanted {ops : Array Oper} {rest : List Oper} {o : Oper} {a : Act} {w : World} {Q : Exit → Act → World → Prop} (hw : Region.wanted o (yielded ops a.tmps) = true) (t : TypeId) (parts : Array (Nat × Operand)) (ho : o.op = .build t parts)
    (C : Array Value) (hc : Tryz.prog.built t (parts.map fun (i, x) => (i, a.eval x)).toList = some C)
    (h : wpList Tryz.prog ops Q rest (a.put o.dst (.agg C)) w) : wpList Tryz.prog ops Q (o :: rest) a w := by
  rw [wpList, if_pos hw]
  refine .inl (wp_build t parts ho (by rw [hc]; rfl) ?_)
  rw [hc]
  exact h

theorem isRow_zero (m : Nat) : IsRow m (fun _ => 0) (Array.replicate m (.int .i64 0)) := by
  rw [← row_of0 m (fun _ => 0)]
  refine ⟨rowL_size _ _ _, rowL_one _ _ _, fun k hk => ?_⟩
  rw [rowL_get _ _ _ _ hk]
  by_cases e : k < 0
  · omega
  · rw [if_neg e]

def intsOf (T : Array Value) (k : Nat) : Int := match T[k]? with
  | some (.int _ x) => x
  | _ => 0

theorem mapM_each {α β : Type} {g : α → Option β} : ∀ {L : List α} {ys : List β}, L.mapM g = some ys → ∀ i ∈ L, ∃ y, g i = some y
  | [], _, _, _, hi => by cases hi
  | j :: L, ys, h, i, hi => by
    rw [List.mapM_cons] at h
    simp only [bind, Option.bind_eq_some_iff, pure, Option.some.injEq] at h
    obtain ⟨y, hy, zs, hz, rfl⟩ := h
    rcases List.mem_cons.1 hi with rfl | hi
    · exact ⟨y, hy⟩
    · exact mapM_each hz i hi

theorem open_row {H : Type} {enc : TypeId × Value → H} {W : World} {r : Reach} {base b0 : Nat} {sp : Nat → Bool} {held : Bool} {t e : TypeId} {m : Nat} {v : Value} {d : DataW H} {ps : List MemPlace}
    (hu : Tryz.prog.underlying t = some (.array m e)) (he : Tryz.prog.underlying e = some (.int .i64)) (hc : Tryz.prog.cellsOf e = 1) (hm : Tryz.prog.cellsOf t = m)
    (hok : Value.okWide Tryz.prog W r b0 t v) (h : DataW.Trod enc Tryz.prog W base sp held t v d ps) :
    ∃ T : Array Value, v = .agg T ∧ IsRow m (intsOf T) T ∧ ∀ k, k < m → (Lit.int .i64 (intsOf T k)).wf = true := by
  simp only [Value.okWide, hu] at hok
  obtain ⟨T, rfl, hs, _⟩ := hok
  rw [hm] at hs
  have key : ∀ k, k < m → ∃ x : Int, T[k]? = some (.int .i64 x) ∧ (Lit.int .i64 x).wf = true := by
    obtain ⟨fuel, hf⟩ := h
    cases fuel with
    | zero => simp [DataW.trod] at hf
    | succ n =>
      rw [DataW.trod_step] at hf
      unfold DataW.trodStep at hf
      simp only [hu, Value.cells] at hf
      rw [if_pos (by rw [hm]; simpa using hs)] at hf
      simp only [Option.map_eq_some_iff] at hf
      obtain ⟨ys, hy, _⟩ := hf
      intro k hk
      obtain ⟨y, hy⟩ := mapM_each hy k (by simpa using hk)
      obtain ⟨x, ex, _, wx⟩ := DataW.trod_int he hy
      refine ⟨x, ?_, wx⟩
      rw [hc, Nat.mul_one] at ex
      have : (T.toList.drop k)[0]? = some (.int .i64 x) := by
        have h2 : ((T.toList.drop k).take 1)[0]? = some (.int .i64 x) := by rw [ex]; rfl
        rw [List.getElem?_take_of_lt (by omega)] at h2
        exact h2
      simpa using this
  have hi : ∀ k, k < m → T[k]? = some (.int .i64 (intsOf T k)) ∧ (Lit.int .i64 (intsOf T k)).wf = true := fun k hk => by
    obtain ⟨x, hx, wx⟩ := key k hk
    have : intsOf T k = x := by unfold intsOf; rw [hx]
    rw [this]
    exact ⟨hx, wx⟩
  refine ⟨T, rfl, ⟨hs, ?_, fun k hk => (hi k hk).1⟩, fun k hk => (hi k hk).2⟩
  rw [Array.all_eq_true]
  intro i hi'
  have := (hi i (by omega)).1
  rw [Array.getElem?_eq_getElem hi'] at this
  injection this with this
  rw [this]
  rfl
end Go.Proofs.YtfohinlldchdpaaGreatDoor.Row
end

section
/- vect's number without its sign. -/
set_option maxRecDepth 100000
set_option linter.unusedVariables false
namespace Go.Proofs.YtfohinlldchdpaaGreatDoor.Ve
open Go.RowKit Go.Proofs.YtfohinlldchdpaaGreatDoor.Row

theorem unsigned_any (v : Int) (w : World) (h : -6975757441 ≤ v) (h' : v ≤ 6975757441) :
    Calls Tryz.prog 170 #[.int .i64 v] w fun e w' => e = .returned (.int .i64 v.natAbs) ∧ w = w' := by
  go_enter Tryz.func170, Tryz.ntmps170
  go_wp2
  all_goals
    go_ret
    refine ⟨ret_int ?_, rfl⟩
    omega
end Go.Proofs.YtfohinlldchdpaaGreatDoor.Ve
end

section
/- Contract of the document's Pow. -/
namespace Go.Proofs.YtfohinlldchdpaaGreatDoor.Ref01
open Go.RowKit Go.Proofs.YtfohinlldchdpaaGreatDoor.Row
set_option linter.unusedVariables false

theorem pow_bd {k m : Nat} (h : k ≤ m) : (1 : Int) ≤ 2 ^ k ∧ (2 : Int) ^ k ≤ 2 ^ m := by
  have h1 : 1 ≤ 2 ^ k := Nat.one_le_two_pow
  have h2 : 2 ^ k ≤ 2 ^ m := Nat.pow_le_pow_right (by omega) h
  exact ⟨by exact_mod_cast h1, by exact_mod_cast h2⟩

theorem pow_any (n : Int) (w : World) (h1 : 0 ≤ n) (h2 : n ≤ 62) :
    Calls Tryz.prog 99 #[.int .i64 n] w fun e w' => e = .returned (.int .i64 (2 ^ n.toNat)) ∧ w = w' := by
  go_enter Tryz.func99, Tryz.ntmps99
  go_wp2
  go_loop [3, 4] (fun p i => ∃ k : Nat, (k : Int) ≤ n ∧ i = .int .i64 k ∧ p = .int .i64 (2 ^ k)) (fun _ i => n.toNat - (intOf i).toNat)
  case atStart => exact ⟨0, by omega, rfl, rfl⟩
  case round =>
    obtain ⟨k, hk, rfl, rfl⟩ := hrel
    by_cases hlt : (k : Int) < n
    · obtain ⟨hp, hq⟩ := pow_bd (show k ≤ 61 by omega)
      simp only [Int.reducePow] at hq
      go_wp2
      go_round
      case rel => exact ⟨k + 1, by omega, by go_num, by rw [Int.pow_succ, Int.mul_comm]⟩
      case measure => simp [intOf]; omega
    · go_wp2
      go_ret
      exact ⟨ret_int (by rw [show n.toNat = k by omega]), rfl⟩

theorem pow_as (n p : Int) (w : World) (h1 : 0 ≤ n) (h2 : n ≤ 62) (h : 2 ^ n.toNat = p) :
    Calls Tryz.prog 99 #[.int .i64 n] w fun e w' => e = .returned (.int .i64 p) ∧ w = w' := by
  subst h; exact pow_any n w h1 h2
end Go.Proofs.YtfohinlldchdpaaGreatDoor.Ref01
end

section
/- The document's size of a number. -/
set_option maxRecDepth 100000
set_option linter.unusedVariables false
namespace Go.Proofs.YtfohinlldchdpaaGreatDoor.Ve
open Go.RowKit Go.Proofs.YtfohinlldchdpaaGreatDoor.Row

/-- The document's size of a number. -/
def sz (x : Int) : Int := if x < -1099511627776 ∨ 1099511627776 < x then 1099511627776 else x.natAbs

theorem sz_small {x : Int} (h : -1099511627776 ≤ x) (h' : x ≤ 1099511627776) : sz x = x.natAbs := by unfold sz; rw [if_neg (by omega)]

theorem rowL_is (n : Nat) (f : Nat → Int) : IsRow n (fun _ => 0) (rowL n f 0) := by rw [row_of0]; exact isRow_zero n
end Go.Proofs.YtfohinlldchdpaaGreatDoor.Ve
end

section
/- Contract of the document's Size (for vectors). -/
set_option maxRecDepth 100000
set_option linter.unusedVariables false
namespace Go.Proofs.YtfohinlldchdpaaGreatDoor.Ve
open Go.RowKit Go.Proofs.YtfohinlldchdpaaGreatDoor.Row

theorem refSize_as (x r : Int) (w : World) (h : sz x = r) :
    Calls Tryz.prog 96 #[.int .i64 x] w fun e w' => e = .returned (.int .i64 r) ∧ w = w' := by
  subst h
  by_cases c1 : x < -1099511627776
  · go_enter Tryz.func96, Tryz.ntmps96
    go_wp2
    go_ret
    exact ⟨ret_int (by unfold sz; rw [if_pos (.inl c1)]), rfl⟩
  · by_cases c2 : 1099511627776 < x
    · go_enter Tryz.func96, Tryz.ntmps96
      go_wp2
      go_ret
      exact ⟨ret_int (by unfold sz; rw [if_pos (.inr c2)]), rfl⟩
    · by_cases c3 : x < 0
      · go_enter Tryz.func96, Tryz.ntmps96
        go_wp2
        go_ret
        exact ⟨ret_int (by unfold sz; rw [if_neg (by omega)]; omega), rfl⟩
      · go_enter Tryz.func96, Tryz.ntmps96
        go_wp2
        go_ret
        exact ⟨ret_int (by unfold sz; rw [if_neg (by omega)]; omega), rfl⟩
end Go.Proofs.YtfohinlldchdpaaGreatDoor.Ve
end

section
/- Moves through a region that draws its order, under any condition S on the world: what yields its value wherever S holds; calls, new variables, rows stored. -/
namespace Go.Proofs.YtfohinlldchdpaaGreatDoor.Row
open Go.RowKit

/-- All that stood in W stands. -/
def SB (W : World) (w : World) : Prop := Below W.heap.size W w

section
variable {ops : Array Oper} {Q : Exit → Act → World → Prop} {S : World → Prop} {W : World} {fuel : Nat} {listed : Array Bool} {a : Act} {w : World} {oi : Oper} {i d : Nat} {rs : List Nat}

theorem mv_startS {id : Nat} (S : World → Prop) (hS : S w.drew) (h : S w.drew → wpAnyH Tryz.prog .any ops (NoPanic Q) S ops.size (Array.replicate ops.size false) a w.drew) : (Code.region id ops true).wp Tryz.prog Q a w :=
  wp_region_noPanic (wp_region_held_drew (S := S) (by kernel_rfl) hS h)
theorem mv_start {id : Nat} (h : SB W W.drew → wpAnyH Tryz.prog .any ops (NoPanic Q) (SB W) ops.size (Array.replicate ops.size false) a W.drew) : (Code.region id ops true).wp Tryz.prog Q a W :=
  mv_startS (SB W) (Below.refl _ _).drew h

theorem mv_yield (v : Value) (hi : ops[i]? = some oi) (hd : oi.dst = some d) (hs : Region.noSelect ops = true) (hf : Region.free .any ops listed i = true) (hr : (Region.ready .any ops listed).contains i = true)
    (hS : S w) (hy : YieldsIf Tryz.prog ops S oi v a)
    (h : wpAnyH Tryz.prog .any ops (NoPanic Q) S fuel (listed.setIfInBounds i true) (a.put (some d) v) w) : wpAnyH Tryz.prog .any ops (NoPanic Q) S (fuel + 1) listed a w :=
  wpAnyH_take hi hs hf hr (fun _ _ _ h => h) hy hS (by rw [hd]; exact h)

theorem y_loadS {t t' : TypeId} {x : Operand} {b m : Nat} {e : TypeId} {A : Array Value} (hw : Region.wanted oi (yielded ops a.tmps) = true) (ho : oi.op = .load t x) (hx : a.eval x = .pointer (some ⟨b, 0, none⟩))
    (hA : ∀ w, S w → At w b A t') (hu : Tryz.prog.underlying t = some (.array m e)) (hi : (Tryz.prog.info? t).map (·.size) = some A.size) : YieldsIf Tryz.prog ops S oi (.agg A) a :=
  .inl ⟨hw, fun w hw' => by
    unfold execOp
    simp only [ho, hx, run_load hu (hA w hw') hi, Sem.run_bind, Sem.run_pure, Result.andThen_ok]⟩
theorem y_load {t t' : TypeId} {x : Operand} {b m : Nat} {e : TypeId} {A : Array Value} (hw : Region.wanted oi (yielded ops a.tmps) = true) (ho : oi.op = .load t x) (hx : a.eval x = .pointer (some ⟨b, 0, none⟩))
    (hA : At W b A t') (hu : Tryz.prog.underlying t = some (.array m e)) (hi : (Tryz.prog.info? t).map (·.size) = some A.size) : YieldsIf Tryz.prog ops (SB W) oi (.agg A) a :=
  y_loadS hw ho hx (fun _ h => hA.below h hA.lt) hu hi
theorem y_skip (hw : Region.wanted oi (yielded ops a.tmps) = false) : YieldsIf Tryz.prog ops S oi undef a := .inr ⟨hw, rfl⟩
theorem y_run {v : Value} (hw : Region.wanted oi (yielded ops a.tmps) = true) (h : ∀ w, (execOp a.eval oi).run Tryz.prog w = .ok (.value v) w) : YieldsIf Tryz.prog ops S oi v a := .inl ⟨hw, fun w _ => h w⟩
theorem y_eql {t t' : TypeId} {x y : Operand} {T U : Array Value} {b : Bool} (hw : Region.wanted oi (yielded ops a.tmps) = true) (ho : oi.op = .binOp .eql t x y t') (hx : a.eval x = .agg T) (hy : a.eval y = .agg U)
    (hg : Tryz.prog.eqGuardType Tryz.prog.depth t = false) (he : ∀ w, (Op.equalIn 10000 t (.agg T) (.agg U)).run Tryz.prog w = .ok b w) : YieldsIf Tryz.prog ops S oi (.bool b) a :=
  y_run hw fun w => by
    unfold execOp
    simp only [ho, hx, hy, Sem.run_bind, run_eqGuard_agg w _ t x y T U hg, run_eql_struct, he, Result.andThen_ok, Sem.run_pure]
theorem y_build {t : TypeId} {parts : Array (Nat × Operand)} {C : Array Value} (hw : Region.wanted oi (yielded ops a.tmps) = true) (ho : oi.op = .build t parts)
    (hc : Tryz.prog.built t (parts.map fun (i, x) => (i, a.eval x)).toList = some C) : YieldsIf Tryz.prog ops S oi (.agg C) a :=
  y_run hw fun w => by
    unfold execOp
    simp only [ho, Sem.run_bind, run_build w t _ C hc, Result.andThen_ok, Sem.run_pure]

/-- The address of a number in a row. -/
theorem run_at {t : TypeId} {b m k : Nat} {x : Int} (hu : Tryz.prog.underlying t = some (.array m 3)) (hx : x = k) (hk : k < m) (w : World) :
    (Instr.indexAt t (.pointer (some ⟨b, 0, none⟩)) (.int .i64 x)).run Tryz.prog w = .ok (.pointer (some ⟨b, k, none⟩)) w := by
  subst hx
  have h : (0 : Int) ≤ (k : Int) ∧ (k : Int) < (m : Int) := by omega
  unfold Instr.indexAt
  simp only [Sem.run_bind, asIntOf, Sem.run_pure, Result.andThen_ok, run_underlying hu, Instr.sureAddr, if_pos h, sizeOf_int]
  simp only [Addr.add, Nat.mul_one, Int.toNat_natCast]
  split <;> simp_all
theorem y_at {t : TypeId} {y z : Operand} {b m k : Nat} {x : Int} (hw : Region.wanted oi (yielded ops a.tmps) = true) (ho : oi.op = .indexAddr t y z) (hy : a.eval y = .pointer (some ⟨b, 0, none⟩)) (hz : a.eval z = .int .i64 x)
    (hu : Tryz.prog.underlying t = some (.array m 3)) (hx : x = k) (hk : k < m) : YieldsIf Tryz.prog ops S oi (.pointer (some ⟨b, k, none⟩)) a :=
  y_run hw fun w => by
    unfold execOp
    simp only [ho, hy, hz, run_at hu hx hk, Sem.run_bind, Result.andThen_ok, Sem.run_pure]
theorem run_cell {w : World} {p : Addr} {x : Int} (h : w.cell? p = some (.int .i64 x)) : (Instr.loadAt 3 (.pointer (some p))).run Tryz.prog w = .ok (.int .i64 x) w := by
  simp [Instr.loadAt, Instr.sureAddr, loadVar, isAgg, run_underlying Tryz.underlying3, h, go_sem]
theorem y_cellS {y : Operand} {p : Addr} {x : Int} (hw : Region.wanted oi (yielded ops a.tmps) = true) (ho : oi.op = .load 3 y) (hy : a.eval y = .pointer (some p))
    (hc : ∀ w, S w → w.cell? p = some (.int .i64 x)) : YieldsIf Tryz.prog ops S oi (.int .i64 x) a :=
  .inl ⟨hw, fun w hw' => by
    unfold execOp
    simp only [ho, hy, run_cell (hc w hw'), Sem.run_bind, Sem.run_pure, Result.andThen_ok]⟩
theorem y_cell {y : Operand} {p : Addr} {x : Int} (hw : Region.wanted oi (yielded ops a.tmps) = true) (ho : oi.op = .load 3 y) (hy : a.eval y = .pointer (some p))
    (hc : W.cell? p = some (.int .i64 x)) : YieldsIf Tryz.prog ops (SB W) oi (.int .i64 x) a :=
  y_cellS hw ho hy fun w hS => by rw [Below.cell hS (block_lt_of_cell hc)]; exact hc

/-- A function with a body is entered. -/
theorem run_enter {f : FuncId} {fn : Func} {c : Code} (hf : Tryz.prog.funcs[f]? = some fn) (hname : (fn.name == "runtime.NumGoroutine") = false) (hb : fn.body = some c) (args : Array Value) (w : World) :
    (callFunc f args).run Tryz.prog w = .ok (.enter f args) w := by
  have h1 : fn.name ≠ "runtime.NumGoroutine" := by simpa using hname
  simp [callFunc, hf, h1, hb]

/-- A call by its contract, where others may come up too; what is known behind it is P. -/
theorem ar_callP {f : FuncId} {xs : Array Operand} {ats : Array TypeId} {v : Value} {P : World → Prop} (args : Array Value) (hi : ops[i]? = some oi) (hd : oi.dst = some d) (hw : Region.wanted oi (yielded ops a.tmps) = true)
    (ho : oi.op = .call { callee := .value (.func f), args := xs, argTypes := ats }) (hn : ∀ args w, (callFunc f args).run Tryz.prog w = .ok (.enter f args) w)
    (ha : xs.map a.eval = args) (hc : Calls Tryz.prog f args w fun e w' => e = .returned v ∧ P w') (hP : ∀ w', P w' → S w')
    (h : ∀ w', P w' → S w' → wpAnyH Tryz.prog .any ops (NoPanic Q) S fuel (listed.setIfInBounds i true) (a.put (some d) v) w')
    (hs : AllReadyH Tryz.prog .any ops (NoPanic Q) S fuel listed a w rs) : AllReadyH Tryz.prog .any ops (NoPanic Q) S fuel listed a w (i :: rs) := by
  refine AllReadyH.cons hi (fun K hK => ?_) hs
  rw [if_pos hw]
  obtain ⟨dst, op, type, pos, after, guard⟩ := oi
  dsimp only at ho hd
  subst ho hd
  unfold Oper.wp
  rw [execOp_call_go]
  have e : (#[] ++ xs.map a.eval ++ #[] : Array Value) = xs.map a.eval := by simp
  rw [e, hn, ha]
  show Calls Tryz.prog f args w _
  refine hc.mono fun e w' ⟨he, hb⟩ => ?_
  subst he
  exact hK.out _ _ (hP w' hb) fun _ => h w' hb (hP w' hb)

/-- A new variable, where others may come up too. -/
theorem ar_alloc {t : TypeId} {Z : Array Value} (hi : ops[i]? = some oi) (hd : oi.dst = some d) (hw : Region.wanted oi (yielded ops a.tmps) = true) (ho : oi.op = .alloc t) (hz : ∀ w, (zeroValue t).run Tryz.prog w = .ok (.agg Z) w)
    (hS : S (w.alloc (.cells Z t)))
    (h : S (w.alloc (.cells Z t)) → wpAnyH Tryz.prog .any ops (NoPanic Q) S fuel (listed.setIfInBounds i true) (a.put (some d) (.pointer (some ⟨w.heap.size, 0, none⟩))) (w.alloc (.cells Z t)))
    (hs : AllReadyH Tryz.prog .any ops (NoPanic Q) S fuel listed a w rs) : AllReadyH Tryz.prog .any ops (NoPanic Q) S fuel listed a w (i :: rs) := by
  refine AllReadyH.cons hi (fun K hK => ?_) hs
  rw [if_pos hw]
  have hr : (execOp a.eval oi).run Tryz.prog w = .ok (.value (.pointer (some ⟨w.heap.size, 0, none⟩))) (w.alloc (.cells Z t)) := by
    unfold execOp
    simp only [ho]
    simp [Instr.alloc, hz, go_sem]
  unfold Oper.wp
  rw [hr, Oper.upon_value, hd]
  exact hK.out _ _ hS h

/-- A whole row stored, where others may come up too. -/
theorem ar_store {t t' : TypeId} {x y : Operand} (b : Nat) (A old : Array Value) (hi : ops[i]? = some oi) (hd : oi.dst = none) (hw : Region.wanted oi (yielded ops a.tmps) = true)
    (ho : oi.op = .store t x y) (hx : a.eval x = .pointer (some ⟨b, 0, none⟩)) (hy : a.eval y = .agg A) (hold : At w b old t') (hso : old.size = A.size) (h1 : A.all (·.oneCell') = true) (hsz : (Tryz.prog.info? t).map (·.size) = some A.size)
    (hS : S (w.setRow b A)) (h : S (w.setRow b A) → wpAnyH Tryz.prog .any ops (NoPanic Q) S fuel (listed.setIfInBounds i true) a (w.setRow b A))
    (hs : AllReadyH Tryz.prog .any ops (NoPanic Q) S fuel listed a w rs) : AllReadyH Tryz.prog .any ops (NoPanic Q) S fuel listed a w (i :: rs) := by
  refine AllReadyH.cons hi (fun K hK => ?_) hs
  rw [if_pos hw]
  refine wp_store_row t x y ho b A hx hy t' old hold hsz hso h1 ?_
  rw [hd]
  exact hK.out _ _ hS h

theorem mv_ready (rs : List Nat) (hr : Region.ready .any ops listed = rs) (hne : rs ≠ []) (h : AllReadyH Tryz.prog .any ops (NoPanic Q) S fuel listed a w rs) : wpAnyH Tryz.prog .any ops (NoPanic Q) S (fuel + 1) listed a w :=
  wpAnyH_ready hr hne h

/-- A call by its contract, where nothing else may come up, and all that stood stands. -/
theorem mv_call {f : FuncId} {xs : Array Operand} {ats : Array TypeId} {v : Value} (args : Array Value) (hi : ops[i]? = some oi) (hd : oi.dst = some d) (hr : Region.ready .any ops listed = [i]) (hw : Region.wanted oi (yielded ops a.tmps) = true)
    (ho : oi.op = .call { callee := .value (.func f), args := xs, argTypes := ats }) (hS : SB W w) (hn : ∀ args w, (callFunc f args).run Tryz.prog w = .ok (.enter f args) w)
    (ha : xs.map a.eval = args) (hc : Calls Tryz.prog f args w fun e w' => e = .returned v ∧ Below w.heap.size w w')
    (h : ∀ w', SB W w' → wpAnyH Tryz.prog .any ops (NoPanic Q) (SB W) fuel (listed.setIfInBounds i true) (a.put (some d) v) w') : wpAnyH Tryz.prog .any ops (NoPanic Q) (SB W) (fuel + 1) listed a w :=
  mv_ready [i] hr (by simp) (ar_callP args hi hd hw ho hn ha hc (fun _ hb => below_trans hS hb (Below.size hS)) (fun w' _ hS' => h w' hS') AllReadyH.nil)

theorem mv_done (hr : Region.ready .any ops listed = []) (h : Q .normal a w) : wpAnyH Tryz.prog .any ops (NoPanic Q) S fuel listed a w := wpAnyH_done hr (NoPanic.normal h) _
end

/-- A row and a number as results. -/
theorem results_row_int {fn : Func} {p q : Tmp} {t u : TypeId} {z : Value} (h : fn.results = #[.cell p t, .tmp q]) (tmps : Array Value) (w : World) (g : Nat) (A : Array Value) (m : Nat) (e : TypeId)
    (hp : tmps.getD p undef = .pointer (some ⟨g, 0, none⟩)) (hq : tmps.getD q undef = z) (hg : At w g A u)
    (hu : Tryz.prog.underlying t = some (.array m e)) (hA : (Tryz.prog.info? t).map (·.size) = some A.size) :
    (results fn tmps).run Tryz.prog w = .ok (.tuple #[.agg A, z]) w := by
  have hp' : tmps[p]?.getD undef = .pointer (some ⟨g, 0, none⟩) := by simpa using hp
  have hq' : tmps[q]?.getD undef = z := by simpa using hq
  have h1 := run_loadVar_row w g u t A (0, 0) _ hg hu rfl hA
  simp [results, h, hp', hq', asAddr, h1]
end Go.Proofs.YtfohinlldchdpaaGreatDoor.Row
end

section
/- Slices of numbers: how they lie, and slices that came in. -/
set_option maxRecDepth 100000
set_option linter.unusedVariables false
namespace Go.Proofs.YtfohinlldchdpaaGreatDoor.Row
open Go.ChangeShapes Go.WideShapes Go.ChangeAt Go.RowKit

/-- 'a, n, c' are a slice of n numbers of the kind k: f's. -/
def Sl (k : IntKind) (w : World) (a : Option Addr) (n c : Nat) (f : Nat → Int) : Prop :=
  n ≤ c ∧ c ≤ maxLen ∧ (0 < n → ∃ b o, a = some ⟨b, o, none⟩ ∧ ∀ i, i < n → w.cell? ⟨b, o + i, none⟩ = some (.int k (f i)))

theorem Sl.below {k : IntKind} {w w' : World} {a : Option Addr} {n c : Nat} {f : Nat → Int} (h : Sl k w a n c f) (hb : Below w.heap.size w w') : Sl k w' a n c f :=
  ⟨h.1, h.2.1, fun hn => by
    obtain ⟨b, o, e, hc⟩ := h.2.2 hn
    exact ⟨b, o, e, fun i hi => by rw [Below.cell hb (block_lt_of_cell (hc i hi))]; exact hc i hi⟩⟩

theorem Sl.ext {k : IntKind} {w : World} {a : Option Addr} {n c : Nat} {f g : Nat → Int} (h : Sl k w a n c f) (e : ∀ i, i < n → f i = g i) : Sl k w a n c g :=
  ⟨h.1, h.2.1, fun hn => by
    obtain ⟨b, o, ea, hc⟩ := h.2.2 hn
    exact ⟨b, o, ea, fun i hi => by rw [← e i hi]; exact hc i hi⟩⟩

theorem Sl.of_isRow {w : World} {g n : Nat} {f : Nat → Int} {T : Array Value} {t : TypeId} (hT : IsRow n f T) (h : At w g T t) (hc : n ≤ maxLen) : Sl .i64 w (some ⟨g, 0, none⟩) n n f :=
  ⟨Nat.le_refl _, hc, fun _ => ⟨g, 0, rfl, fun i hi => by rw [Nat.zero_add]; exact hT.cell h i hi⟩⟩

theorem Sl.of_part {w : World} {g m : Nat} {f : Nat → Int} {T : Array Value} {t : TypeId} (hT : IsRow m f T) (h : At w g T t) (l n : Nat) (hm : l + n ≤ m) (hc : n ≤ maxLen) : Sl .i64 w (some ⟨g, l, none⟩) n n (fun i => f (l + i)) :=
  ⟨Nat.le_refl _, hc, fun _ => ⟨g, l, rfl, fun i hi => hT.cell h (l + i) (by omega)⟩⟩

end Go.Proofs.YtfohinlldchdpaaGreatDoor.Row
end

section
/- Moves through a region that draws its order: calls whose results are known by what holds of them; rows loaded out of the world at hand. -/
namespace Go.Proofs.YtfohinlldchdpaaGreatDoor.Row
open Go.RowKit

section
variable {ops : Array Oper} {Q : Exit → Act → World → Prop} {S : World → Prop} {fuel : Nat} {listed : Array Bool} {a : Act} {w : World} {oi : Oper} {i d : Nat} {rs : List Nat}

/-- A call by its contract, its result known by what holds of it, where others may come up too. -/
theorem ar_callE {f : FuncId} {xs : Array Operand} {ats : Array TypeId} {R : Value → World → Prop} (args : Array Value) (hi : ops[i]? = some oi) (hd : oi.dst = some d) (hw : Region.wanted oi (yielded ops a.tmps) = true)
    (ho : oi.op = .call { callee := .value (.func f), args := xs, argTypes := ats }) (hn : ∀ args w, (callFunc f args).run Tryz.prog w = .ok (.enter f args) w)
    (ha : xs.map a.eval = args) (hc : Calls Tryz.prog f args w fun e w' => ∃ v, e = .returned v ∧ R v w') (hR : ∀ v w', R v w' → S w')
    (h : ∀ v w', R v w' → S w' → wpAnyH Tryz.prog .any ops (NoPanic Q) S fuel (listed.setIfInBounds i true) (a.put (some d) v) w')
    (hs : AllReadyH Tryz.prog .any ops (NoPanic Q) S fuel listed a w rs) : AllReadyH Tryz.prog .any ops (NoPanic Q) S fuel listed a w (i :: rs) := by
  refine AllReadyH.cons hi (fun K hK => ?_) hs
  rw [if_pos hw]
  obtain ⟨dst, op, type, pos, after, guard⟩ := oi
  dsimp only at ho hd
  subst ho hd
  unfold Oper.wp
  rw [execOp_call_go]
  have e : (#[] ++ xs.map a.eval ++ #[] : Array Value) = xs.map a.eval := by simp
  rw [e, hn, ha]
  show Calls Tryz.prog f args w _
  refine hc.mono fun e w' ⟨v, he, hb⟩ => ?_
  subst he
  exact hK.out _ _ (hR v w' hb) fun _ => h v w' hb (hR v w' hb)

end
end Go.Proofs.YtfohinlldchdpaaGreatDoor.Row
end

section
/- Moves through a region that draws its order and ends in stores into what the region itself reads: S is asked behind all operations but those of F, each of which waits for whatever is taken first. -/
namespace Go.Proofs.YtfohinlldchdpaaGreatDoor.Row
open Go.RowKit

def wpAnyF (P : Program) (md : Region.Mode) (ops : Array Oper) (Q : Exit → Act → World → Prop) (S : World → Prop) (F : Nat → Bool) : Nat → Array Bool → Act → World → Prop
  | 0, listed, a, w => Region.ready md ops listed = [] ∧ Q .normal a w
  | fuel + 1, listed, a, w =>
    (Region.ready md ops listed = [] → Q .normal a w) ∧
    ∀ i ∈ Region.ready md ops listed, wpOp P ops Q i (fun a' w' => (F i = false → S w') ∧ wpAnyF P md ops Q S F fuel (listed.setIfInBounds i true) a' w') a w

section
variable {P : Program} {ops : Array Oper} {Q : Exit → Act → World → Prop} {md : Region.Mode} {S : World → Prop} {F : Nat → Bool}

theorem wpAny_of_F : ∀ (fuel : Nat) (listed : Array Bool) (a : Act) (w : World), wpAnyF P md ops Q S F fuel listed a w → wpAny P md ops Q fuel listed a w
  | 0, _, _, _, h => h
  | fuel + 1, _, _, _, h => ⟨h.1, fun i hi => wpOp_mono (fun a' w' h' => wpAny_of_F fuel _ a' w' h'.2) (h.2 i hi)⟩

/-- Does each of F's operations wait for number i? -/
def waitsFor (md : Region.Mode) (ops : Array Oper) (F : Nat → Bool) (i : Nat) : Bool := (List.range ops.size).all fun j => !F j || (match ops[j]? with
  | some o => o.after.any fun e => Region.binds md e && e.on == i
  | none => true)

theorem waitsFor_spec {i : Nat} (h : waitsFor md ops F i = true) : ∀ j oj, ops[j]? = some oj → (∀ e ∈ oj.after, Region.binds md e = true → e.on ≠ i) → F j = false := by
  intro j oj hj hno
  unfold waitsFor at h
  rw [List.all_eq_true] at h
  have hlt : j < ops.size := (Array.getElem?_eq_some_iff.1 hj).1
  have := h j (List.mem_range.2 hlt)
  rw [hj] at this
  cases hF : F j with
  | false => rfl
  | true =>
    simp only [hF, Bool.not_true, Bool.false_or, Array.any_eq_true'] at this
    obtain ⟨e, he, h2⟩ := this
    rw [Bool.and_eq_true, beq_iff_eq] at h2
    exact absurd h2.2 (hno e he h2.1)

/-- What may come up waits for nothing that may come up. -/
theorem ready_apart {i j : Nat} {listed : Array Bool} (hi : i ∈ Region.ready md ops listed) {oj : Oper} (hoj : ops[j]? = some oj) (hj : j ∈ Region.ready md ops listed) : ∀ e ∈ oj.after, Region.binds md e = true → e.on ≠ i := by
  intro e he hb heq
  obtain ⟨un, _⟩ := mem_ready.1 hi
  obtain ⟨_, o, ho, all⟩ := mem_ready.1 hj
  obtain rfl : o = oj := Option.some.inj (ho.symm.trans hoj)
  have on := all e he hb
  subst heq
  by_cases hl : e.on < listed.size
  · rw [Array.getD, dif_pos hl] at un on
    exact Bool.false_ne_true (un.symm.trans on)
  · rw [Array.getD, dif_neg hl] at on
    exact Bool.false_ne_true on

/-- That whatever is left waits for 'i' or stays apart from it: as told by the list of what has come up. -/
def Apart (md : Region.Mode) (ops : Array Oper) (i : Nat) (oi : Oper) (listed : Array Bool) : Prop :=
  ∀ j oj, ops[j]? = some oj → j ≠ i → listed.getD j true = false → (∀ e ∈ oj.after, Region.binds md e = true → e.on ≠ i) → oi.apart ops oj = true
theorem Apart.step {i j : Nat} {oi : Oper} {listed : Array Bool} (h : Apart md ops i oi listed) (hj : listed.getD j true = false) : Apart md ops i oi (listed.setIfInBounds j true) := by
  intro k ok hk hki hun hno
  apply h k ok hk hki _ hno
  rcases Nat.decEq j k with ne | rfl
  · rwa [getD_set_ne true ne] at hun
  · exact hj

/-- What yields its value wherever S holds, and for which each of F's operations waits, may be taken first. -/
theorem wpAnyF_first {i : Nat} {oi : Oper} {v : Value} (hi : ops[i]? = some oi) (hsel : ∀ (j : Nat) (o : Oper) cs b, ops[j]? = some o → o.op ≠ .select cs b)
    (hQ : ∀ c a w, Q (.panic c) (a.put oi.dst v) w → Q (.panic c) a w) (hF : ∀ j oj, ops[j]? = some oj → (∀ e ∈ oj.after, Region.binds md e = true → e.on ≠ i) → F j = false) :
    ∀ {fuel : Nat} {listed : Array Bool} {a : Act} {w : World}, Apart md ops i oi listed → i ∈ Region.ready md ops listed → YieldsIf P ops S oi v a → S w →
      wpAnyF P md ops Q S F fuel (listed.setIfInBounds i true) (a.put oi.dst v) w → wpAnyF P md ops Q S F (fuel + 1) listed a w
  | fuel, listed, a, w, hap, hr, hy, hS, H => by
    refine ⟨fun none => absurd (none ▸ hr) List.not_mem_nil, fun j hj => ?_⟩
    by_cases e : j = i
    · rw [e]
      exact hy.wpOp hi hS ⟨fun _ => hS, H⟩
    · have hj' := ready_mono (i := i) hj e
      match fuel, H with
      | 0, H => exact absurd (H.1 ▸ hj') List.not_mem_nil
      | fuel + 1, H =>
        obtain ⟨un, oj, hoj, _⟩ := mem_ready.1 hj
        have no := ready_apart hr hoj hj
        have step := wpOp_putIf hoj (hap j oj hoj e un no) (fun cs b => hsel i oi cs b hi) (fun cs b => hsel j oj cs b hoj) hQ hy (H.2 j hj')
        refine wpOp_mono (fun a' w' out => ?_) step
        obtain ⟨hy', hS', H'⟩ := out
        have sw := hS' (hF j oj hoj no)
        rw [Array.setIfInBounds_comm _ _ (Ne.symm e)] at H'
        exact ⟨hS', wpAnyF_first hi hsel hQ hF (hap.step un) (ready_mono hr (Ne.symm e)) hy' sw H'⟩

theorem wpAnyF_take {i : Nat} {oi : Oper} {v : Value} {fuel : Nat} {listed : Array Bool} {a : Act} {w : World} (hi : ops[i]? = some oi)
    (hs : Region.noSelect ops = true) (hf : Region.free md ops listed i = true) (hr : (Region.ready md ops listed).contains i = true) (hF : waitsFor md ops F i = true)
    (hQ : ∀ c a w, Q (.panic c) (a.put oi.dst v) w → Q (.panic c) a w) (hy : YieldsIf P ops S oi v a) (hS : S w)
    (h : wpAnyF P md ops Q S F fuel (listed.setIfInBounds i true) (a.put oi.dst v) w) : wpAnyF P md ops Q S F (fuel + 1) listed a w :=
  wpAnyF_first hi (Region.noSelect_spec hs) hQ (waitsFor_spec hF) (Region.free_spec hi hf) (by simpa using hr) hy hS h

theorem wpAnyF_done {listed : Array Bool} {a : Act} {w : World} (hr : Region.ready md ops listed = []) (h : Q .normal a w) : ∀ fuel, wpAnyF P md ops Q S F fuel listed a w
  | 0 => ⟨hr, h⟩
  | _ + 1 => ⟨fun _ => h, by rw [hr]; simp⟩

/-- Each of the operations 'rs' comes up next. -/
def AllReadyF (P : Program) (md : Region.Mode) (ops : Array Oper) (Q : Exit → Act → World → Prop) (S : World → Prop) (F : Nat → Bool) (fuel : Nat) (listed : Array Bool) (a : Act) (w : World) (rs : List Nat) : Prop :=
  ∀ i ∈ rs, wpOp P ops Q i (fun a' w' => (F i = false → S w') ∧ wpAnyF P md ops Q S F fuel (listed.setIfInBounds i true) a' w') a w
theorem AllReadyF.nil {fuel : Nat} {listed : Array Bool} {a : Act} {w : World} : AllReadyF P md ops Q S F fuel listed a w [] := fun _ h => by cases h
theorem AllReadyF.cons {fuel : Nat} {listed : Array Bool} {a : Act} {w : World} {i : Nat} {o : Oper} {rs : List Nat} (ho : ops[i]? = some o)
    (h : ∀ K' : Act → World → Prop, Shut (∀ a w, (F i = false → S w) → wpAnyF P md ops Q S F fuel (listed.setIfInBounds i true) a w → K' a w) → if Region.wanted o (yielded ops a.tmps) = true then Oper.wp P o a w K' Q else K' (a.put o.dst undef) w)
    (hs : AllReadyF P md ops Q S F fuel listed a w rs) : AllReadyF P md ops Q S F fuel listed a w (i :: rs) := fun j hj => by
  rcases List.mem_cons.1 hj with rfl | hj
  · exact wpOp_step ho (fun K' hK => h K' (fun a w hS hW => hK a w ⟨hS, hW⟩))
  · exact hs j hj
theorem wpAnyF_ready {rs : List Nat} {fuel : Nat} {listed : Array Bool} {a : Act} {w : World} (hr : Region.ready md ops listed = rs) (hne : rs ≠ [])
    (h : AllReadyF P md ops Q S F fuel listed a w rs) : wpAnyF P md ops Q S F (fuel + 1) listed a w := ⟨fun h0 => absurd (hr ▸ h0) hne, hr ▸ h⟩
theorem wp_region_F {id : Nat} {a : Act} {w : World} (hm : P.follows .mixedOrders = true) (h : S w.drew → wpAnyF P .any ops Q S F ops.size (Array.replicate ops.size false) a w.drew) (hS : S w.drew) : (Code.region id ops true).wp P Q a w :=
  wp_region_any hm (wpAny_of_F _ _ _ _ (h hS))
end

section
variable {ops : Array Oper} {Q : Exit → Act → World → Prop} {S : World → Prop} {F : Nat → Bool} {fuel : Nat} {listed : Array Bool} {a : Act} {w : World} {oi : Oper} {i d : Nat} {rs : List Nat}

theorem mf_start {id : Nat} (S : World → Prop) (F : Nat → Bool) (hS : S w.drew) (h : S w.drew → wpAnyF Tryz.prog .any ops (NoPanic Q) S F ops.size (Array.replicate ops.size false) a w.drew) : (Code.region id ops true).wp Tryz.prog Q a w :=
  wp_region_noPanic (wp_region_F (by kernel_rfl) h hS)
theorem mf_yield (v : Value) (hi : ops[i]? = some oi) (hd : oi.dst = some d) (hs : Region.noSelect ops = true) (hf : Region.free .any ops listed i = true) (hr : (Region.ready .any ops listed).contains i = true) (hF : waitsFor .any ops F i = true)
    (hS : S w) (hy : YieldsIf Tryz.prog ops S oi v a)
    (h : wpAnyF Tryz.prog .any ops (NoPanic Q) S F fuel (listed.setIfInBounds i true) (a.put (some d) v) w) : wpAnyF Tryz.prog .any ops (NoPanic Q) S F (fuel + 1) listed a w :=
  wpAnyF_take hi hs hf hr hF (fun _ _ _ h => h) hy hS (by rw [hd]; exact h)
theorem mf_ready (rs : List Nat) (hr : Region.ready .any ops listed = rs) (hne : rs ≠ []) (h : AllReadyF Tryz.prog .any ops (NoPanic Q) S F fuel listed a w rs) : wpAnyF Tryz.prog .any ops (NoPanic Q) S F (fuel + 1) listed a w := wpAnyF_ready hr hne h
theorem mf_done (hr : Region.ready .any ops listed = []) (h : Q .normal a w) : wpAnyF Tryz.prog .any ops (NoPanic Q) S F fuel listed a w := wpAnyF_done hr (NoPanic.normal h) _

/-- A call by its contract, its result known by what holds of it. -/
theorem af_call {f : FuncId} {xs : Array Operand} {ats : Array TypeId} {R : Value → World → Prop} (args : Array Value) (hi : ops[i]? = some oi) (hd : oi.dst = some d) (hw : Region.wanted oi (yielded ops a.tmps) = true)
    (ho : oi.op = .call { callee := .value (.func f), args := xs, argTypes := ats }) (hn : ∀ args w, (callFunc f args).run Tryz.prog w = .ok (.enter f args) w)
    (ha : xs.map a.eval = args) (hc : Calls Tryz.prog f args w fun e w' => ∃ v, e = .returned v ∧ R v w') (hR : ∀ v w', R v w' → S w')
    (h : ∀ v w', R v w' → S w' → wpAnyF Tryz.prog .any ops (NoPanic Q) S F fuel (listed.setIfInBounds i true) (a.put (some d) v) w')
    (hs : AllReadyF Tryz.prog .any ops (NoPanic Q) S F fuel listed a w rs) : AllReadyF Tryz.prog .any ops (NoPanic Q) S F fuel listed a w (i :: rs) := by
  refine AllReadyF.cons hi (fun K hK => ?_) hs
  rw [if_pos hw]
  obtain ⟨dst, op, type, pos, after, guard⟩ := oi
  dsimp only at ho hd
  subst ho hd
  unfold Oper.wp
  rw [execOp_call_go]
  have e : (#[] ++ xs.map a.eval ++ #[] : Array Value) = xs.map a.eval := by simp
  rw [e, hn, ha]
  show Calls Tryz.prog f args w _
  refine hc.mono fun e w' ⟨v, he, hb⟩ => ?_
  subst he
  exact hK.out _ _ (fun _ => hR v w' hb) (h v w' hb (hR v w' hb))

/-- A whole row stored, by one of F. -/
theorem af_store {t t' : TypeId} {x y : Operand} (b : Nat) (A old : Array Value) (hi : ops[i]? = some oi) (hd : oi.dst = none) (hw : Region.wanted oi (yielded ops a.tmps) = true)
    (ho : oi.op = .store t x y) (hF : F i = true) (hx : a.eval x = .pointer (some ⟨b, 0, none⟩)) (hy : a.eval y = .agg A) (hold : At w b old t') (hso : old.size = A.size) (h1 : A.all (·.oneCell') = true) (hsz : (Tryz.prog.info? t).map (·.size) = some A.size)
    (h : wpAnyF Tryz.prog .any ops (NoPanic Q) S F fuel (listed.setIfInBounds i true) a (w.setRow b A))
    (hs : AllReadyF Tryz.prog .any ops (NoPanic Q) S F fuel listed a w rs) : AllReadyF Tryz.prog .any ops (NoPanic Q) S F fuel listed a w (i :: rs) := by
  refine AllReadyF.cons hi (fun K hK => ?_) hs
  rw [if_pos hw]
  refine wp_store_row t x y ho b A hx hy t' old hold hsz hso h1 ?_
  rw [hd]
  exact hK.out _ _ (fun h => by rw [hF] at h; cases h) h

/-- A number assigned to a slot, by one of F or not. -/
theorem af_assign {v : Value} (hi : ops[i]? = some oi) (hd : oi.dst = some d) (hw : Region.wanted oi (yielded ops a.tmps) = true) (hr : ∀ w, (execOp a.eval oi).run Tryz.prog w = .ok (.value v) w) (hS : F i = false → S w)
    (h : wpAnyF Tryz.prog .any ops (NoPanic Q) S F fuel (listed.setIfInBounds i true) (a.put (some d) v) w)
    (hs : AllReadyF Tryz.prog .any ops (NoPanic Q) S F fuel listed a w rs) : AllReadyF Tryz.prog .any ops (NoPanic Q) S F fuel listed a w (i :: rs) := by
  refine AllReadyF.cons hi (fun K hK => ?_) hs
  rw [if_pos hw]
  unfold Oper.wp
  rw [hr, Oper.upon_value, hd]
  exact hK.out _ _ hS h
end
end Go.Proofs.YtfohinlldchdpaaGreatDoor.Row
end

section
/- A move more through a drawn region that ends in a store: a number stored into a cell that the region itself reads. -/
namespace Go.Proofs.YtfohinlldchdpaaGreatDoor.Row
open Go.RowKit

theorem run_storeAt_int {w : World} {p : Addr} {u : Value} (v : Int) (hc : w.cell? p = some u) (hf : w.frozen? p = false) : (Instr.storeAt 3 (.pointer (some p)) (.int .i64 v)).run Tryz.prog w = .ok () (w.setCell p (.int .i64 v)) := by
  have e : p.add 0 = p := by unfold Addr.add; simp
  simp [e, Instr.storeAt, Instr.sureAddr, storeVar, storeCells, Value.cells, run_store_int, stored, hc, hf]

section
variable {ops : Array Oper} {Q : Exit → Act → World → Prop} {S : World → Prop} {F : Nat → Bool} {fuel : Nat} {listed : Array Bool} {a : Act} {w : World} {oi : Oper} {i : Nat} {rs : List Nat}

/-- A number stored into a cell, by one of F. -/
theorem af_cell {x y : Operand} (p : Addr) (v : Int) {u : Value} (hi : ops[i]? = some oi) (hd : oi.dst = none) (hw : Region.wanted oi (yielded ops a.tmps) = true)
    (ho : oi.op = .store 3 x y) (hF : F i = true) (hx : a.eval x = .pointer (some p)) (hy : a.eval y = .int .i64 v) (hc : w.cell? p = some u) (hf : w.frozen? p = false)
    (h : wpAnyF Tryz.prog .any ops (NoPanic Q) S F fuel (listed.setIfInBounds i true) a (w.setCell p (.int .i64 v)))
    (hs : AllReadyF Tryz.prog .any ops (NoPanic Q) S F fuel listed a w rs) : AllReadyF Tryz.prog .any ops (NoPanic Q) S F fuel listed a w (i :: rs) := by
  refine AllReadyF.cons hi (fun K hK => ?_) hs
  rw [if_pos hw]
  unfold Oper.wp execOp
  simp only [ho, hx, hy, Sem.run_bind, Sem.run_pure, Result.andThen_ok, run_storeAt_int v hc hf]
  rw [Oper.upon_skip, hd]
  exact hK.out _ _ (fun h => by rw [hF] at h; cases h) h
end
end Go.Proofs.YtfohinlldchdpaaGreatDoor.Row
end

section
/- What operations of a region yield, one by one: arithmetic, comparisons, len, max, picks. -/
namespace Go.Proofs.YtfohinlldchdpaaGreatDoor.Row
open Go.RowKit

section
variable {ops : Array Oper} {S : World → Prop} {a : Act} {oi : Oper}

theorem y_add {t t' : TypeId} {y z : Operand} {m n r : Int} (hw : Region.wanted oi (yielded ops a.tmps) = true) (ho : oi.op = .binOp .add t y z t') (hy : a.eval y = .int .i64 m) (hz : a.eval z = .int .i64 n) (hr : IntKind.i64.wrap (m + n) = r) : YieldsIf Tryz.prog ops S oi (.int .i64 r) a :=
  y_run hw fun w => by
    unfold execOp
    simp only [ho, hy, hz]
    simp [go_sem, hr]
theorem y_sub {t t' : TypeId} {y z : Operand} {m n r : Int} (hw : Region.wanted oi (yielded ops a.tmps) = true) (ho : oi.op = .binOp .sub t y z t') (hy : a.eval y = .int .i64 m) (hz : a.eval z = .int .i64 n) (hr : IntKind.i64.wrap (m - n) = r) : YieldsIf Tryz.prog ops S oi (.int .i64 r) a :=
  y_run hw fun w => by
    unfold execOp
    simp only [ho, hy, hz]
    simp [go_sem, hr]
theorem y_mul {t t' : TypeId} {y z : Operand} {m n r : Int} (hw : Region.wanted oi (yielded ops a.tmps) = true) (ho : oi.op = .binOp .mul t y z t') (hy : a.eval y = .int .i64 m) (hz : a.eval z = .int .i64 n) (hr : IntKind.i64.wrap (m * n) = r) : YieldsIf Tryz.prog ops S oi (.int .i64 r) a :=
  y_run hw fun w => by
    unfold execOp
    simp only [ho, hy, hz]
    simp [go_sem, hr]
theorem y_neb {y z : Operand} {t' : TypeId} {m n b : Bool} (hw : Region.wanted oi (yielded ops a.tmps) = true) (ho : oi.op = .binOp .neq 4 y z t') (hy : a.eval y = .bool m) (hz : a.eval z = .bool n) (hb : (m != n) = b) : YieldsIf Tryz.prog ops S oi (.bool b) a :=
  y_run hw fun w => by
    subst hb
    unfold execOp
    simp only [ho, hy, hz]
    cases m <;> cases n <;> simp [go_sem]
end
end Go.Proofs.YtfohinlldchdpaaGreatDoor.Row
end

section
/- What operations of a region yield: named integers compared, a string's length. -/
namespace Go.Proofs.YtfohinlldchdpaaGreatDoor.Row
open Go.RowKit

section
variable {ops : Array Oper} {S : World → Prop} {a : Act} {oi : Oper}

theorem y_eqe {t' : TypeId} {y z : Operand} {m n : Int} {b : Bool} (hw : Region.wanted oi (yielded ops a.tmps) = true) (ho : oi.op = .binOp .eql 37 y z t') (hy : a.eval y = .int .i64 m) (hz : a.eval z = .int .i64 n) (hb : (m == n) = b) : YieldsIf Tryz.prog ops S oi (.bool b) a :=
  y_run hw fun w => by
    unfold execOp
    simp only [ho, hy, hz]
    simp [go_sem, hb]
end
end Go.Proofs.YtfohinlldchdpaaGreatDoor.Row
end

section
/- What operations of a region yield: indexes into slices. -/
namespace Go.Proofs.YtfohinlldchdpaaGreatDoor.Row
open Go.RowKit

theorem run_ix {b o n c k q : Nat} (hq : o + k = q) (hk : k < n) (w : World) :
    (Instr.indexAt 68 (.slice (some ⟨b, o, none⟩) n c) (.int .i64 k)).run Tryz.prog w = .ok (.pointer (some ⟨b, q, none⟩)) w := by
  subst hq
  have h : (0 : Int) ≤ (k : Int) ∧ (k : Int) < (n : Int) := by omega
  unfold Instr.indexAt
  simp only [Sem.run_bind, asIntOf, Sem.run_pure, Result.andThen_ok, run_underlying Tryz.underlying68, if_pos h, sizeOf_int]
  simp only [Addr.add, Nat.mul_one, Int.toNat_natCast]
  split <;> simp_all

section
variable {ops : Array Oper} {S : World → Prop} {a : Act} {oi : Oper}

theorem y_ix {y z : Operand} {b o n c k q : Nat} {x : Int} (hw : Region.wanted oi (yielded ops a.tmps) = true) (ho : oi.op = .indexAddr 68 y z) (hy : a.eval y = .slice (some ⟨b, o, none⟩) n c) (hz : a.eval z = .int .i64 x)
    (hx : x = k) (hq : o + k = q) (hk : k < n) : YieldsIf Tryz.prog ops S oi (.pointer (some ⟨b, q, none⟩)) a :=
  y_run hw fun w => by
    subst hx
    unfold execOp
    simp only [ho, hy, hz, run_ix hq hk, Sem.run_bind, Result.andThen_ok, Sem.run_pure]
end
end Go.Proofs.YtfohinlldchdpaaGreatDoor.Row
end

section
/- Several variables made at once, 'x, y := f(a), g(b)': calls that wait for one another, new variables that wait for nobody, in whatever order; what is stored comes behind. For every package. -/
namespace Go.Proofs.YtfohinlldchdpaaGreatDoor.Row
open Go.RowKit

def direct (ops : Array Oper) (i : Nat) : List Nat := match ops[i]? with
  | some o => (o.after.toList.filter fun e => Region.binds .any e).map (·.on)
  | none => []
/-- Each waits for earlier ones of the list, and for what has come up already. -/
def chkOrder (ops : Array Oper) (hd : List Nat) (l1 : Array Bool) : List Nat → List Nat → Bool
  | _, [] => true
  | before, i :: rest => (direct ops i).all (fun p => before.contains p || (!hd.contains p && l1.getD p false)) && chkOrder ops hd l1 (i :: before) rest
/-- j waits for all of the list, by itself or by those that it waits for. -/
def waits (ops : Array Oper) (j : Nat) : List Nat → List Nat → Bool
  | _, [] => true
  | acc, i :: rest => ((direct ops j).contains i || acc.any (fun k => (direct ops k).contains i)) && waits ops j (i :: acc) rest
def chkTail (ops : Array Oper) (hd rd : List Nat) (l1 : Array Bool) : Bool := (List.range ops.size).all fun j => l1.getD j true || ((direct ops j).any (fun p => !hd.contains p && !l1.getD p true) || waits ops j [] rd)
def dstOf (ops : Array Oper) (i : Nat) : Option Tmp := (ops[i]?).bind (·.dst)
section
variable {ops : Array Oper} {hd : List Nat} {l1 : Array Bool}

theorem direct_ready {listed : Array Bool} {j : Nat} (h : j ∈ Region.ready .any ops listed) : ∀ p ∈ direct ops j, listed.getD p false = true := by
  obtain ⟨_, o, ho, hall⟩ := mem_ready.1 h
  intro p hp
  unfold direct at hp
  rw [ho] at hp
  simp only [List.mem_map, List.mem_filter] at hp
  obtain ⟨e, ⟨he, hb⟩, rfl⟩ := hp
  exact hall e (by simpa using he) hb
theorem ready_of {listed : Array Bool} {j : Nat} {o : Oper} (ho : ops[j]? = some o) (hl : listed.getD j true = false) (h : ∀ p ∈ direct ops j, listed.getD p false = true) : j ∈ Region.ready .any ops listed := by
  refine mem_ready.2 ⟨hl, o, ho, fun e he hb => h e.on ?_⟩
  unfold direct
  rw [ho]
  simp only [List.mem_map, List.mem_filter]
  exact ⟨e, ⟨by simpa using he, hb⟩, rfl⟩

theorem waits_all {listed : Array Bool} {j : Nat} (hj : ∀ p ∈ direct ops j, listed.getD p false = true) : ∀ (acc rd : List Nat), (∀ i ∈ acc, ∀ p ∈ direct ops i, listed.getD p false = true) →
    (∀ i ∈ rd, listed.getD i false = true → ∀ p ∈ direct ops i, listed.getD p false = true) → waits ops j acc rd = true → ∀ i ∈ rd, listed.getD i false = true
  | _, [], _, _, _, i, hi => by cases hi
  | acc, k :: rd, hacc, hcl, h, i, hi => by
    simp only [waits, Bool.and_eq_true, Bool.or_eq_true, List.contains_iff_mem, List.any_eq_true] at h
    have hk : listed.getD k false = true := by
      rcases h.1 with h1 | ⟨q, hq, h1⟩
      · exact hj k h1
      · exact hacc q hq k h1
    rcases List.mem_cons.1 hi with rfl | hi
    · exact hk
    · refine waits_all hj (k :: acc) rd (fun q hq => ?_) (fun q hq => hcl q (by simp [hq])) h.2 i hi
      rcases List.mem_cons.1 hq with rfl | hq
      · exact hcl q (by simp) hk
      · exact hacc q hq

theorem order_first {listed : Array Bool} {D : Nat → Bool} (hD : ∀ i ∈ hd, listed.getD i false = D i) (hl : ∀ p, hd.contains p = false → l1.getD p false = true → listed.getD p false = true) :
    ∀ (before rest : List Nat), (∀ i ∈ before, D i = true ∧ i ∈ hd) → (∀ i ∈ rest, i ∈ hd) → chkOrder ops hd l1 before rest = true → (∃ i ∈ rest, D i = false) → ∃ i ∈ rest, D i = false ∧ ∀ p ∈ direct ops i, listed.getD p false = true
  | _, [], _, _, _, h => by obtain ⟨_, h, _⟩ := h; cases h
  | before, k :: rest, hb, hr, h, hex => by
    simp only [chkOrder, Bool.and_eq_true, List.all_eq_true] at h
    by_cases hk : D k = true
    · obtain ⟨i, hi, h1, h2⟩ := order_first hD hl (k :: before) rest (fun i hi => by
        rcases List.mem_cons.1 hi with rfl | hi
        · exact ⟨hk, hr i (by simp)⟩
        · exact hb i hi) (fun i hi => hr i (by simp [hi])) h.2 (by
        obtain ⟨i, hi, h1⟩ := hex
        rcases List.mem_cons.1 hi with rfl | hi
        · rw [hk] at h1; cases h1
        · exact ⟨i, hi, h1⟩)
      exact ⟨i, by simp [hi], h1, h2⟩
    · refine ⟨k, by simp, by simpa using hk, fun p hp => ?_⟩
      have := h.1 p hp
      simp only [Bool.or_eq_true, List.contains_iff_mem, Bool.and_eq_true, Bool.not_eq_true'] at this
      rcases this with h1 | ⟨h1, h2⟩
      · rw [hD p (hb p h1).2]; exact (hb p h1).1
      · exact hl p h1 h2

/-- The frame when those of which D is true have come up. -/
def partA (ops : Array Oper) (D : Nat → Bool) (val : Nat → Value) (l : List Nat) (a : Act) : Act := l.foldl (fun a i => if D i then a.put (dstOf ops i) (val i) else a) a
def upd {α : Type} (f : Nat → α) (i : Nat) (x : α) (k : Nat) : α := if k = i then x else f k

theorem part_put {D : Nat → Bool} {val : Nat → Value} {i : Nat} {v : Value} : ∀ (l : List Nat) (a : Act), (∀ k ∈ l, ∀ d, dstOf ops k = some d → dstOf ops i ≠ some d) → (partA ops D val l a).put (dstOf ops i) v = partA ops D val l (a.put (dstOf ops i) v)
  | [], _, _ => rfl
  | k :: l, a, h => by
    unfold partA
    simp only [List.foldl_cons]
    by_cases hk : D k = true
    · rw [if_pos hk, if_pos hk]
      have := part_put (D := D) (val := val) (v := v) l (a.put (dstOf ops k) (val k)) fun k hk => h k (by simp [hk])
      unfold partA at this
      rw [this, Act.put_comm a (val k) v (h k (by simp))]
    · rw [if_neg hk, if_neg hk]
      have := part_put (D := D) (val := val) (v := v) l a fun k hk => h k (by simp [hk])
      unfold partA at this
      rw [this]
theorem part_upd {D : Nat → Bool} {val : Nat → Value} {i : Nat} {v : Value} : ∀ (l : List Nat) (a : Act), i ∉ l → partA ops (upd D i true) (upd val i v) l a = partA ops D val l a
  | [], _, _ => rfl
  | k :: l, a, h => by
    have hk : k ≠ i := fun e => h (by simp [e])
    unfold partA
    simp only [List.foldl_cons]
    have e1 : upd D i true k = D k := by unfold upd; rw [if_neg hk]
    have e2 : upd val i v k = val k := by unfold upd; rw [if_neg hk]
    rw [e1, e2]
    exact part_upd l _ fun hm => h (by simp [hm])
theorem part_step {D : Nat → Bool} {val : Nat → Value} {i : Nat} {v : Value} (hi : D i = false) : ∀ (l : List Nat) (a : Act), l.Nodup → i ∈ l → (∀ k ∈ l, k ≠ i → ∀ d, dstOf ops k = some d → dstOf ops i ≠ some d) →
    (partA ops D val l a).put (dstOf ops i) v = partA ops (upd D i true) (upd val i v) l a
  | [], _, _, h, _ => by cases h
  | k :: l, a, hn, hm, h => by
    obtain ⟨hk, hn⟩ := List.nodup_cons.1 hn
    by_cases e : k = i
    · subst e
      show ((k :: l).foldl (fun a i => if D i then a.put (dstOf ops i) (val i) else a) a).put _ _ = (k :: l).foldl (fun a i => if upd D k true i then a.put (dstOf ops i) (upd val k v i) else a) a
      simp only [List.foldl_cons]
      have e1 : upd D k true k = true := by unfold upd; rw [if_pos rfl]
      have e2 : upd val k v k = v := by unfold upd; rw [if_pos rfl]
      rw [e1, e2, if_neg (by rw [hi]; exact Bool.false_ne_true), if_pos rfl]
      have h1 := part_put (ops := ops) (D := D) (val := val) (i := k) (v := v) l a fun q hq => h q (by simp [hq]) (fun e => hk (e ▸ hq))
      have h2 := part_upd (ops := ops) (D := D) (val := val) (i := k) (v := v) l (a.put (dstOf ops k) v) hk
      unfold partA at h1 h2
      rw [h1, h2]
    · have e1 : upd D i true k = D k := by unfold upd; rw [if_neg e]
      have e2 : upd val i v k = val k := by unfold upd; rw [if_neg e]
      have hm' : i ∈ l := by
        rcases List.mem_cons.1 hm with h | h
        · exact absurd h.symm e
        · exact h
      show ((k :: l).foldl (fun a i => if D i then a.put (dstOf ops i) (val i) else a) a).put _ _ = (k :: l).foldl (fun a q => if upd D i true q then a.put (dstOf ops q) (upd val i v q) else a) a
      simp only [List.foldl_cons]
      rw [e1, e2]
      exact part_step hi l _ hn hm' fun q hq => h q (by simp [hq])
theorem part_full {D : Nat → Bool} {val : Nat → Value} : ∀ (l : List Nat) (a : Act), (∀ k ∈ l, D k = true) → partA ops D val l a = l.foldl (fun a i => a.put (dstOf ops i) (val i)) a
  | [], _, _ => rfl
  | k :: l, a, h => by
    unfold partA
    simp only [List.foldl_cons]
    rw [if_pos (h k (by simp))]
    exact part_full l _ fun q hq => h q (by simp [hq])
end

/-- What an operation yields: a value, or what the function that it enters hands back. -/
def StepR (o : Oper) (a : Act) (w : World) (R : Value → World → Prop) : Prop :=
  (∃ v w', (execOp a.eval o).run Tryz.prog w = .ok (.value v) w' ∧ R v w') ∨ ∃ f args, (execOp a.eval o).run Tryz.prog w = .ok (.enter f args) w ∧ Calls Tryz.prog f args w fun e w' => ∃ v, e = .returned v ∧ R v w'

theorem stepR_wp {o : Oper} {a0 a : Act} {w : World} {R : Value → World → Prop} {K : Act → World → Prop} {Q : Exit → Act → World → Prop} (he : execOp a.eval o = execOp a0.eval o) (h : StepR o a0 w R)
    (hK : ∀ v w', R v w' → K (a.put o.dst v) w') : o.wp Tryz.prog a w K Q := by
  unfold Oper.wp
  rw [he]
  rcases h with ⟨v, w', hr, h⟩ | ⟨f, args, hr, h⟩
  · rw [hr]; exact hK v w' h
  · rw [hr]
    refine Calls.mono h fun e w' ⟨v, hv, hR⟩ => ?_
    subst hv
    exact hK v w' hR

theorem step_call {o : Oper} {a : Act} {w : World} {f : FuncId} {xs : Array Operand} {ats : Array TypeId} {v : Value} (args : Array Value) (ho : o.op = .call { callee := .value (.func f), args := xs, argTypes := ats })
    (hn : ∀ args w, (callFunc f args).run Tryz.prog w = .ok (.enter f args) w) (ha : xs.map a.eval = args) (hc : Calls Tryz.prog f args w fun e w' => e = .returned v ∧ Below w.heap.size w w') :
    StepR o a w fun u w' => Below w.heap.size w w' ∧ u = v := by
  obtain ⟨dst, op, type, pos, after, guard⟩ := o
  dsimp only at ho
  subst ho
  refine .inr ⟨f, args, ?_, hc.mono fun e w' ⟨he, hb⟩ => ⟨v, he, hb, rfl⟩⟩
  rw [execOp_call_go]
  have e : (#[] ++ xs.map a.eval ++ #[] : Array Value) = xs.map a.eval := by simp
  rw [e, ha, hn]
theorem step_alloc {o : Oper} {a : Act} {w : World} {t : TypeId} {Z : Array Value} (ho : o.op = .alloc t) (hz : ∀ w, (zeroValue t).run Tryz.prog w = .ok (.agg Z) w) :
    StepR o a w fun u w' => Below w.heap.size w w' ∧ u = .pointer (some ⟨w.heap.size, 0, none⟩) ∧ At w' w.heap.size Z t := by
  refine .inl ⟨_, w.alloc (.cells Z t), ?_, (Below.refl _ _).alloc (Nat.le_refl _) _, rfl, At.new _ _ _⟩
  unfold execOp
  simp only [ho]
  simp [Instr.alloc, hz, go_sem]

theorem count_upd {D : Nat → Bool} {i : Nat} (hi : D i = false) : ∀ (l : List Nat), l.Nodup → i ∈ l → (l.filter fun k => !upd D i true k).length + 1 = (l.filter fun k => !D k).length
  | [], _, h => by cases h
  | k :: l, hn, hm => by
    obtain ⟨hk, hn⟩ := List.nodup_cons.1 hn
    by_cases e : k = i
    · subst e
      have e1 : upd D k true k = true := by unfold upd; rw [if_pos rfl]
      have e2 : l.filter (fun q => !upd D k true q) = l.filter (fun q => !D q) := List.filter_congr fun q hq => by
        have : q ≠ k := fun e => hk (by rw [← e]; exact hq)
        unfold upd
        rw [if_neg this]
      rw [List.filter_cons, List.filter_cons, e1, hi, e2]
      simp
    · have e1 : upd D i true k = D k := by unfold upd; rw [if_neg e]
      have hm' : i ∈ l := by
        rcases List.mem_cons.1 hm with h | h
        · exact absurd h.symm e
        · exact h
      have ih := count_upd hi l hn hm'
      rw [List.filter_cons, List.filter_cons, e1]
      cases D k <;> simp <;> omega

theorem getD_tf {l : Array Bool} {p : Nat} (hp : p < l.size) : l.getD p true = l.getD p false := by simp [hp]
theorem getD_lt {l : Array Bool} {p : Nat} (h : l.getD p false = true) : p < l.size := by
  by_cases hp : p < l.size
  · exact hp
  · simp [hp] at h
theorem getD_set {l : Array Bool} {i j : Nat} (b : Bool) (hi : i < l.size) : (l.setIfInBounds i true).getD j b = if j = i then true else l.getD j b := by
  by_cases e : j = i
  · subst e; rw [if_pos rfl]; simp [hi]
  · rw [if_neg e]
    simp only [Array.getD_eq_getD_getElem?, Array.getElem?_setIfInBounds_ne (fun h => e h.symm)]

/-- What has been yielded: a call's value; a new variable's place. -/
def Yp (W : World) (isA : Nat → Bool) (V : Nat → Value) (Zc : Nat → Array Value) (ty : Nat → TypeId) (i : Nat) (v : Value) (w : World) : Prop :=
  (isA i = false → v = V i) ∧ (isA i = true → ∃ b, v = .pointer (some ⟨b, 0, none⟩) ∧ At w b (Zc i) (ty i) ∧ W.heap.size ≤ b)

section
variable {ops : Array Oper} {Q : Exit → Act → World → Prop} {W : World} {fuel : Nat} {a0 : Act}

end

theorem StepR.mono {o : Oper} {a : Act} {w : World} {R R' : Value → World → Prop} (h : StepR o a w R) (hR : ∀ v w', R v w' → R' v w') : StepR o a w R' := by
  rcases h with ⟨v, w', hr, h⟩ | ⟨f, args, hr, h⟩
  · exact .inl ⟨v, w', hr, hR v w' h⟩
  · exact .inr ⟨f, args, hr, h.mono fun e w' ⟨v, hv, hh⟩ => ⟨v, hv, hR v w' hh⟩⟩
theorem st_call {isA : Nat → Bool} {V : Nat → Value} {Zc : Nat → Array Value} {ty : Nat → TypeId} {i : Nat} {o : Oper} {a : Act} {w : World} {f : FuncId} {xs : Array Operand} {ats : Array TypeId} {v : Value} (args : Array Value)
    (ho : o.op = .call { callee := .value (.func f), args := xs, argTypes := ats }) (hA : isA i = false) (hV : V i = v)
    (hn : ∀ args w, (callFunc f args).run Tryz.prog w = .ok (.enter f args) w) (ha : xs.map a.eval = args) (hc : Calls Tryz.prog f args w fun e w' => e = .returned v ∧ Below w.heap.size w w') :
    StepR o a w fun v w' => Below w.heap.size w w' ∧ (isA i = false → v = V i) ∧ (isA i = true → v = .pointer (some ⟨w.heap.size, 0, none⟩) ∧ At w' w.heap.size (Zc i) (ty i)) :=
  (step_call args ho hn ha hc).mono fun _ _ ⟨h1, h2⟩ => ⟨h1, fun _ => h2.trans hV.symm, fun h => by rw [hA] at h; cases h⟩
theorem st_alloc {isA : Nat → Bool} {V : Nat → Value} {Zc : Nat → Array Value} {ty : Nat → TypeId} {i : Nat} {o : Oper} {a : Act} {w : World} {t : TypeId} {Z : Array Value} (ho : o.op = .alloc t) (hA : isA i = true) (hZ : Zc i = Z) (ht : ty i = t)
    (hz : ∀ w, (zeroValue t).run Tryz.prog w = .ok (.agg Z) w) :
    StepR o a w fun v w' => Below w.heap.size w w' ∧ (isA i = false → v = V i) ∧ (isA i = true → v = .pointer (some ⟨w.heap.size, 0, none⟩) ∧ At w' w.heap.size (Zc i) (ty i)) :=
  (step_alloc ho hz).mono fun _ _ ⟨h1, h2, h3⟩ => ⟨h1, (fun h => by rw [hA] at h; cases h), fun _ => ⟨h2, by rw [hZ, ht]; exact h3⟩⟩

section
variable {ops : Array Oper} {Q : Exit → Act → World → Prop} {W : World} {fuel : Nat} {a : Act} {w : World} {listed : Array Bool} {oi : Oper}

theorem mv_store {i : Nat} {t t' : TypeId} {x y : Operand} (b : Nat) (A old : Array Value) (hi : ops[i]? = some oi) (hd : oi.dst = none) (hr : Region.ready .any ops listed = [i]) (hw : Region.wanted oi (yielded ops a.tmps) = true)
    (ho : oi.op = .store t x y) (hx : a.eval x = .pointer (some ⟨b, 0, none⟩)) (hy : a.eval y = .agg A) (hold : At w b old t') (hs : old.size = A.size) (h1 : A.all (·.oneCell') = true) (hsz : (Tryz.prog.info? t).map (·.size) = some A.size)
    (hb : W.heap.size ≤ b) (hS : SB W w) (h : SB W (w.setRow b A) → wpAnyH Tryz.prog .any ops (NoPanic Q) (SB W) fuel (listed.setIfInBounds i true) a (w.setRow b A)) :
    wpAnyH Tryz.prog .any ops (NoPanic Q) (SB W) (fuel + 1) listed a w := by
  refine wpAnyH_ready (rs := [i]) hr (by simp) ?_
  refine AllReadyH.cons hi (fun K hK => ?_) AllReadyH.nil
  rw [if_pos hw]
  refine wp_store_row t x y ho b A hx hy t' old hold hsz hs h1 ?_
  rw [hd]
  have hS' : SB W (w.setRow b A) := below_setRow' hS hb A
  exact hK.out _ _ hS' h
end

end Go.Proofs.YtfohinlldchdpaaGreatDoor.Row
end

section
/- Several variables made at once of calls that hand on to one another, 'x, y := f(g(a))': calls and what is made of them, each when what it waits for has come up; new variables, whenever; what is stored comes behind. For every package. -/
set_option linter.unusedVariables false
namespace Go.Proofs.YtfohinlldchdpaaGreatDoor.Row
open Go.RowKit

/-- No guards, and each has a slot of its own. -/
def chkD (ops : Array Oper) (hd : List Nat) : Bool := hd.all fun i => match ops[i]? with
  | some o => o.guard.isNone && (hd.all fun k => i == k || dstOf ops k != o.dst)
  | none => false

section
variable {ops : Array Oper} {D : Nat → Bool} {val : Nat → Value}
theorem eval_put_ne {a : Act} {e : Option Tmp} {v : Value} {d : Tmp} (h : e ≠ some d) : (a.put e v).eval (.tmp d) = a.eval (.tmp d) := by
  cases e with
  | none => rfl
  | some k =>
    have hk : k ≠ d := fun e => h (by rw [e])
    simp [Act.put, Act.eval, Array.getElem?_setIfInBounds_ne hk]
/-- A slot that none of the list writes. -/
theorem part_other {d : Tmp} : ∀ (l : List Nat) (a : Act), (l.all fun k => dstOf ops k != some d) = true → (partA ops D val l a).eval (.tmp d) = a.eval (.tmp d)
  | [], _, _ => rfl
  | k :: l, a, h => by
    simp only [List.all_cons, Bool.and_eq_true, bne_iff_ne] at h
    unfold partA
    simp only [List.foldl_cons]
    have := part_other l (if D k = true then a.put (dstOf ops k) (val k) else a) h.2
    unfold partA at this
    rw [this]
    split
    · exact eval_put_ne h.1
    · rfl
/-- A slot that one of the list has written. -/
theorem part_eval {d : Tmp} (i : Nat) (hi : dstOf ops i = some d) (hD : D i = true) : ∀ (l : List Nat) (a : Act), l.contains i = true → (l.all fun k => k == i || dstOf ops k != some d) = true → decide (d < a.tmps.size) = true → (partA ops D val l a).eval (.tmp d) = val i
  | [], _, h, _, _ => by cases h
  | k :: l, a, hm, h, hs => by
    simp only [List.all_cons, Bool.and_eq_true, Bool.or_eq_true, beq_iff_eq, bne_iff_ne] at h
    rw [decide_eq_true_iff] at hs
    by_cases hl : l.contains i = true
    · unfold partA
      simp only [List.foldl_cons]
      have := part_eval i hi hD l (if D k = true then a.put (dstOf ops k) (val k) else a) hl h.2 (by
        rw [decide_eq_true_iff]
        split
        · unfold Act.put; split
          · simpa using hs
          · exact hs
        · exact hs)
      unfold partA at this
      exact this
    · have e : k = i := by
        simp only [List.contains_iff_mem, List.mem_cons] at hm hl
        exact (hm.resolve_right hl).symm
      subst e
      have hn : (l.all fun q => dstOf ops q != some d) = true := by
        rw [List.all_eq_true]
        intro q hq
        have := h.2
        rw [List.all_eq_true] at this
        have := this q hq
        simp only [Bool.or_eq_true, beq_iff_eq, bne_iff_ne] at this
        rw [bne_iff_ne]
        exact this.resolve_left fun e => hl (by rw [← e]; simpa using hq)
      unfold partA
      simp only [List.foldl_cons]
      have := part_other (D := D) (val := val) l (if D k = true then a.put (dstOf ops k) (val k) else a) hn
      unfold partA at this
      rw [this, if_pos hD, hi]
      simp [Act.put, Act.eval, hs]
end

section
variable {ops : Array Oper} {Q : Exit → Act → World → Prop} {W : World} {fuel : Nat} {a0 : Act}

theorem parD (hd rd : List Nat) (x : Nat) (isA : Nat → Bool) (V : Nat → Value) (Zc : Nat → Array Value) (ty : Nat → TypeId) (l0 l1 : Array Bool)
    (hnd : hd.Nodup) (hrd : ∀ i ∈ hd, i ≠ x → i ∈ rd) (hdr : ∀ i ∈ rd, i ∈ hd) (hsz : l1.size = ops.size) (hin : ∀ i ∈ hd, l1.getD i false = true)
    (hx : x ∈ hd) (hxA : isA x = false) (hl01 : l1 = l0.setIfInBounds x true) (hl0 : l0.getD x true = false) (c6 : Region.free .any ops l0 x = true) (c7 : (Region.ready .any ops l0).contains x = true)
    (c1 : chkOrder ops hd l1 [] hd = true) (c2 : chkTail ops hd rd l1 = true) (c3 : chkD ops hd = true) (c4 : Region.noSelect ops = true)
    (hstep : ∀ i ∈ hd, ∀ o, ops[i]? = some o → ∀ D val w, SB W w → (∀ p ∈ direct ops i, p ∈ hd → D p = true) → (∀ k ∈ hd, D k = true → isA k = false → val k = V k) → StepR o (partA ops D val hd a0) w fun v w' => Below w.heap.size w w' ∧ (isA i = false → v = V i) ∧ (isA i = true → v = .pointer (some ⟨w.heap.size, 0, none⟩) ∧ At w' w.heap.size (Zc i) (ty i)))
    (hlate : ∀ o, ops[x]? = some o → ∀ D val, (∀ p ∈ direct ops x, p ∈ hd → D p = true) → (∀ k ∈ hd, D k = true → isA k = false → val k = V k) → YieldsIf Tryz.prog ops (SB W) o (V x) (partA ops D val hd a0))
    (fin : ∀ (val : Nat → Value) (w : World), SB W w → (∀ i ∈ hd, Yp W isA V Zc ty i (val i) w) → (∀ i ∈ hd, ∀ k ∈ hd, i ≠ k → isA i = true → isA k = true → val i ≠ val k) →
      wpAnyH Tryz.prog .any ops (NoPanic Q) (SB W) fuel l1 (hd.foldl (fun a i => a.put (dstOf ops i) (val i)) a0) w) :
    ∀ (n : Nat) (D : Nat → Bool) (val : Nat → Value) (listed : Array Bool) (w : World), (hd.filter fun i => !D i).length = n → listed.size = ops.size → (∀ j, listed.getD j true = if hd.contains j then D j else l1.getD j true) →
      (∀ i ∈ hd, D i = true → ∀ p ∈ direct ops i, listed.getD p false = true) → SB W w → (∀ i ∈ hd, D i = true → Yp W isA V Zc ty i (val i) w) →
      (∀ i ∈ hd, ∀ k ∈ hd, i ≠ k → D i = true → D k = true → isA i = true → isA k = true → val i ≠ val k) →
      wpAnyH Tryz.prog .any ops (NoPanic Q) (SB W) (n + fuel) listed (partA ops D val hd a0) w := by
  intro n
  have hlt : ∀ i ∈ hd, i < ops.size := fun i hi => by rw [← hsz]; exact getD_lt (hin i hi)
  have hsel := Region.noSelect_spec c4
  induction n with
  | zero =>
    intro D val listed w hc hs hl _ hS hY hV
    have hD : ∀ i ∈ hd, D i = true := fun i hi => by
      cases h : D i
      · have : i ∈ hd.filter fun i => !D i := by simp [hi, h]
        rw [List.length_eq_zero_iff.1 hc] at this
        cases this
      · rfl
    have e : listed = l1 := by
      apply Array.ext (by rw [hs, hsz])
      intro j h1 h2
      have hj := hl j
      have hj2 : (if hd.contains j then D j else l1.getD j true) = l1.getD j true := by
        by_cases hm : hd.contains j = true
        · rw [if_pos hm]
          have hm' : j ∈ hd := by simpa using hm
          rw [hD j hm', getD_tf h2, hin j hm']
        · rw [if_neg hm]
      rw [hj2] at hj
      simpa [h1, h2] using hj
    rw [e, part_full hd a0 hD, Nat.zero_add]
    exact fin val w hS (fun i hi => hY i hi (hD i hi)) (fun i hi k hk hne ha hb => hV i hi k hk hne (hD i hi) (hD k hk) ha hb)
  | succ n ih =>
    intro D val listed w hc hs hl hcl hS hY hV
    have hDl : ∀ i ∈ hd, listed.getD i false = D i := fun i hi => by
      have := hl i
      rw [if_pos (by simpa using hi), getD_tf (by rw [hs]; exact hlt i hi)] at this
      exact this
    have hl1 : ∀ p, hd.contains p = false → l1.getD p false = true → listed.getD p false = true := fun p hp h => by
      have hp2 := getD_lt h
      have := hl p
      rw [if_neg (by rw [hp]; exact Bool.false_ne_true), getD_tf (l := l1) hp2, h, getD_tf (by rw [hs, ← hsz]; exact hp2)] at this
      exact this
    have hex : ∃ i ∈ hd, D i = false := by
      cases hf : hd.filter fun i => !D i with
      | nil => rw [hf] at hc; simp at hc
      | cons i l =>
        have : i ∈ hd.filter fun i => !D i := by rw [hf]; simp
        simp only [List.mem_filter, Bool.not_eq_true'] at this
        exact ⟨i, this.1, this.2⟩
    have hdst : ∀ i ∈ hd, ∀ k ∈ hd, k ≠ i → ∀ d, dstOf ops k = some d → dstOf ops i ≠ some d := fun i hih k hk hne d hkd => by
      have ho := Array.getElem?_eq_getElem (hlt i hih)
      have h := c3
      unfold chkD at h
      rw [List.all_eq_true] at h
      have h1 := h i hih
      simp only [ho, Bool.and_eq_true, List.all_eq_true] at h1
      have h3 := h1.2 k hk
      simp only [Bool.or_eq_true, beq_iff_eq, bne_iff_ne] at h3
      unfold dstOf at hkd ⊢
      rw [ho]
      intro e
      refine h3.resolve_left (fun e => hne e.symm) ?_
      unfold dstOf
      rw [hkd]
      exact e.symm
    have hWs : W.heap.size ≤ w.heap.size := Below.size hS
    have step : ∀ i ∈ hd, D i = false → (∀ p ∈ direct ops i, listed.getD p false = true) → ∀ v w', Below w.heap.size w w' → (isA i = false → v = V i) →
        (isA i = true → v = .pointer (some ⟨w.heap.size, 0, none⟩) ∧ At w' w.heap.size (Zc i) (ty i)) →
        wpAnyH Tryz.prog .any ops (NoPanic Q) (SB W) (n + fuel) (listed.setIfInBounds i true) ((partA ops D val hd a0).put (dstOf ops i) v) w' := by
      intro i hih hDi hdir v w' hb hv1 hv2
      have hS' : SB W w' := below_trans hS hb (Below.size hS)
      rw [part_step hDi hd a0 hnd hih (hdst i hih)]
      have hi2 : i < listed.size := by rw [hs]; exact hlt i hih
      refine ih (upd D i true) (upd val i v) (listed.setIfInBounds i true) w' ?_ ?_ ?_ ?_ hS' ?_ ?_
      · have := count_upd hDi hd hnd hih
        omega
      · rw [Array.size_setIfInBounds, hs]
      · intro j
        rw [getD_set true hi2]
        by_cases e : j = i
        · subst e
          rw [if_pos rfl, if_pos (by simpa using hih)]
          unfold upd
          rw [if_pos rfl]
        · rw [if_neg e, hl j]
          unfold upd
          rw [if_neg e]
      · intro k hk hkD p hp
        rw [getD_set false hi2]
        by_cases e : p = i
        · rw [if_pos e]
        · rw [if_neg e]
          by_cases e2 : k = i
          · subst e2; exact hdir p hp
          · have : D k = true := by unfold upd at hkD; rw [if_neg e2] at hkD; exact hkD
            exact hcl k hk this p hp
      · intro k hk hkD
        by_cases e : k = i
        · subst e
          have e2 : upd val k v k = v := by unfold upd; rw [if_pos rfl]
          rw [e2]
          exact ⟨hv1, fun ha => ⟨_, (hv2 ha).1, (hv2 ha).2, hWs⟩⟩
        · have e2 : upd val i v k = val k := by unfold upd; rw [if_neg e]
          have hkD' : D k = true := by unfold upd at hkD; rw [if_neg e] at hkD; exact hkD
          rw [e2]
          obtain ⟨y1, y2⟩ := hY k hk hkD'
          exact ⟨y1, fun ha => by obtain ⟨b, h1, h2, h3⟩ := y2 ha; exact ⟨b, h1, h2.below hb h2.lt, h3⟩⟩
      · have key : ∀ k ∈ hd, k ≠ i → D k = true → isA i = true → isA k = true → v ≠ val k := fun k hk hne hkD hai hak => by
          obtain ⟨b, h1, h2, _⟩ := (hY k hk hkD).2 hak
          have h3 := h2.lt
          rw [(hv2 hai).1, h1]
          intro e
          injection e with e
          injection e with e
          injection e with e
          omega
        intro k hk q hq hne hkD hqD hak haq
        by_cases e : k = i
        · subst e
          have e3 : upd val k v k = v := by unfold upd; rw [if_pos rfl]
          have e4 : upd val k v q = val q := by unfold upd; rw [if_neg (fun h => hne h.symm)]
          rw [e3, e4]
          exact key q hq (fun h => hne h.symm) (by unfold upd at hqD; rw [if_neg (fun h => hne h.symm)] at hqD; exact hqD) hak haq
        · have e3 : upd val i v k = val k := by unfold upd; rw [if_neg e]
          have hkD' : D k = true := by unfold upd at hkD; rw [if_neg e] at hkD; exact hkD
          by_cases e2 : q = i
          · subst e2
            have e4 : upd val q v q = v := by unfold upd; rw [if_pos rfl]
            rw [e3, e4]
            exact (key k hk e hkD' haq hak).symm
          · have e4 : upd val i v q = val q := by unfold upd; rw [if_neg e2]
            rw [e3, e4]
            exact hV k hk q hq hne hkD' (by unfold upd at hqD; rw [if_neg e2] at hqD; exact hqD) hak haq
    rw [show n + 1 + fuel = (n + fuel) + 1 by omega]
    by_cases hall : ∀ i ∈ hd, i ≠ x → D i = true
    · have hDx : D x = false := by
        obtain ⟨i, hi, h⟩ := hex
        by_cases e : i = x
        · rw [← e]; exact h
        · rw [hall i hi e] at h; cases h
      have e : listed = l0 := by
        have hs0 : l0.size = ops.size := by rw [← hsz, hl01, Array.size_setIfInBounds]
        have hx0 : x < l0.size := by rw [hs0]; exact hlt x hx
        apply Array.ext (by rw [hs, hs0])
        intro j h1 h2
        have hj := hl j
        by_cases ex : j = x
        · subst ex
          rw [if_pos (by simpa using hx), hDx, ← hl0] at hj
          simpa [h1, h2] using hj
        · have e0 : l1.getD j true = l0.getD j true := by rw [hl01, getD_set true hx0, if_neg ex]
          have hj2 : (if hd.contains j then D j else l1.getD j true) = l1.getD j true := by
            by_cases hm : hd.contains j = true
            · rw [if_pos hm]
              have hm' : j ∈ hd := by simpa using hm
              rw [hall j hm' ex, getD_tf (by rw [hsz]; exact hlt j hm'), hin j hm']
            · rw [if_neg hm]
          rw [hj2, e0] at hj
          simpa [h1, h2] using hj
      have ho := Array.getElem?_eq_getElem (hlt x hx)
      have hr : x ∈ Region.ready .any ops listed := by rw [e]; simpa using c7
      have hdir := direct_ready hr
      have hdo : dstOf ops x = (ops[x]'(hlt x hx)).dst := by unfold dstOf; rw [ho]; rfl
      refine wpAnyH_take ho c4 (by rw [e]; exact c6) (by rw [e]; exact c7) (fun _ _ _ h => h) (hlate _ ho D val (fun p hp hph => by rw [← hDl p hph]; exact hdir p hp) (fun k hk hkD => (hY k hk hkD).1)) hS ?_
      rw [← hdo]
      exact step x hx hDx hdir (V x) w (Below.refl _ _) (fun _ => rfl) (fun h => by rw [hxA] at h; cases h)
    refine ⟨fun hr => ?_, fun i hi => ?_⟩
    · obtain ⟨i, hi, h1, h2⟩ := order_first hDl hl1 [] hd (fun i hi => by cases hi) (fun i hi => hi) c1 hex
      have hmem : i ∈ Region.ready .any ops listed := ready_of (Array.getElem?_eq_getElem (hlt i hi)) (by rw [getD_tf (by rw [hs]; exact hlt i hi), hDl i hi, h1]) h2
      rw [hr] at hmem
      cases hmem
    · obtain ⟨hun, o, ho, _⟩ := mem_ready.1 hi
      have hdir := direct_ready hi
      have hih : i ∈ hd := by
        by_cases hm : i ∈ hd
        · exact hm
        · exfalso
          have h1 := hl i
          rw [hun, if_neg (by simpa using hm)] at h1
          have hisz : i < ops.size := by
            rcases Nat.lt_or_ge i ops.size with h | h
            · exact h
            · rw [Array.getElem?_eq_none h] at ho; cases ho
          have h2 : (l1.getD i true || ((direct ops i).any (fun p => !hd.contains p && !l1.getD p true) || waits ops i [] rd)) = true := by
            have := c2
            unfold chkTail at this
            rw [List.all_eq_true] at this
            exact this i (by simpa using hisz)
          rw [← h1, Bool.false_or, Bool.or_eq_true] at h2
          have h2 : waits ops i [] rd = true := h2.resolve_left fun h => by
            rw [List.any_eq_true] at h
            obtain ⟨p, hp, hpn⟩ := h
            simp only [Bool.and_eq_true, Bool.not_eq_true'] at hpn
            have h4 := hdir p hp
            have h5 := hl p
            rw [if_neg (by rw [hpn.1]; exact Bool.false_ne_true), hpn.2, getD_tf (getD_lt h4), h4] at h5
            cases h5
          have h3 := waits_all hdir [] rd (fun _ h => by cases h) (fun q hq hql => hcl q (hdr q hq) (by rw [← hDl q (hdr q hq)]; exact hql)) h2
          refine hall fun k hk hkx => ?_
          rw [← hDl k hk]
          exact h3 k (hrd k hk hkx)
      have hDi : D i = false := by rw [← hDl i hih, ← getD_tf (by rw [hs]; exact hlt i hih)]; exact hun
      have hg : o.guard = none := by
        have h := c3
        unfold chkD at h
        rw [List.all_eq_true] at h
        have h1 := h i hih
        simp only [ho, Bool.and_eq_true] at h1
        simpa using h1.1
      have hdo : dstOf ops i = o.dst := by unfold dstOf; rw [ho]; rfl
      unfold wpOp
      simp only [ho]
      rw [if_pos (by simp [Region.wanted, hg])]
      refine .inl (stepR_wp rfl (hstep i hih o ho D val w hS (fun p hp hph => by rw [← hDl p hph]; exact hdir p hp) (fun k hk hkD => (hY k hk hkD).1)) fun v w' ⟨hb, hv1, hv2⟩ => ?_)
      have hS' : SB W w' := below_trans hS hb (Below.size hS)
      refine ⟨hS', ?_⟩
      rw [← hdo]
      exact step i hih hDi hdir v w' hb hv1 hv2
end

section
variable {ops : Array Oper} {Q : Exit → Act → World → Prop} {W : World} {fuel : Nat} {a : Act} {w : World} {listed : Array Bool} {oi : Oper}

theorem parD0 (hd rd : List Nat) (x : Nat) (isA : Nat → Bool) (V : Nat → Value) (Zc : Nat → Array Value) (ty : Nat → TypeId) (l0 l1 : Array Bool) (F : Nat) (hF : F = hd.length + fuel)
    (hnd : hd.Nodup) (hrd : ∀ i ∈ hd, i ≠ x → i ∈ rd) (hdr : ∀ i ∈ rd, i ∈ hd) (hsz : l1.size = ops.size) (hin : (hd.all fun i => l1.getD i false) = true)
    (c0 : ((List.range ops.size).all fun j => listed.getD j true == (if hd.contains j then false else l1.getD j true)) = true) (c5 : listed.size = ops.size)
    (hx : x ∈ hd) (hxA : isA x = false) (hl01 : l1 = l0.setIfInBounds x true) (hl0 : l0.getD x true = false) (c6 : Region.free .any ops l0 x = true) (c7 : (Region.ready .any ops l0).contains x = true)
    (c1 : chkOrder ops hd l1 [] hd = true) (c2 : chkTail ops hd rd l1 = true) (c3 : chkD ops hd = true) (c4 : Region.noSelect ops = true) (hS : SB W w)
    (hstep : ∀ i ∈ hd, ∃ o, ops[i]? = some o ∧ ∀ D val w, SB W w → (∀ p ∈ direct ops i, p ∈ hd → D p = true) → (∀ k ∈ hd, D k = true → isA k = false → val k = V k) → StepR o (partA ops D val hd a) w fun v w' => Below w.heap.size w w' ∧ (isA i = false → v = V i) ∧ (isA i = true → v = .pointer (some ⟨w.heap.size, 0, none⟩) ∧ At w' w.heap.size (Zc i) (ty i)))
    (hlate : ∃ o, ops[x]? = some o ∧ ∀ D val, (∀ p ∈ direct ops x, p ∈ hd → D p = true) → (∀ k ∈ hd, D k = true → isA k = false → val k = V k) → YieldsIf Tryz.prog ops (SB W) o (V x) (partA ops D val hd a))
    (fin : ∀ (val : Nat → Value) (w : World), SB W w → (∀ i ∈ hd, Yp W isA V Zc ty i (val i) w) → (∀ i ∈ hd, ∀ k ∈ hd, i ≠ k → isA i = true → isA k = true → val i ≠ val k) →
      wpAnyH Tryz.prog .any ops (NoPanic Q) (SB W) fuel l1 (hd.foldl (fun a i => a.put (dstOf ops i) (val i)) a) w) :
    wpAnyH Tryz.prog .any ops (NoPanic Q) (SB W) F listed a w := by
  have hin' : ∀ i ∈ hd, l1.getD i false = true := fun i hi => by rw [List.all_eq_true] at hin; exact hin i hi
  have e : partA ops (fun _ => false) (fun _ => undef) hd a = a := by
    unfold partA
    generalize hd = l
    induction l with
    | nil => rfl
    | cons k l ih => simp only [List.foldl_cons, Bool.false_eq_true, if_false]; exact ih
  have := parD (ops := ops) (Q := Q) (W := W) (fuel := fuel) (a0 := a) hd rd x isA V Zc ty l0 l1 hnd hrd hdr hsz hin' hx hxA hl01 hl0 c6 c7 c1 c2 c3 c4 (fun i hi o ho => by obtain ⟨o', ho', h⟩ := hstep i hi; rw [ho] at ho'; injection ho' with e; subst e; exact h) (fun o ho => by obtain ⟨o', ho', h⟩ := hlate; rw [ho] at ho'; injection ho' with e; subst e; exact h) fin hd.length (fun _ => false) (fun _ => undef) listed w
    (by simp) c5 (fun j => by
      by_cases hj : j < ops.size
      · rw [List.all_eq_true] at c0
        have := c0 j (by simpa using hj)
        simpa using this
      · have hm : hd.contains j = false := by
          cases hc : hd.contains j
          · rfl
          · exact absurd (by rw [← hsz]; exact getD_lt (hin' j (by simpa using hc))) hj
        rw [hm]
        simp [c5, hsz, hj]) (fun _ _ h => by cases h) hS (fun _ _ h => by cases h) (fun _ _ _ _ _ h => by cases h)
  rw [e] at this
  rw [hF]
  exact this
end

/-- An operation that only reckons. -/
theorem st_run {isA : Nat → Bool} {V : Nat → Value} {Zc : Nat → Array Value} {ty : Nat → TypeId} {i : Nat} {o : Oper} {a : Act} {w : World} {v : Value} (hr : (execOp a.eval o).run Tryz.prog w = .ok (.value v) w) (hA : isA i = false) (hV : V i = v) :
    StepR o a w fun v w' => Below w.heap.size w w' ∧ (isA i = false → v = V i) ∧ (isA i = true → v = .pointer (some ⟨w.heap.size, 0, none⟩) ∧ At w' w.heap.size (Zc i) (ty i)) :=
  .inl ⟨v, w, hr, Below.refl _ _, fun _ => hV.symm, fun h => by rw [hA] at h; cases h⟩
theorem run_move {o : Oper} {a : Act} {w : World} {y : Operand} {v : Value} (ho : o.op = .move y) (hy : a.eval y = v) : (execOp a.eval o).run Tryz.prog w = .ok (.value v) w := by
  unfold execOp; simp only [ho, hy]; rfl
theorem run_extract {o : Oper} {a : Act} {w : World} {y : Operand} {n : Nat} {vs : Array Value} {v : Value} (ho : o.op = .extract y n) (hy : a.eval y = .tuple vs) (hv : vs[n]? = some v) : (execOp a.eval o).run Tryz.prog w = .ok (.value v) w := by
  unfold execOp; simp only [ho, hy]; simp [Instr.extract, hv, go_sem]
theorem map1 {f : Operand → Value} {x : Operand} {v : Value} (h : f x = v) : #[x].map f = #[v] := by simp [h]
/-- What an operation that only reckons yields. -/
theorem y_of_run {ops : Array Oper} {S : World → Prop} {o : Oper} {a : Act} {v : Value} (hw : Region.wanted o (yielded ops a.tmps) = true) (hr : ∀ w, (execOp a.eval o).run Tryz.prog w = .ok (.value v) w) : YieldsIf Tryz.prog ops S o v a := y_run hw hr
end Go.Proofs.YtfohinlldchdpaaGreatDoor.Row
end

section
/- A struct (or a row) all of whose cells are whole numbers, however deep, that comes in as an argument: its numbers. -/
set_option linter.unusedVariables false
set_option maxRecDepth 100000
namespace Go.Proofs.YtfohinlldchdpaaGreatDoor.Row
open Go.ChangeShapes Go.WideShapes Go.ChangeAt Go.RowKit

/-- Whatever is read as t is numbers, cell by cell. -/
def Flat {H : Type} (enc : TypeId × Value → H) (W : World) (base : Nat) (sp : Nat → Bool) (held : Bool) (t : TypeId) : Prop :=
  ∀ fuel cs x, DataW.trod enc Tryz.prog W base sp held fuel t cs = some x → ∀ k, k < Tryz.prog.cellsOf t → ∃ n : Int, cs[k]? = some (.int .i64 n) ∧ (Lit.int .i64 n).wf = true

section
variable {H : Type} {enc : TypeId × Value → H} {W : World} {base : Nat} {sp : Nat → Bool} {held : Bool} {t e : TypeId} {m : Nat}

theorem Flat.int (ht : Tryz.prog.underlying t = some (.int .i64)) (hc : Tryz.prog.cellsOf t = 1) : Flat enc W base sp held t := fun fuel cs x h k hk => by
  obtain ⟨n, rfl, _, hw⟩ := DataW.trod_int ht h
  obtain rfl : k = 0 := by omega
  exact ⟨n, rfl, hw⟩

theorem Flat.part {cs : List Value} {o c k : Nat} {v : Value} (h : ((cs.drop o).take c)[k]? = some v) : cs[o + k]? = some v := by
  have hk : k < c := by
    have h1 := (List.getElem?_eq_some_iff.1 h).1
    simp only [List.length_take] at h1
    omega
  rw [List.getElem?_take_of_lt hk, List.getElem?_drop] at h
  exact h

theorem Flat.array (hf : Flat enc W base sp held e) (ht : Tryz.prog.underlying t = some (.array m e)) (hc : Tryz.prog.cellsOf t = m * Tryz.prog.cellsOf e) : Flat enc W base sp held t := fun fuel cs x h k hk => by
  obtain ⟨xs, n, _, _, hl, hx, hi⟩ := DataW.trod_array ht h
  rw [hc] at hk
  have hc0 : 0 < Tryz.prog.cellsOf e := by
    rcases Nat.eq_zero_or_pos (Tryz.prog.cellsOf e) with h0 | h0
    · rw [h0] at hk; omega
    · exact h0
  have hd : k / Tryz.prog.cellsOf e < m := (Nat.div_lt_iff_lt_mul hc0).2 hk
  have hr := hi _ hd
  rw [List.getElem?_eq_getElem (by omega)] at hr
  obtain ⟨v, hv, hw⟩ := hf _ _ _ hr _ (Nat.mod_lt k hc0)
  refine ⟨v, ?_, hw⟩
  have := Flat.part hv
  rwa [Nat.mul_comm, Nat.div_add_mod] at this

theorem Flat.struct {fs : Array Field} (ht : Tryz.prog.underlying t = some (.struct fs)) (hf : ∀ (i : Nat) (f : Field), fs[i]? = some f → Flat enc W base sp held f.type)
    (hc : ∀ k, k < Tryz.prog.cellsOf t → ∃ (i : Nat) (f : Field), fs[i]? = some f ∧ f.offset ≤ k ∧ k < f.offset + Tryz.prog.cellsOf f.type) : Flat enc W base sp held t := fun fuel cs x h k hk => by
  obtain ⟨xs, n, _, _, hl, hx, hi⟩ := DataW.trod_struct ht h
  obtain ⟨i, f, h1, h2, h3⟩ := hc k hk
  have hs : i < xs.length := by rw [hx]; exact (Array.getElem?_eq_some_iff.1 h1).1
  have hr := hi i f h1
  rw [List.getElem?_eq_getElem hs] at hr
  obtain ⟨v, hv, hw⟩ := hf i f h1 _ _ _ hr (k - f.offset) (by omega)
  refine ⟨v, ?_, hw⟩
  have := Flat.part hv
  rwa [Nat.add_sub_cancel' h2] at this

theorem open_flat {r : Reach} {b0 : Nat} {v : Value} {d : DataW H} {ps : List MemPlace} {td : TypeDesc} (hu : Tryz.prog.underlying t = some td) (hd : td.isRow = true) (hf : Flat enc W base sp held t) (hm : Tryz.prog.cellsOf t = m)
    (hok : Value.okWide Tryz.prog W r b0 t v) (h : DataW.Trod enc Tryz.prog W base sp held t v d ps) :
    ∃ T : Array Value, v = .agg T ∧ IsRow m (intsOf T) T ∧ ∀ k, k < m → (Lit.int .i64 (intsOf T k)).wf = true := by
  have hok' : ∃ T : Array Value, v = .agg T ∧ T.size = m := by
    unfold Value.okWide at hok
    rw [hu, hm] at hok
    cases td <;> first | (cases hd; done) | (obtain ⟨T, h1, h2, _⟩ := hok; exact ⟨T, h1, h2⟩)
  obtain ⟨T, rfl, hs⟩ := hok'
  obtain ⟨fuel, hfu⟩ := h
  have key : ∀ k, k < m → ∃ x : Int, T[k]? = some (.int .i64 x) ∧ (Lit.int .i64 x).wf = true := fun k hk => by
    obtain ⟨x, hx, wx⟩ := hf _ _ _ hfu k (by omega)
    exact ⟨x, by simpa [Value.cells] using hx, wx⟩
  have hi : ∀ k, k < m → T[k]? = some (.int .i64 (intsOf T k)) ∧ (Lit.int .i64 (intsOf T k)).wf = true := fun k hk => by
    obtain ⟨x, hx, wx⟩ := key k hk
    have : intsOf T k = x := by unfold intsOf; rw [hx]
    rw [this]
    exact ⟨hx, wx⟩
  refine ⟨T, rfl, ⟨hs, ?_, fun k hk => (hi k hk).1⟩, fun k hk => (hi k hk).2⟩
  rw [Array.all_eq_true]
  intro i hi'
  have := (hi i (by omega)).1
  rw [Array.getElem?_eq_getElem hi'] at this
  injection this with this
  rw [this]
  rfl
end
end Go.Proofs.YtfohinlldchdpaaGreatDoor.Row
end
