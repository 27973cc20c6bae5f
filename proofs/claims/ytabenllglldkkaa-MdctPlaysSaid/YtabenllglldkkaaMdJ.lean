/- Rows compared and built; contract of the statements' awake. -/
import Derived.Test.YtabenllglldkkaaMdI
import Derived.Laws.StructEq
import Derived.Laws.Tables
namespace Go.Proofs.Ytabenllglldkkaa.Md
open Go.RowKit Go.Proofs.Ytabenllglldkkaa.Ang

theorem sizeOf_int (w : World) : (sizeOf 3).run Try.prog w = .ok 1 w := by
  have h : (Try.prog.info? 3).map (·.size) = some 1 := by kernel_rfl
  cases hi : Try.prog.info? 3 with
  | none => rw [hi] at h; cases h
  | some i =>
    rw [hi] at h
    injection h with h
    simp [sizeOf, typeInfo, hi, h]

theorem part_int {T : Array Value} {i : Nat} {x : Int} (h : T[i]? = some (.int .i64 x)) (w : World) : (part 3 T (i * 1)).run Try.prog w = .ok (.int .i64 x) w := by
  simp [part, isAgg, run_underlying Try.underlying3, h]

/-- Rows compared, number by number. -/
theorem run_rows {t : TypeId} {m d : Nat} {f g : Nat → Int} {T U : Array Value} (hu : Try.prog.underlying t = some (.array m 3)) (hT : IsRow m f T) (hU : IsRow m g U) (w : World) :
    (Op.equalIn (d + 2) t (.agg T) (.agg U)).run Try.prog w = .ok ((List.range' 0 m 1).all fun i => f i == g i) w := by
  rw [Op.equalIn]
  simp only [Sem.run_bind, run_underlying hu, Result.andThen_ok, sizeOf_int, Std.Legacy.Range.forIn_eq_forIn_range', Std.Legacy.Range.size, Nat.sub_zero, Nat.add_sub_cancel, Nat.div_one]
  have hl : ∀ i ∈ List.range' 0 m 1, i < m := fun i hi => by simpa using (List.mem_range'_1.1 hi).2
  generalize List.range' 0 m 1 = l at hl ⊢
  induction l with
  | nil => simp
  | cons i l ih =>
    have hi : i < m := hl i (by simp)
    have pe : (Op.equalIn (d + 1) 3 (.int .i64 (f i)) (.int .i64 (g i))).run Try.prog w = .ok (f i == g i) w := run_equalIn_int w d _ .i64 .i64 _ _ Try.underlying3
    simp only [List.forIn_cons, Sem.run_bind, part_int (hT.2.2 i hi), part_int (hU.2.2 i hi), pe, Result.andThen_ok, List.all_cons]
    cases hb : (f i == g i)
    · simp
    · simp only [Bool.not_true, Bool.false_eq_true, if_false, Sem.run_pure, Result.andThen_ok, Bool.true_and]
      exact ih fun j hj => hl j (by simp [hj])

theorem rows_eq {m : Nat} {f g : Nat → Int} {T U : Array Value} (hT : IsRow m f T) (hU : IsRow m g U) (h : ∀ i, i < m → f i = g i) {t : TypeId} (hu : Try.prog.underlying t = some (.array m 3)) (w : World) :
    (Op.equalIn 10000 t (.agg T) (.agg U)).run Try.prog w = .ok true w := by
  rw [run_rows (d := 9998) hu hT hU w]
  congr 1
  rw [List.all_eq_true]
  intro i hi
  rw [beq_iff_eq]
  exact h i (by simpa using (List.mem_range'_1.1 hi).2)
theorem rows_ne {m : Nat} {f g : Nat → Int} {T U : Array Value} (hT : IsRow m f T) (hU : IsRow m g U) (i : Nat) (hi : i < m) (h : f i ≠ g i) {t : TypeId} (hu : Try.prog.underlying t = some (.array m 3)) (w : World) :
    (Op.equalIn 10000 t (.agg T) (.agg U)).run Try.prog w = .ok false w := by
  rw [run_rows (d := 9998) hu hT hU w]
  congr 1
  rw [List.all_eq_false]
  exact ⟨i, by simpa using hi, by simpa using h⟩

theorem no_guard : Try.prog.eqGuardType Try.prog.depth 24 = false := by kernel_rfl

/-- A row written out. -/
theorem wpList_build_wanted {ops : Array Oper} {rest : List Oper} {o : Oper} {a : Act} {w : World} {Q : Exit → Act → World → Prop} (hw : Region.wanted o (yielded ops a.tmps) = true) (t : TypeId) (parts : Array (Nat × Operand)) (ho : o.op = .build t parts)
    (C : Array Value) (hc : Try.prog.built t (parts.map fun (i, x) => (i, a.eval x)).toList = some C)
    (h : wpList Try.prog ops Q rest (a.put o.dst (.agg C)) w) : wpList Try.prog ops Q (o :: rest) a w := by
  rw [wpList, if_pos hw]
  refine .inl (wp_build t parts ho (by rw [hc]; rfl) ?_)
  rw [hc]
  exact h

/-- Both rows that the statements write out. -/
def oneS (i : Nat) : Int := if i = 5 then 1000 else 0
theorem isRow_zero (m : Nat) : IsRow m (fun _ => 0) (Array.replicate m (.int .i64 0)) := by
  rw [← row_of0 m (fun _ => 0)]
  refine ⟨rowL_size _ _ _, rowL_one _ _ _, fun k hk => ?_⟩
  rw [rowL_get _ _ _ _ hk]
  by_cases e : k < 0
  · omega
  · rw [if_neg e]
theorem built_none : ∃ Z, IsRow 16 (fun _ => 0) Z ∧ ∀ a : Act, Try.prog.built 24 ((#[] : Array (Nat × Operand)).map fun (i, x) => (i, a.eval x)).toList = some Z := ⟨_, isRow_zero 16, fun a => by kernel_rfl⟩
theorem built_one : ∃ T, IsRow 16 oneS T ∧ ∀ a : Act, Try.prog.built 24 ((#[(5, .const (.int .i64 1000))] : Array (Nat × Operand)).map fun (i, x) => (i, a.eval x)).toList = some T := by
  refine ⟨#[.int .i64 0, .int .i64 0, .int .i64 0, .int .i64 0, .int .i64 0, .int .i64 1000, .int .i64 0, .int .i64 0, .int .i64 0, .int .i64 0, .int .i64 0, .int .i64 0, .int .i64 0, .int .i64 0, .int .i64 0, .int .i64 0], ⟨rfl, by kernel_rfl, fun k hk => ?_⟩, fun a => by kernel_rfl⟩
  match k, hk with
  | 0, _ | 1, _ | 2, _ | 3, _ | 4, _ | 5, _ | 6, _ | 7, _ | 8, _ | 9, _ | 10, _ | 11, _ | 12, _ | 13, _ | 14, _ | 15, _ => rfl
  | n + 16, h => omega

theorem one_le : Le 1048576 oneS := fun i _ => by unfold oneS; split <;> decide
theorem zero_le' : Le 1048576 (fun _ => 0) := fun _ _ => by show ab 0 ≤ _; decide
theorem one_wave : wS oneS (fun _ => 0) 0 ≠ 0 := by decide +kernel
theorem zero_wave (k : Nat) (hk : k < 16) : wS (fun _ => 0) (fun _ => 0) k = 0 := by
  have : ∀ k : Fin 16, wS (fun _ => 0) (fun _ => 0) k.val = 0 := by decide +kernel
  exact this ⟨k, hk⟩

set_option maxRecDepth 100000 in
set_option maxHeartbeats 1000000 in
theorem awake_yes (w : World) :
    Calls Try.prog 8 #[] w fun e w' => e = .returned (.bool true) ∧ Below w.heap.size w w' := by
  obtain ⟨Z, hZ, hZ0, hz, hi⟩ := zero_block
  obtain ⟨E, hE, bE⟩ := built_none
  obtain ⟨O, hO, bO⟩ := built_one
  have HZ := Lib.hid hZ
  have HE := Lib.hid hE
  have HO := Lib.hid hO
  have BE := Lib.hid bE
  have BO := Lib.hid bO
  have HI := Lib.hid hi
  obtain ⟨A, hA⟩ : ∃ A, rowL 16 (wS oneS fun _ => 0) 16 = A := ⟨_, rfl⟩
  obtain ⟨C, hC⟩ : ∃ C, rowL 16 (wS (fun _ => 0) fun _ => 0) 16 = C := ⟨_, rfl⟩
  have RA := Lib.hid (show IsRow 16 (wS oneS fun _ => 0) A by rw [← hA]; exact isRow _ _)
  have RC := Lib.hid (show IsRow 16 (wS (fun _ => 0) fun _ => 0) C by rw [← hC]; exact isRow _ _)
  have WA := Lib.hid (fun w => waves_yes O E oneS (fun _ => 0) hO hE one_le zero_le' w)
  have WC := Lib.hid (fun w => waves_yes E E (fun _ => 0) (fun _ => 0) hE hE zero_le' zero_le' w)
  rw [hA] at WA
  rw [hC] at WC
  have e1 := rows_eq RC.out HE.out zero_wave Try.underlying24
  have e2 := rows_ne RA.out HE.out 0 (by omega) one_wave Try.underlying24
  have e0 := no_guard
  clear hZ hZ0 hi hE bE hO bO hA hC
  go_enter Try.func8, Try.ntmps8
  go_wp2_with (first
    | refine wpList_build_wanted (by rfl) 24 #[(5, .const (.int .i64 1000))] rfl O (BO.out _) ?_
    | refine wpList_build_wanted (by rfl) 24 #[] rfl E (BE.out _) ?_)
  refine (WA.out _).mono ?_
  rintro e w1 ⟨rfl, hw1⟩
  go_wp2_with (first
    | refine wpList_store_row rfl 24 _ _ rfl w1.heap.size A rfl rfl _ _ (heap_alloc_new _ _) (HI.out _ RA.out.1) (by rw [RA.out.1, HZ.out.1]) RA.out.2.1 ?_
    | refine wpList_build_wanted (by rfl) 24 #[] rfl E (BE.out _) ?_)
  rw [World.setRow_alloc_new]
  refine (WC.out _).mono ?_
  rintro e w2 ⟨rfl, hw2⟩
  have X1 := At.new w1 A 24
  have HX := Lib.hid (X1.below hw2 X1.lt)
  have HB := Lib.hid (below_trans (hw1.alloc hw1.size (.cells A 24)) hw2 (by have := hw1.size; simp; omega))
  clear hw1 hw2 X1
  go_wp2_with (first
    | refine wpList_load_wanted (by rfl) 24 _ rfl w1.heap.size rfl _ _ _ _ HX.out Try.underlying24 (HI.out _ RA.out.1) ?_
    | refine wpList_build_wanted (by rfl) 24 #[] rfl E (BE.out _) ?_)
  go_ret
  exact ⟨rfl, HB.out⟩
end Go.Proofs.Ytabenllglldkkaa.Md
