/- States as rows of 38 numbers: when they are right, zero states, states written out, states compared. -/
import Derived.Test.YtfpmajlgbipbmaaStA0
import Derived.Test.YtfpmajlgbipbmaaMdMath
import Derived.Test.YtfpmajlgbipbmaaOpn
set_option maxRecDepth 100000
set_option linter.unusedVariables false
namespace Go.Proofs.Ytfpmajlgbipbmaa.Sta
open Go.RowKit Go.Proofs.Ytfpmajlgbipbmaa.Row

/-- A state's numbers out of its fields'. -/
def stF (m : Nat → Int) (l : Int) (v u : Nat → Int) (z : Int) (k : Nat) : Int := if k < 16 then m k else if k = 16 then l else if k < 21 then v (k - 17) else if k < 37 then u (k - 21) else z
theorem stF_mem (m : Nat → Int) (l : Int) (v u : Nat → Int) (z : Int) {i : Nat} (h : i < 16) : stF m l v u z i = m i := by unfold stF; rw [if_pos h]
theorem stF_last (m : Nat → Int) (l : Int) (v u : Nat → Int) (z : Int) : stF m l v u z 16 = l := by unfold stF; rw [if_neg (by omega), if_pos rfl]
theorem stF_lev (m : Nat → Int) (l : Int) (v u : Nat → Int) (z : Int) {i : Nat} (h : i < 4) : stF m l v u z (17 + i) = v i := by unfold stF; rw [if_neg (by omega), if_neg (by omega), if_pos (by omega), Nat.add_sub_cancel_left]
theorem stF_wav (m : Nat → Int) (l : Int) (v u : Nat → Int) (z : Int) {i : Nat} (h : i < 16) : stF m l v u z (21 + i) = u i := by unfold stF; rw [if_neg (by omega), if_neg (by omega), if_neg (by omega), if_pos (by omega), Nat.add_sub_cancel_left]
theorem stF_lost (m : Nat → Int) (l : Int) (v u : Nat → Int) (z : Int) : stF m l v u z 37 = z := by unfold stF; rw [if_neg (by omega), if_neg (by omega), if_neg (by omega), if_neg (by omega)]
theorem stF_self (f : Nat → Int) {k : Nat} (h : k < 38) : stF f (f 16) (fun i => f (17 + i)) (fun i => f (21 + i)) (f 37) k = f k := by
  unfold stF
  by_cases c1 : k < 16
  · rw [if_pos c1]
  · rw [if_neg c1]
    by_cases c2 : k = 16
    · rw [if_pos c2, c2]
    · rw [if_neg c2]
      by_cases c3 : k < 21
      · rw [if_pos c3]; show f (17 + (k - 17)) = f k; congr 1; omega
      · rw [if_neg c3]
        by_cases c4 : k < 37
        · rw [if_pos c4]; show f (21 + (k - 21)) = f k; congr 1; omega
        · rw [if_neg c4, show k = 37 by omega]

/-- A state is right. -/
def Rt (f : Nat → Int) : Prop := (∀ i, i < 16 → -2147483648 ≤ f i ∧ f i ≤ 2147483647) ∧ (-2097152 ≤ f 16 ∧ f 16 ≤ 2097151) ∧ (∀ i, i < 4 → 0 ≤ f (17 + i) ∧ f (17 + i) ≤ 20) ∧ Md.Le 1048576 (fun i => f (21 + i)) ∧ (0 ≤ f 37 ∧ f 37 ≤ 255)
theorem Rt.ext {f g : Nat → Int} (h : Rt f) (e : ∀ k, k < 38 → f k = g k) : Rt g := by
  obtain ⟨h1, h2, h3, h4, h5⟩ := h
  refine ⟨fun i hi => by rw [← e i (by omega)]; exact h1 i hi, by rw [← e 16 (by omega)]; exact h2, fun i hi => by rw [← e _ (by omega)]; exact h3 i hi, fun i hi => ?_, by rw [← e 37 (by omega)]; exact h5⟩
  show Md.ab (g (21 + i)) ≤ _
  rw [← e _ (by omega)]; exact h4 i hi

theorem zero_p : ∃ Z, IsRow 38 (fun _ => 0) Z ∧ (∀ f, rowL 38 f 0 = Z) ∧ (∀ w, (zeroValue 31).run Try.prog w = .ok (.agg Z) w) ∧ ∀ A : Array Value, A.size = 38 → (Try.prog.info? 31).map (·.size) = some A.size := zero_row (by kernel_rfl)
theorem zero_r : ∃ Z, IsRow 38 (fun _ => 0) Z ∧ (∀ f, rowL 38 f 0 = Z) ∧ (∀ w, (zeroValue 25).run Try.prog w = .ok (.agg Z) w) ∧ ∀ A : Array Value, A.size = 38 → (Try.prog.info? 25).map (·.size) = some A.size := zero_row (by kernel_rfl)
theorem zero_4 : ∃ Z, IsRow 4 (fun _ => 0) Z ∧ (∀ f, rowL 4 f 0 = Z) ∧ (∀ w, (zeroValue 23).run Try.prog w = .ok (.agg Z) w) ∧ ∀ A : Array Value, A.size = 4 → (Try.prog.info? 23).map (·.size) = some A.size := zero_row (by kernel_rfl)
theorem zero_b : ∃ Z, IsRow 16 (fun _ => 0) Z ∧ (∀ f, rowL 16 f 0 = Z) ∧ (∀ w, (zeroValue 29).run Try.prog w = .ok (.agg Z) w) ∧ ∀ A : Array Value, A.size = 16 → (Try.prog.info? 29).map (·.size) = some A.size := zero_row (by kernel_rfl)
theorem zero_a : ∃ Z, IsRow 16 (fun _ => 0) Z ∧ (∀ f, rowL 16 f 0 = Z) ∧ (∀ w, (zeroValue 22).run Try.prog w = .ok (.agg Z) w) ∧ ∀ A : Array Value, A.size = 16 → (Try.prog.info? 22).map (·.size) = some A.size := zero_row (by kernel_rfl)

/-! States written out. -/
def pl (i : Nat) : Option (Nat × Nat) := #[(0, 16), (16, 1), (17, 4), (21, 16), (37, 1)][i]?
/-- The types of states. -/
def IsSt (t : TypeId) : Prop := ∀ parts, Try.prog.built t parts = Instr.fill pl (Array.replicate 38 (.int .i64 0)) parts
theorem isSt_p : IsSt 31 := fun parts => by kernel_rfl
theorem isSt_r : IsSt 25 := fun parts => by kernel_rfl

theorem built_0 {t : TypeId} (ht : IsSt t) : ∃ T, IsRow 38 (fun _ => 0) T ∧ Try.prog.built t [] = some T := ⟨_, isRow_zero 38, by rw [ht]; rfl⟩
theorem built_1 {t : TypeId} (ht : IsSt t) (L : Int) : ∃ T, IsRow 38 (stF (fun _ => 0) L (fun _ => 0) (fun _ => 0) 0) T ∧ Try.prog.built t [(1, .int .i64 L)] = some T := by
  obtain ⟨C, hC, e⟩ := fill_int (place := pl) (i := 1) (x := L) (rest := []) rfl (isRow_zero 38) (show 16 < 38 by omega)
  refine ⟨C, hC.ext fun k hk => ?_, by rw [ht, e]; rfl⟩
  show (if k = 16 then L else 0) = stF _ _ _ _ _ k
  unfold stF
  by_cases c : k = 16
  · subst c; rfl
  · rw [if_neg c]; simp [c]
theorem built_3 {t : TypeId} (ht : IsSt t) {V U : Array Value} {v u : Nat → Int} (hV : IsRow 4 v V) (hU : IsRow 16 u U) (z : Int) : ∃ T, IsRow 38 (stF (fun _ => 0) 0 v u z) T ∧ Try.prog.built t [(2, .agg V), (3, .agg U), (4, .int .i64 z)] = some T := by
  obtain ⟨C, hC, e⟩ := fill_agg (place := pl) (i := 2) (rest := [(3, .agg U), (4, .int .i64 z)]) rfl (isRow_zero 38) hV (show 17 + 4 ≤ 38 by omega)
  obtain ⟨D, hD, e1⟩ := fill_agg (place := pl) (i := 3) (rest := [(4, .int .i64 z)]) rfl hC hU (show 21 + 16 ≤ 38 by omega)
  obtain ⟨E, hE, e2⟩ := fill_int (place := pl) (i := 4) (x := z) (rest := []) rfl hD (show 37 < 38 by omega)
  refine ⟨E, hE.ext fun k hk => ?_, by rw [ht, e, e1, e2]; rfl⟩
  show (if k = 37 then z else over (over (fun _ => 0) v 17 4) u 21 16 k) = stF _ _ _ _ _ k
  unfold over stF
  dsimp only
  repeat' split
  all_goals (try dsimp only)
  all_goals (repeat' split)
  all_goals first | rfl | omega
theorem built_4 {t : TypeId} (ht : IsSt t) {V U : Array Value} {v u : Nat → Int} (L : Int) (hV : IsRow 4 v V) (hU : IsRow 16 u U) (z : Int) : ∃ T, IsRow 38 (stF (fun _ => 0) L v u z) T ∧ Try.prog.built t [(1, .int .i64 L), (2, .agg V), (3, .agg U), (4, .int .i64 z)] = some T := by
  obtain ⟨B, hB, e0⟩ := fill_int (place := pl) (i := 1) (x := L) (rest := [(2, .agg V), (3, .agg U), (4, .int .i64 z)]) rfl (isRow_zero 38) (show 16 < 38 by omega)
  obtain ⟨C, hC, e⟩ := fill_agg (place := pl) (i := 2) (rest := [(3, .agg U), (4, .int .i64 z)]) rfl hB hV (show 17 + 4 ≤ 38 by omega)
  obtain ⟨D, hD, e1⟩ := fill_agg (place := pl) (i := 3) (rest := [(4, .int .i64 z)]) rfl hC hU (show 21 + 16 ≤ 38 by omega)
  obtain ⟨E, hE, e2⟩ := fill_int (place := pl) (i := 4) (x := z) (rest := []) rfl hD (show 37 < 38 by omega)
  refine ⟨E, hE.ext fun k hk => ?_, by rw [ht, e0, e, e1, e2]; rfl⟩
  show (if k = 37 then z else over (over (fun j => if j = 16 then L else 0) v 17 4) u 21 16 k) = stF _ _ _ _ _ k
  unfold over stF
  dsimp only
  repeat' split
  all_goals (try dsimp only)
  all_goals (repeat' split)
  all_goals first | rfl | omega
theorem built_5 {t : TypeId} (ht : IsSt t) {M V U : Array Value} {m v u : Nat → Int} (hM : IsRow 16 m M) (L : Int) (hV : IsRow 4 v V) (hU : IsRow 16 u U) (z : Int) : ∃ T, IsRow 38 (stF m L v u z) T ∧ Try.prog.built t [(0, .agg M), (1, .int .i64 L), (2, .agg V), (3, .agg U), (4, .int .i64 z)] = some T := by
  obtain ⟨A, hA, ea⟩ := fill_agg (place := pl) (i := 0) (rest := [(1, .int .i64 L), (2, .agg V), (3, .agg U), (4, .int .i64 z)]) rfl (isRow_zero 38) hM (show 0 + 16 ≤ 38 by omega)
  obtain ⟨B, hB, e0⟩ := fill_int (place := pl) (i := 1) (x := L) (rest := [(2, .agg V), (3, .agg U), (4, .int .i64 z)]) rfl hA (show 16 < 38 by omega)
  obtain ⟨C, hC, e⟩ := fill_agg (place := pl) (i := 2) (rest := [(3, .agg U), (4, .int .i64 z)]) rfl hB hV (show 17 + 4 ≤ 38 by omega)
  obtain ⟨D, hD, e1⟩ := fill_agg (place := pl) (i := 3) (rest := [(4, .int .i64 z)]) rfl hC hU (show 21 + 16 ≤ 38 by omega)
  obtain ⟨E, hE, e2⟩ := fill_int (place := pl) (i := 4) (x := z) (rest := []) rfl hD (show 37 < 38 by omega)
  refine ⟨E, hE.ext fun k hk => ?_, by rw [ht, ea, e0, e, e1, e2]; rfl⟩
  show (if k = 37 then z else over (over (fun j => if j = 16 then L else over (fun _ => 0) m 0 16 j) v 17 4) u 21 16 k) = stF _ _ _ _ _ k
  unfold over stF
  dsimp only
  repeat' split
  all_goals (try dsimp only)
  all_goals (repeat' split)
  all_goals first | rfl | omega

/-! States compared. -/
theorem part_row {ty : TypeId} {l n : Nat} {T : Array Value} {d : TypeDesc} (hu : Try.prog.underlying ty = some d) (hd : d.isRow = true) (hi : ∀ A : Array Value, A.size = n → (Try.prog.info? ty).map (·.size) = some A.size) (w : World) :
    (part ty T l).run Try.prog w = .ok (.agg (T.extract l (l + n))) w := by
  have h1 : (sizeOf ty).run Try.prog w = .ok n w := by
    have h := hi (Array.replicate n .nilFunc) (by simp)
    rw [Array.size_replicate] at h
    cases hq : Try.prog.info? ty with
    | none => rw [hq] at h; cases h
    | some i =>
      rw [hq] at h
      injection h with h
      simp [sizeOf, typeInfo, hq, h]
  have h2 : (isAgg ty).run Try.prog w = .ok true w := by
    unfold isAgg
    rw [Sem.run_bind, run_underlying hu w]
    cases d <;> simp_all
  unfold part
  simp only [Sem.run_bind, h2, Result.andThen_ok, h1, if_true, Sem.run_pure]
theorem part_num {T : Array Value} {i : Nat} {x : Int} (h : T[i]? = some (.int .i64 x)) (w : World) : (part 3 T i).run Try.prog w = .ok (.int .i64 x) w := by
  have := part_int h w
  rwa [Nat.mul_one] at this

/-- A field of T is what it is. -/
def Fld (d : Nat) (T : Array Value) (f : Field) : Prop := ∀ w, ∃ a, (part f.type T f.offset).run Try.prog w = .ok a w ∧ (Op.equalIn d f.type a a).run Try.prog w = .ok true w
theorem eq_fields {d : Nat} {T : Array Value} : ∀ fs : List Field, (∀ f ∈ fs, Fld d T f) → ∀ w, (Op.eqFields d T T fs).run Try.prog w = .ok true w
  | [], _, w => rfl
  | f :: fs, h, w => by
    obtain ⟨a, h1, h2⟩ := h f (List.mem_cons_self ..) w
    have ih := eq_fields fs (fun f hf => h f (List.mem_cons_of_mem _ hf)) w
    unfold Op.eqFields
    split
    · simp only [Sem.run_bind, h1, h2, Result.andThen_ok]
      exact ih
    · exact ih
theorem fld_row {d : Nat} {T : Array Value} {f : Nat → Int} {ty : TypeId} {l n m : Nat} {nm tg pk : String} {em : Bool} {bo : Nat} (hT : IsRow m f T) (hm : l + n ≤ m) (hu : Try.prog.underlying ty = some (.array n 3)) (hi : ∀ A : Array Value, A.size = n → (Try.prog.info? ty).map (·.size) = some A.size) :
    Fld (d + 2) T ⟨nm, ty, l, em, tg, pk, bo⟩ := fun w => ⟨_, part_row hu rfl hi w, by
      rw [run_rows (d := d) hu (hT.sub hm) (hT.sub hm) w]
      congr 1
      rw [List.all_eq_true]
      intro i _
      rw [beq_iff_eq]⟩
theorem fld_num {d : Nat} {T : Array Value} {f : Nat → Int} {l m : Nat} {nm tg pk : String} {em : Bool} {bo : Nat} (hT : IsRow m f T) (hm : l < m) :
    Fld (d + 1) T ⟨nm, 3, l, em, tg, pk, bo⟩ := fun w => ⟨_, part_num (hT.2.2 l hm) w, by
      rw [run_equalIn_int w d _ .i64 .i64 _ _ Try.underlying3]
      congr 1
      rw [beq_iff_eq]⟩
theorem st_eq_p {f g : Nat → Int} {T U : Array Value} (hT : IsRow 38 f T) (hU : IsRow 38 g U) (e : ∀ k, k < 38 → f k = g k) (w : World) : (Op.equalIn 10000 31 (.agg T) (.agg U)).run Try.prog w = .ok true w := by
  obtain rfl := hT.eq hU e
  obtain ⟨_, _, _, _, hb⟩ := zero_b
  obtain ⟨_, _, _, _, h4⟩ := zero_4
  rw [run_equalIn_agg w 9999 _ T T (by unfold Program.fieldsOf; rw [Try.underlying31]) Try.stoodInHeld31]
  refine eq_fields _ ?_ w
  unfold Program.fieldsOf
  rw [Try.underlying31]
  intro x hx
  simp only [List.mem_cons, List.not_mem_nil, or_false] at hx
  rcases hx with rfl | rfl | rfl | rfl | rfl
  · exact fld_row (n := 16) hT (by omega) Try.underlying29 hb
  · exact fld_num hT (by omega)
  · exact fld_row (n := 4) hT (by omega) Try.underlying23 h4
  · exact fld_row (n := 16) hT (by omega) Try.underlying29 hb
  · exact fld_num hT (by omega)
theorem st_eq_r {f g : Nat → Int} {T U : Array Value} (hT : IsRow 38 f T) (hU : IsRow 38 g U) (e : ∀ k, k < 38 → f k = g k) (w : World) : (Op.equalIn 10000 25 (.agg T) (.agg U)).run Try.prog w = .ok true w := by
  obtain rfl := hT.eq hU e
  obtain ⟨_, _, _, _, hb⟩ := zero_a
  obtain ⟨_, _, _, _, h4⟩ := zero_4
  rw [run_equalIn_agg w 9999 _ T T (by unfold Program.fieldsOf; rw [Try.underlying25]) Try.stoodInHeld25]
  refine eq_fields _ ?_ w
  unfold Program.fieldsOf
  rw [Try.underlying25]
  intro x hx
  simp only [List.mem_cons, List.not_mem_nil, or_false] at hx
  rcases hx with rfl | rfl | rfl | rfl | rfl
  · exact fld_row (n := 16) hT (by omega) Try.underlying22 hb
  · exact fld_num hT (by omega)
  · exact fld_row (n := 4) hT (by omega) Try.underlying23 h4
  · exact fld_row (n := 16) hT (by omega) Try.underlying22 hb
  · exact fld_num hT (by omega)

/-- A state that came in. -/
theorem open_st {H : Type} {enc : TypeId × Value → H} {W : World} {r : Reach} {base b0 : Nat} {sp : Nat → Bool} {held : Bool} {v : Value} {d : DataW H} {ps : List MemPlace}
    (hok : Value.okWide Try.prog W r b0 25 v) (h : DataW.Trod enc Try.prog W base sp held 25 v d ps) :
    ∃ T : Array Value, v = .agg T ∧ IsRow 38 (intsOf T) T ∧ ∀ k, k < 38 → (Lit.int .i64 (intsOf T k)).wf = true := by
  have fi : Flat enc W base sp held 3 := Flat.int Try.underlying3 (by kernel_rfl)
  have fb : Flat enc W base sp held 22 := Flat.array fi Try.underlying22 (by kernel_rfl)
  have f4 : Flat enc W base sp held 23 := Flat.array fi Try.underlying23 (by kernel_rfl)
  have c16 : Try.prog.cellsOf 22 = 16 := by kernel_rfl
  have c4 : Try.prog.cellsOf 23 = 4 := by kernel_rfl
  have c1 : Try.prog.cellsOf 3 = 1 := by kernel_rfl
  have c38 : Try.prog.cellsOf 25 = 38 := by kernel_rfl
  refine open_flat Try.underlying25 rfl (Flat.struct Try.underlying25 ?_ ?_) c38 hok h
  · intro i f hf
    match i, hf with
    | 0, hf => injection hf with hf; subst hf; exact fb
    | 1, hf => injection hf with hf; subst hf; exact fi
    | 2, hf => injection hf with hf; subst hf; exact f4
    | 3, hf => injection hf with hf; subst hf; exact fb
    | 4, hf => injection hf with hf; subst hf; exact fi
    | n + 5, hf => simp at hf
  · intro k hk
    rw [c38] at hk
    by_cases k1 : k < 16
    · exact ⟨0, _, rfl, Nat.zero_le _, by show k < 0 + Try.prog.cellsOf 22; rw [c16]; omega⟩
    · by_cases k2 : k < 17
      · exact ⟨1, _, rfl, by show 16 ≤ k; omega, by show k < 16 + Try.prog.cellsOf 3; rw [c1]; omega⟩
      · by_cases k3 : k < 21
        · exact ⟨2, _, rfl, by show 17 ≤ k; omega, by show k < 17 + Try.prog.cellsOf 23; rw [c4]; omega⟩
        · by_cases k4 : k < 37
          · exact ⟨3, _, rfl, by show 21 ≤ k; omega, by show k < 21 + Try.prog.cellsOf 22; rw [c16]; omega⟩
          · exact ⟨4, _, rfl, by show 37 ≤ k; omega, by show k < 37 + Try.prog.cellsOf 3; rw [c1]; omega⟩
end Go.Proofs.Ytfpmajlgbipbmaa.Sta
