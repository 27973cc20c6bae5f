/- The statements' walks of layer 3, third part: AnglePlays. -/
import Derived.Test.YthghbpghmbkjmaaLaw03B
namespace Go.Proofs.Ythghbpghmbkjmaa.Ang
open Go.RowKit

theorem below_setRow' {B b : Nat} {w w' : World} (h : Below B w w') (hb : B ≤ b) (cs : Array Value) : Below B w (w'.setRow b cs) :=
  ⟨h.os, h.tape, h.output, by rw [size_setRow]; exact h.size, fun k hk => (setRow_other w' b k cs (by omega)).trans (h.block k hk)⟩

theorem below_trans {B : Nat} {w w1 w2 : World} (h : Below B w w1) (h2 : Below w1.heap.size w1 w2) (hB : B ≤ w1.heap.size) : Below B w w2 :=
  ⟨h2.os.trans h.os, h2.tape.trans h.tape, h2.output.trans h.output, Nat.le_trans h.size h2.size, fun k hk => (h2.block k (by omega)).trans (h.block k hk)⟩


theorem heap2 (w : World) (A B : Obj) (cs : Array Value) : (((w.alloc A).alloc B).setRow w.heap.size cs).heap[w.heap.size + 1]? = some B := (setRow_other _ _ _ _ (by omega)).trans (heap_alloc2_new _ _ _)

/-- A row as a variable: its size, its numbers. -/
def IsRow (m : Nat) (f : Nat → Int) (T : Array Value) : Prop := T.size = m ∧ T.all (·.oneCell') = true ∧ ∀ k, k < m → T[k]? = some (.int .i64 (f k))

theorem isRow (m : Nat) (f : Nat → Int) : IsRow m f (rowL m f m) := ⟨rowL_size _ _ _, rowL_one _ _ _, fun k hk => by rw [rowL_get _ _ _ _ hk, if_pos hk]⟩

theorem IsRow.cell {w : World} {g m : Nat} {f : Nat → Int} {T : Array Value} {t : TypeId} (hT : IsRow m f T) (h : w.heap[g]? = some (.cells T t (0, 0))) (k : Nat) (hk : k < m) : w.cell? ⟨g, k, none⟩ = some (.int .i64 (f k)) := by
  rw [cell_of_row _ _ k _ _ _ h, hT.2.2 k hk]

theorem tab_ex : ∃ T T0 : Array Value, IsRow 128 tabS T ∧ T0.size = 128 ∧ (∀ w, Calls Try.prog 11 #[] w fun e w' => e = .returned (.agg T) ∧ Below w.heap.size w w') ∧
    (∀ w, (zeroValue 26).run Try.prog w = .ok (.agg T0) w) ∧ (Try.prog.info? 26).map (·.size) = some T.size :=
  ⟨_, _, isRow 128 tabS, rowL_size 128 tabS 0, tab_any, tab_run, tab_size 128⟩

theorem win_info : (Try.prog.info? 28).map (·.zero) = some (some (.agg (Array.replicate 32 (.int .i64 0)))) := by kernel_rfl
theorem win_run (w : World) : (zeroValue 28).run Try.prog w = .ok (.agg (rowL 32 winS 0)) w := by
  have h := win_info
  rw [row_of0]
  cases hi : Try.prog.info? 28 with
  | none => rw [hi] at h; cases h
  | some i =>
    rw [hi] at h
    have hz : i.zero = some (.agg (Array.replicate 32 (.int .i64 0))) := by injection h
    simp [zeroValue, typeInfo, hi, hz]

theorem win_ex : ∃ T T0 : Array Value, IsRow 32 winS T ∧ T0.size = 32 ∧ (∀ w, Calls Try.prog 12 #[] w fun e w' => e = .returned (.agg T) ∧ Below w.heap.size w w') ∧
    (∀ w, (zeroValue 28).run Try.prog w = .ok (.agg T0) w) ∧ (Try.prog.info? 28).map (·.size) = some T.size :=
  ⟨_, _, isRow 32 winS, rowL_size 32 winS 0, win_any, win_run, win_size 32⟩

theorem quiet_int {f : FuncId} {xs : Array Value} {w0 : World} {n : Nat} {c : Int}
    (h : Calls Try.prog f xs (w0.drewN n) fun e w' => e = .returned (.int .i64 c) ∧ w0.drewN n = w') :
    Calls Try.prog f xs (w0.drewN n) fun e w' => e = .returned (.int .i64 c) ∧ ∃ m, w' = w0.drewN m :=
  h.mono fun _ _ ⟨he, hw⟩ => ⟨he, n, hw.symm⟩

set_option maxHeartbeats 1000000 in
theorem anglePlays_walk (a0 : Int) (_w0 : (Lit.int .i64 a0).wf = true) (w : World) :
    Calls Try.prog 5 #[.int .i64 a0] w fun e w' => e = .returned (.bool true) ∧ Below w.heap.size w w' := by
  obtain ⟨b1, b2⟩ := tmod_bd a0 128 (by omega)
  obtain ⟨T, T0, hT, hT0, cT, zT, iT⟩ := tab_ex
  obtain ⟨V, V0, hV, hV0, cV, zV, iV⟩ := win_ex
  have CT := Lib.hid cT
  have CV := Lib.hid cV
  have IT := Lib.hid iT
  have IV := Lib.hid iV
  have HT := Lib.hid hT
  have HV := Lib.hid hV
  have ST := Lib.hid (show T0.size = T.size by rw [hT0, hT.1])
  have SV := Lib.hid (show V0.size = V.size by rw [hV0, hV.1])
  clear cT cV iT iV hT hV hT0 hV0
  go_enter Try.func5, Try.ntmps5
  go_wp2_with (first
    | (go_at_call 8; refine (awake_yes _).mono ?_; rintro e w' ⟨rfl, rfl⟩)
    | (go_at_call 11; refine (CT.out _).mono ?_; rintro e w1 ⟨rfl, hw1⟩)
    | (go_at_call 12; refine (CV.out _).mono ?_; rintro e w2 ⟨rfl, hw2⟩)
    | refine wpList_store_row rfl 26 _ _ rfl w2.heap.size T rfl rfl 26 T0 (heap_alloc2_old w2 (.cells T0 26) (.cells V0 28)) IT.out ST.out HT.out.2.1 ?_
    | refine wpList_store_row rfl 28 _ _ rfl (w2.heap.size + 1) V rfl rfl 28 V0 (heap2 w2 (.cells T0 26) (.cells V0 28) T) IV.out SV.out HV.out.2.1 ?_)
  have hb2 : Below w.heap.size w w2 := below_trans hw1 hw2 hw1.size
  have gT : ((((w2.alloc (.cells T0 26)).alloc (.cells V0 28)).setRow w2.heap.size T).setRow (w2.heap.size + 1) V).heap[w2.heap.size]? = some (.cells T 26 (0, 0)) :=
    (setRow_other _ _ _ _ (by omega)).trans (setRow_heap _ _ _ _ _ _ (heap_alloc2_old _ _ _))
  have gV : ((((w2.alloc (.cells T0 26)).alloc (.cells V0 28)).setRow w2.heap.size T).setRow (w2.heap.size + 1) V).heap[w2.heap.size + 1]? = some (.cells V 28 (0, 0)) :=
    setRow_heap _ _ _ _ _ _ ((setRow_other _ _ _ _ (by omega)).trans (heap_alloc2_new _ _ _))
  have hbW : Below w.heap.size w ((((w2.alloc (.cells T0 26)).alloc (.cells V0 28)).setRow w2.heap.size T).setRow (w2.heap.size + 1) V) :=
    below_setRow' (below_setRow' ((hb2.alloc hb2.size _).alloc (by have := hb2.size; simp; omega) _) hb2.size T) (by have := hb2.size; omega) V
  revert gT gV hbW
  generalize (((w2.alloc (.cells T0 26)).alloc (.cells V0 28)).setRow w2.heap.size T).setRow (w2.heap.size + 1) V = W
  generalize w2.heap.size = b
  intro gT gV hbW
  obtain ⟨i, hi, hi1⟩ : ∃ i : Nat, (a0.tmod 128 + 128) % 128 = (i : Int) ∧ i < 128 := ⟨((a0.tmod 128 + 128) % 128).toNat, by omega, by omega⟩
  obtain ⟨j, hj, hj1⟩ : ∃ j : Nat, (i : Int) % 32 = (j : Int) ∧ j < 32 := ⟨i % 32, by omega, by omega⟩
  rw [hi]
  have cT := HT.out.cell gT i hi1
  have cV := HV.out.cell gV j hj1
  obtain ⟨p, hp⟩ : ∃ p, tabS i = p := ⟨_, rfl⟩
  obtain ⟨q, hq⟩ : ∃ q, winS j = q := ⟨_, rfl⟩
  obtain ⟨c, hc⟩ : ∃ c, cosS a0 = c := ⟨_, rfl⟩
  obtain ⟨s, hs⟩ : ∃ s, sinS a0 = s := ⟨_, rfl⟩
  rw [hp] at cT
  rw [hq] at cV
  have P := Lib.hid (show cosS (i : Int) = p from hp)
  have Q := Lib.hid (show sinS (2 * (j : Int) + 1) = q from hq)
  have C := Lib.hid hc
  have S := Lib.hid hs
  have i1 : (i : Int) < 128 := by omega
  have j1 : (j : Int) < 32 := by omega
  have hm1 : IntKind.i64.wrap (2 * (j : Int)) = 2 * (j : Int) := by rw [IntKind.wrap_i64]; omega
  have hm2 : IntKind.i64.wrap (2 * (j : Int) + 1) = 2 * (j : Int) + 1 := by rw [IntKind.wrap_i64]; omega
  have hm3 : (i : Int).tmod 32 = (j : Int) := by rw [Int.tmod_eq_emod_of_nonneg (by omega)]; exact hj
  have hm4 : IntKind.i64.wrap (j : Int) = (j : Int) := by rw [IntKind.wrap_i64]; omega
  clear hi hp hq hc hs gT gV zT zV CT CV IT IV HT HV ST SV hw1 hw2 hb2 b1 b2 _w0
  go_quiet (first
    | (go_at_call 9; with_reducible exact quiet_int (cos_as a0 c _ C.out))
    | (go_at_call 10; with_reducible exact quiet_int (sin_as a0 s _ S.out))
    | (go_at_call 13; with_reducible first | exact quiet_int (refCos_as a0 c _ C.out) | exact quiet_int (refCos_as i p _ P.out))
    | (go_at_call 14; with_reducible first | exact quiet_int (refSin_as a0 s _ S.out) | exact quiet_int (refSin_as _ q _ Q.out)))
  go_wp2
  go_ret
  exact ⟨rfl, below_drewN hbW _⟩
end Go.Proofs.Ythghbpghmbkjmaa.Ang
