/- Contracts of lapl's Cell, Find. -/
import Derived.Test.YtidbagkkkpfkbaaDoorLpB
set_option maxRecDepth 100000
set_option linter.unusedVariables false
namespace Go.Proofs.YtidbagkkkpfkbaaDoor.Lp
open Go.RowKit Go.Proofs.YtidbagkkkpfkbaaDoor.Row Go.Proofs.YtidbagkkkpfkbaaDoor.Rf Go.Shelf
attribute [local go_sem] Oper.semAt_some

/-- What a number's cell is answered as. -/
def inB (v : Int) : Bool := decide (-24 ≤ v ∧ v ≤ 24)
def cS (v : Int) : Int := if -24 ≤ v ∧ v ≤ 24 then sI (iV v) else 0
def cW (v : Int) : Int := if -24 ≤ v ∧ v ≤ 24 then wI (iV v) else 0

theorem not_in {v : Int} (h : ∀ j, j < 49 → v ≠ vI j) : ¬ (-24 ≤ v ∧ v ≤ 24) := fun hv => h (iV v) (iV_lt.2 hv) (vI_iV v).symm
theorem is_in {v : Int} {i : Nat} (hi : i < 49) (h : v = vI i) : -24 ≤ v ∧ v ≤ 24 := iV_lt.1 (by rw [h, iV_vI]; exact hi)

/-- The boxes of Cell: its argument and its results. -/
def CBox (w : World) (v : Int) (a b : Int) (r : Bool) (W : World) : Prop :=
  At W w.heap.size #[.int .i64 v] 3 ∧ At W (w.heap.size + 1) #[.int .i64 a] 3 ∧ At W (w.heap.size + 2) #[.int .i64 b] 3 ∧ At W (w.heap.size + 3) #[.bool r] 4 ∧ Below w.heap.size w W
theorem CBox.deaf {w : World} {v a b : Int} {r : Bool} {B : Nat} (hB : w.heap.size + 4 ≤ B) : Deaf B (CBox w v a b r) :=
  (Deaf.at (by omega)).and ((Deaf.at (by omega)).and ((Deaf.at (by omega)).and ((Deaf.at (by omega)).and (Deaf.below (Nat.le_refl _) (by omega)))))

theorem CBox.put {w W : World} {v a b : Int} {r : Bool} (h : CBox w v a b r W) (x y : Int) (t : Bool) :
    CBox w v x y t (((W.setCell ⟨w.heap.size + 1, 0, none⟩ (.int .i64 x)).setCell ⟨w.heap.size + 2, 0, none⟩ (.int .i64 y)).setCell ⟨w.heap.size + 3, 0, none⟩ (.bool t)) := by
  obtain ⟨e0, e1, e2, e3, hb⟩ := h
  refine ⟨((e0.setCell_other ?_).setCell_other ?_).setCell_other ?_, ((e1.setCell).setCell_other ?_).setCell_other ?_, ((e2.setCell_other ?_).setCell).setCell_other ?_, ((e3.setCell_other ?_).setCell_other ?_).setCell, ?_⟩
  all_goals first | (dsimp only; omega) | skip
  exact ((((hb.setCell (p := ⟨w.heap.size + 1, 0, none⟩) (by dsimp only; omega) _).setCell (p := ⟨w.heap.size + 2, 0, none⟩) (by dsimp only; omega) _).setCell (p := ⟨w.heap.size + 3, 0, none⟩) (by dsimp only; omega) _))
theorem CBox.drew {w W : World} {v a b : Int} {r : Bool} (h : CBox w v a b r W) : CBox w v a b r W.drew := ⟨h.1, h.2.1, h.2.2.1, h.2.2.2.1, h.2.2.2.2.drew⟩
theorem CBox.cells {w W : World} {v a b : Int} {r : Bool} (h : CBox w v a b r W) : (W.cell? ⟨w.heap.size + 1, 0, none⟩ = some (.int .i64 a) ∧ W.cell? ⟨w.heap.size + 1 + 1, 0, none⟩ = some (.int .i64 b) ∧ W.cell? ⟨w.heap.size + 1 + 1 + 1, 0, none⟩ = some (.bool r)) ∧ W.frozen? ⟨w.heap.size + 1, 0, none⟩ = false ∧ W.frozen? ⟨w.heap.size + 1 + 1, 0, none⟩ = false ∧ W.frozen? ⟨w.heap.size + 1 + 1 + 1, 0, none⟩ = false :=
  ⟨⟨h.2.1.cell 0, h.2.2.1.cell 0, h.2.2.2.1.cell 0⟩, h.2.1.frozen 0, h.2.2.1.frozen 0, h.2.2.2.1.frozen 0⟩

set_option maxHeartbeats 2000000 in
theorem cell_any (v : Int) (w : World) :
    Calls Tryd.prog 13 #[.int .i64 v] w fun e w' => e = .returned (.tuple #[.int .i64 (cS v), .int .i64 (cW v), .bool (inB v)]) ∧ Below w.heap.size w w' := by
  refine (callsIn_wide (n := 9)).1 (callsIn_of_wp_marks Tryd.func13 rfl trivial ?_ rfl)
  simp only [Tryd.ntmps13, List.size_toArray, List.length_cons, List.length_nil, Nat.reduceAdd, Nat.reduceSub, Array.replicate_succ, Array.replicate_zero, List.push_toArray, List.append_toArray, List.nil_append, List.cons_append]
  gi_wp2
  have b0 : CBox w v 0 0 false ((((w.alloc (.cells #[.int .i64 v] 3)).alloc (.cells #[.int .i64 0] 3)).alloc (.cells #[.int .i64 0] 3)).alloc (.cells #[.bool false] 4)) := by
    have a0 := At.new w #[.int .i64 v] 3
    have a1 := At.new (w.alloc (.cells #[.int .i64 v] 3)) #[.int .i64 0] 3
    have a2 := At.new ((w.alloc (.cells #[.int .i64 v] 3)).alloc (.cells #[.int .i64 0] 3)) #[.int .i64 0] 3
    have a3 := At.new (((w.alloc (.cells #[.int .i64 v] 3)).alloc (.cells #[.int .i64 0] 3)).alloc (.cells #[.int .i64 0] 3)) #[.bool false] 4
    simp only [World.size_alloc] at a1 a2 a3
    exact ⟨((a0.alloc _).alloc _).alloc _, (a1.alloc _).alloc _, a2.alloc _, a3, (((((Below.refl _ w).alloc (Nat.le_refl _) _).alloc (by simp) _).alloc (by simp; omega) _).alloc (by simp; omega) _)⟩
  obtain ⟨W0, hW0⟩ : ∃ W0, (((w.alloc (.cells #[.int .i64 v] 3)).alloc (.cells #[.int .i64 0] 3)).alloc (.cells #[.int .i64 0] 3)).alloc (.cells #[.bool false] 4) = W0 := ⟨_, rfl⟩
  have hsz : W0.heap.size = w.heap.size + 4 := by rw [← hW0]; simp
  rw [hW0] at b0 ⊢
  clear hW0
  refine range_over (gf := 24) rfl (enters_of Tryd.func24 (by kernel_rfl) rfl) (cells_yields _) (fun _ => rfl)
    (fun i W => (∀ j, j < i → v ≠ vI j) ∧ CBox w v 0 0 false W) (fun W => (-24 ≤ v ∧ v ≤ 24) ∧ CBox w v (cS v) (cW v) true W)
    (fun i => (Deaf.const _ _).and (CBox.deaf (by omega))) ((Deaf.const _ _).and (CBox.deaf (by omega))) ⟨fun j hj => absurd hj (Nat.not_lt_zero j), b0⟩
    (fun i a' W => ∃ Bx, W0.heap.size + 2 ≤ Bx ∧ At W Bx #[.int .i64 (sI i), .int .i64 (wI i)] 65 ∧ a' = { tmps := #[.int .i64 v, .pointer (some ⟨w.heap.size, 0, none⟩), .pointer (some ⟨w.heap.size + 1, 0, none⟩), .pointer (some ⟨w.heap.size + 2, 0, none⟩), .pointer (some ⟨w.heap.size + 3, 0, none⟩), .int .i64 (vI i), .pointer (some ⟨Bx, 0, none⟩), .int .i64 (vI i), .agg #[.int .i64 (sI i), .int .i64 (wI i)], undef, undef, undef, undef, undef, undef, undef], defers := [] })
    (fun i a' W W' ⟨Bx, h1, h2, h3⟩ hk => ⟨Bx, h1, hk.at h2 h1, h3⟩) ?assign ?body ?done ?stop
  case assign =>
    rintro l i W K hi ⟨hj, hb⟩ hW hK
    unfold cE
    gi_wp2
    exact hK _ _ (Kept.alloc _ _ _) ⟨hj, (CBox.deaf (B := W0.heap.size) (by omega)).alloc _ hb⟩ ⟨W.heap.size, hW, At.new _ _ _, rfl⟩
  case body =>
    rintro l i a' W hi ⟨hj, hb⟩ ⟨Bx, hBx, hA, rfl⟩
    obtain ⟨x, hx⟩ : ∃ x : Int, (sI i : Int) = x := ⟨_, rfl⟩
    obtain ⟨y, hy⟩ : ∃ y : Int, (wI i : Int) = y := ⟨_, rfl⟩
    obtain ⟨z, hz⟩ : ∃ z : Int, vI i = z := ⟨_, rfl⟩
    rw [hx, hy] at hA
    rw [hx, hy, hz]
    have HB := Lib.hid hb
    have HA := Lib.hid hA
    have HJ := Lib.hid hj
    have HX := Lib.hid (And.intro hx (And.intro hy hz))
    obtain ⟨e0, e1, e2, e3, _⟩ := hb
    have c0 : W.cell? ⟨w.heap.size, 0, none⟩ = some (.int .i64 v) := by rw [e0.cell]; rfl
    have c1 : W.cell? ⟨w.heap.size + 1, 0, none⟩ = some (.int .i64 0) := by rw [e1.cell]; rfl
    have c2 : W.cell? ⟨w.heap.size + 2, 0, none⟩ = some (.int .i64 0) := by rw [e2.cell]; rfl
    have c3 : W.cell? ⟨w.heap.size + 3, 0, none⟩ = some (.bool false) := by rw [e3.cell]; rfl
    have f1 := e1.frozen 0
    have f2 := e2.frozen 0
    have f3 := e3.frozen 0
    have l0 : W.cell? ⟨Bx, 0, none⟩ = some (.int .i64 x) := by rw [hA.cell]; rfl
    have l1 : W.cell? ⟨Bx, 1, none⟩ = some (.int .i64 y) := by rw [hA.cell]; rfl
    clear e0 e1 e2 e3 hA hx hy hz hj
    by_cases hv : z = v
    · have hd : (z == v) = true := by simp [hv]
      subst hv
      obtain ⟨hx, hy, hz⟩ := HX.out
      have hin := is_in hi hz.symm
      have hi2 : iV z = i := by rw [← hz, iV_vI]
      have HF := Lib.hid (show Kept W0.heap.size W (((W.setCell ⟨w.heap.size + 1, 0, none⟩ (.int .i64 x)).setCell ⟨w.heap.size + 2, 0, none⟩ (.int .i64 y)).setCell ⟨w.heap.size + 3, 0, none⟩ (.bool true)).drew ∧ (-24 ≤ z ∧ z ≤ 24) ∧ CBox w z (cS z) (cW z) true (((W.setCell ⟨w.heap.size + 1, 0, none⟩ (.int .i64 x)).setCell ⟨w.heap.size + 2, 0, none⟩ (.int .i64 y)).setCell ⟨w.heap.size + 3, 0, none⟩ (.bool true)).drew from by
        refine ⟨(((Kept.setCell W (p := ⟨w.heap.size + 1, 0, none⟩) (by dsimp only; omega) _).trans (Kept.setCell _ (p := ⟨w.heap.size + 2, 0, none⟩) (by dsimp only; omega) _)).trans (Kept.setCell _ (p := ⟨w.heap.size + 3, 0, none⟩) (by dsimp only; omega) _)).trans (Kept.drew _ _), hin, ?_⟩
        rw [show cS z = x by unfold cS; rw [if_pos hin, hi2, hx], show cW z = y by unfold cW; rw [if_pos hin, hi2, hy]]
        exact (HB.out.put x y true).drew)
      clear hin hi2 hx hy hz
      gi_wp2
      gi_region
      all_goals
        gi_wp2
        exact HF.out
    · have hd : (z == v) = false := by simp [hv]
      gi_wp2
      refine ⟨Kept.refl _ _, fun j hj => ?_, HB.out⟩
      rcases Nat.lt_succ_iff_lt_or_eq.1 hj with h | rfl
      · exact HJ.out j h
      · rw [HX.out.2.2]; exact fun e => hv e.symm
  case done =>
    rintro D W hD ⟨hj, hb⟩ hK
    have hn := not_in hj
    obtain ⟨⟨c1, c2, c3⟩, f1, f2, f3⟩ := hb.cells
    have hp := hb.put 0 0 false
    obtain ⟨V, hV⟩ : ∃ V, ((W.setCell ⟨w.heap.size + 1, 0, none⟩ (.int .i64 0)).setCell ⟨w.heap.size + 1 + 1, 0, none⟩ (.int .i64 0)).setCell ⟨w.heap.size + 1 + 1 + 1, 0, none⟩ (.bool false) = V := ⟨_, rfl⟩
    have hKV : V.heap[D]? = some (.deferred (some [])) := by
      rw [← hV]
      exact (heap_setCell_other _ _ _ _ (by dsimp only; omega)).trans ((heap_setCell_other _ _ _ _ (by dsimp only; omega)).trans ((heap_setCell_other _ _ _ _ (by dsimp only; omega)).trans hK))
    have hpV : CBox w v 0 0 false V := by rw [← hV]; exact hp
    have HF := Lib.hid (And.intro hKV ((CBox.deaf (B := W0.heap.size) (by omega)).put hD (.deferred none) hpV))
    clear hp hKV hpV hj hK
    gi_wp2
    obtain ⟨hKV, hF⟩ := HF.out
    refine ⟨by simp, .inl ⟨_, _, rfl, run_takeDeferred hKV, ?_⟩⟩
    obtain ⟨⟨d1, d2, d3⟩, _⟩ := hF.cells
    refine ⟨.tuple #[.int .i64 0, .int .i64 0, .bool false], ?_, ?_, hF.2.2.2.2⟩
    · simp [results, Tryd.f13, go_sem, d1, d2, d3]
    · rw [show cS v = 0 by unfold cS; rw [if_neg hn], show cW v = 0 by unfold cW; rw [if_neg hn], show inB v = false by unfold inB; simpa using hn]
  case stop =>
    rintro D W hD ⟨hin, hb⟩ hK
    have hF := (CBox.deaf (B := W0.heap.size) (by omega)).put hD (.deferred none) hb
    gi_wp2
    refine ⟨by simp, .inl ⟨_, _, rfl, run_takeDeferred hK, ?_⟩⟩
    obtain ⟨⟨d1, d2, d3⟩, _⟩ := hF.cells
    refine ⟨.tuple #[.int .i64 (cS v), .int .i64 (cW v), .bool true], ?_, ?_, hF.2.2.2.2⟩
    · simp [results, Tryd.f13, go_sem, d1, d2, d3]
    · rw [show inB v = true by unfold inB; simpa using hin]

/-- Whose cell a place lies in, as it is answered. -/
def fB (p : Int) : Bool := decide (0 ≤ p ∧ p < 32768)
def fV (p : Int) : Int := if 0 ≤ p ∧ p < 32768 then vI (fI p.toNat) else 0
theorem find_end {p : Int} (h : ∀ j, j < 49 → ((sI j + wI j : Nat) : Int) ≤ p) : ¬ (0 ≤ p ∧ p < 32768) := by
  have h1 := h 48 (by omega)
  have h2 : sI 48 + wI 48 = 32768 := by decide +kernel
  rw [h2] at h1
  omega
theorem find_hit {p : Int} {i : Nat} (hi : i < 49) (h0 : 0 ≤ p) (h : ∀ j, j < i → ((sI j + wI j : Nat) : Int) ≤ p) (hp : p < ((sI i + wI i : Nat) : Int)) : (0 ≤ p ∧ p < 32768) ∧ fV p = vI i := by
  have h1 := sw_le hi
  have h2 : 0 ≤ p ∧ p < 32768 := by omega
  refine ⟨h2, ?_⟩
  unfold fV
  rw [if_pos h2, fI_eq hi ?_ (by omega)]
  cases i with
  | zero => exact Nat.zero_le _
  | succ j =>
    have h3 := h j (by omega)
    show sI j + wI j ≤ _
    omega

/-- The boxes of Find: its argument and its results. -/
def FBox (w : World) (p : Int) (a : Int) (r : Bool) (W : World) : Prop :=
  At W w.heap.size #[.int .i64 p] 3 ∧ At W (w.heap.size + 1) #[.int .i64 a] 3 ∧ At W (w.heap.size + 2) #[.bool r] 4 ∧ Below w.heap.size w W
theorem FBox.deaf {w : World} {p a : Int} {r : Bool} {B : Nat} (hB : w.heap.size + 3 ≤ B) : Deaf B (FBox w p a r) :=
  (Deaf.at (by omega)).and ((Deaf.at (by omega)).and ((Deaf.at (by omega)).and (Deaf.below (Nat.le_refl _) (by omega))))
theorem FBox.put {w W : World} {p a : Int} {r : Bool} (h : FBox w p a r W) (x : Int) (t : Bool) :
    FBox w p x t ((W.setCell ⟨w.heap.size + 1, 0, none⟩ (.int .i64 x)).setCell ⟨w.heap.size + 2, 0, none⟩ (.bool t)) := by
  obtain ⟨e0, e1, e2, hb⟩ := h
  refine ⟨(e0.setCell_other ?_).setCell_other ?_, (e1.setCell).setCell_other ?_, (e2.setCell_other ?_).setCell, ?_⟩
  all_goals first | (dsimp only; omega) | skip
  exact (hb.setCell (p := ⟨w.heap.size + 1, 0, none⟩) (by dsimp only; omega) _).setCell (p := ⟨w.heap.size + 2, 0, none⟩) (by dsimp only; omega) _
theorem FBox.cells {w W : World} {p a : Int} {r : Bool} (h : FBox w p a r W) : (W.cell? ⟨w.heap.size + 1, 0, none⟩ = some (.int .i64 a) ∧ W.cell? ⟨w.heap.size + 1 + 1, 0, none⟩ = some (.bool r)) ∧ W.frozen? ⟨w.heap.size + 1, 0, none⟩ = false ∧ W.frozen? ⟨w.heap.size + 1 + 1, 0, none⟩ = false :=
  ⟨⟨h.2.1.cell 0, h.2.2.1.cell 0⟩, h.2.1.frozen 0, h.2.2.1.frozen 0⟩

set_option maxHeartbeats 2000000 in
theorem find_any (p : Int) (w : World) :
    Calls Tryd.prog 22 #[.int .i64 p] w fun e w' => e = .returned (.tuple #[.int .i64 (fV p), .bool (fB p)]) ∧ Below w.heap.size w w' := by
  have b0 : FBox w p 0 false (((w.alloc (.cells #[.int .i64 p] 3)).alloc (.cells #[.int .i64 0] 3)).alloc (.cells #[.bool false] 4)) := by
    have a0 := At.new w #[.int .i64 p] 3
    have a1 := At.new (w.alloc (.cells #[.int .i64 p] 3)) #[.int .i64 0] 3
    have a2 := At.new ((w.alloc (.cells #[.int .i64 p] 3)).alloc (.cells #[.int .i64 0] 3)) #[.bool false] 4
    simp only [World.size_alloc] at a1 a2
    exact ⟨(a0.alloc _).alloc _, a1.alloc _, a2, ((((Below.refl _ w).alloc (Nat.le_refl _) _).alloc (by simp) _).alloc (by simp; omega) _)⟩
  by_cases hp0 : p < 0
  · have hn : ¬ (0 ≤ p ∧ p < 32768) := by omega
    have HF := Lib.hid b0
    clear b0
    go_enter Tryd.func22, Tryd.ntmps22
    go_wp2
    obtain ⟨⟨d1, d2⟩, _⟩ := HF.out.cells
    refine bodyPost_ret (v := .tuple #[.int .i64 0, .bool false]) ?_ rfl ⟨?_, HF.out.2.2.2⟩
    · simp [results, Tryd.f22, go_sem, d1, d2]
    · rw [show fV p = 0 by unfold fV; rw [if_neg hn], show fB p = false by unfold fB; simpa using hn]
  · refine (callsIn_wide (n := 9)).1 (callsIn_of_wp_marks Tryd.func22 rfl trivial ?_ rfl)
    have hp1 : decide (p < 0) = false := by simpa using hp0
    simp only [Tryd.ntmps22, List.size_toArray, List.length_cons, List.length_nil, Nat.reduceAdd, Nat.reduceSub, Array.replicate_succ, Array.replicate_zero, List.push_toArray, List.append_toArray, List.nil_append, List.cons_append]
    gi_wp2
    obtain ⟨W0, hW0⟩ : ∃ W0, ((w.alloc (.cells #[.int .i64 p] 3)).alloc (.cells #[.int .i64 0] 3)).alloc (.cells #[.bool false] 4) = W0 := ⟨_, rfl⟩
    have hsz : W0.heap.size = w.heap.size + 3 := by rw [← hW0]; simp
    rw [hW0] at b0 ⊢
    clear hW0
    refine range_over (gf := 24) rfl (enters_of Tryd.func24 (by kernel_rfl) rfl) (cells_yields _) (fun _ => rfl)
      (fun i W => (∀ j, j < i → ((sI j + wI j : Nat) : Int) ≤ p) ∧ FBox w p 0 false W) (fun W => (0 ≤ p ∧ p < 32768) ∧ FBox w p (fV p) true W)
      (fun i => (Deaf.const _ _).and (FBox.deaf (by omega))) ((Deaf.const _ _).and (FBox.deaf (by omega))) ⟨fun j hj => absurd hj (Nat.not_lt_zero j), b0⟩
      (fun i a' W => ∃ Bx, W0.heap.size + 2 ≤ Bx ∧ At W Bx #[.int .i64 (sI i), .int .i64 (wI i)] 65 ∧ a' = { tmps := #[.int .i64 p, .pointer (some ⟨w.heap.size, 0, none⟩), .pointer (some ⟨w.heap.size + 1, 0, none⟩), .pointer (some ⟨w.heap.size + 2, 0, none⟩), .int .i64 (vI i), .pointer (some ⟨Bx, 0, none⟩), .int .i64 p, .bool false, .int .i64 (vI i), .agg #[.int .i64 (sI i), .int .i64 (wI i)], undef, undef, undef, undef, undef, undef, undef, undef], defers := [] })
      (fun i a' W W' ⟨Bx, h1, h2, h3⟩ hk => ⟨Bx, h1, hk.at h2 h1, h3⟩) ?assign ?body ?done ?stop
    case assign =>
      rintro l i W K hi ⟨hj, hb⟩ hW hK
      unfold cE
      gi_wp2
      exact hK _ _ (Kept.alloc _ _ _) ⟨hj, (FBox.deaf (B := W0.heap.size) (by omega)).alloc _ hb⟩ ⟨W.heap.size, hW, At.new _ _ _, rfl⟩
    case body =>
      rintro l i a' W hi ⟨hj, hb⟩ ⟨Bx, hBx, hA, rfl⟩
      have hsw := sw_le hi
      obtain ⟨x, hx⟩ : ∃ x : Nat, sI i = x := ⟨_, rfl⟩
      obtain ⟨y, hy⟩ : ∃ y : Nat, wI i = y := ⟨_, rfl⟩
      obtain ⟨z, hz⟩ : ∃ z : Int, vI i = z := ⟨_, rfl⟩
      rw [hx, hy] at hA hsw
      rw [hx, hy, hz]
      have HB := Lib.hid hb
      have HA := Lib.hid hA
      have HJ := Lib.hid hj
      have HX := Lib.hid (And.intro hx (And.intro hy hz))
      obtain ⟨e0, e1, e2, _⟩ := hb
      have c0 : W.cell? ⟨w.heap.size, 0, none⟩ = some (.int .i64 p) := by rw [e0.cell]; rfl
      have c1 : W.cell? ⟨w.heap.size + 1, 0, none⟩ = some (.int .i64 0) := by rw [e1.cell]; rfl
      have c2 : W.cell? ⟨w.heap.size + 2, 0, none⟩ = some (.bool false) := by rw [e2.cell]; rfl
      have f1 := e1.frozen 0
      have f2 := e2.frozen 0
      have l0 : W.cell? ⟨Bx, 0, none⟩ = some (.int .i64 x) := by rw [hA.cell]; rfl
      have l1 : W.cell? ⟨Bx, 1, none⟩ = some (.int .i64 y) := by rw [hA.cell]; rfl
      clear e0 e1 e2 hA hx hy hz hj
      by_cases hv : p < (x : Int) + y
      · have hd : decide (p < (x : Int) + y) = true := by simpa using hv
        have HF := Lib.hid (show Kept W0.heap.size W ((W.setCell ⟨w.heap.size + 1, 0, none⟩ (.int .i64 z)).setCell ⟨w.heap.size + 2, 0, none⟩ (.bool true)) ∧ (0 ≤ p ∧ p < 32768) ∧ FBox w p (fV p) true ((W.setCell ⟨w.heap.size + 1, 0, none⟩ (.int .i64 z)).setCell ⟨w.heap.size + 2, 0, none⟩ (.bool true)) from by
          obtain ⟨hx, hy, hz⟩ := HX.out
          obtain ⟨g1, g2⟩ := find_hit hi (by omega) HJ.out (by rw [hx, hy]; exact_mod_cast hv)
          refine ⟨(Kept.setCell W (p := ⟨w.heap.size + 1, 0, none⟩) (by dsimp only; omega) _).trans (Kept.setCell _ (p := ⟨w.heap.size + 2, 0, none⟩) (by dsimp only; omega) _), g1, ?_⟩
          rw [g2, hz]
          exact HB.out.put z true)
        gi_wp2
        exact HF.out
      · have hd : decide (p < (x : Int) + y) = false := by simpa using hv
        gi_wp2
        refine ⟨Kept.refl _ _, fun j hj => ?_, HB.out⟩
        obtain ⟨hx, hy, _⟩ := HX.out
        rcases Nat.lt_succ_iff_lt_or_eq.1 hj with h | rfl
        · exact HJ.out j h
        · rw [hx, hy]; omega
    case done =>
      rintro D W hD ⟨hj, hb⟩ hK
      have hn := find_end hj
      obtain ⟨⟨c1, c2⟩, f1, f2⟩ := hb.cells
      have hp := hb.put 0 false
      obtain ⟨V, hV⟩ : ∃ V, (W.setCell ⟨w.heap.size + 1, 0, none⟩ (.int .i64 0)).setCell ⟨w.heap.size + 1 + 1, 0, none⟩ (.bool false) = V := ⟨_, rfl⟩
      have hKV : V.heap[D]? = some (.deferred (some [])) := by
        rw [← hV]
        exact (heap_setCell_other _ _ _ _ (by dsimp only; omega)).trans ((heap_setCell_other _ _ _ _ (by dsimp only; omega)).trans hK)
      have hpV : FBox w p 0 false V := by rw [← hV]; exact hp
      have HF := Lib.hid (And.intro hKV ((FBox.deaf (B := W0.heap.size) (by omega)).put hD (.deferred none) hpV))
      clear hp hKV hpV hj hK
      gi_wp2
      obtain ⟨hKV, hF⟩ := HF.out
      refine ⟨by simp, .inl ⟨_, _, rfl, run_takeDeferred hKV, ?_⟩⟩
      obtain ⟨⟨d1, d2⟩, _⟩ := hF.cells
      refine ⟨.tuple #[.int .i64 0, .bool false], ?_, ?_, hF.2.2.2⟩
      · simp [results, Tryd.f22, go_sem, d1, d2]
      · rw [show fV p = 0 by unfold fV; rw [if_neg hn], show fB p = false by unfold fB; simpa using hn]
    case stop =>
      rintro D W hD ⟨hin, hb⟩ hK
      have hF := (FBox.deaf (B := W0.heap.size) (by omega)).put hD (.deferred none) hb
      gi_wp2
      refine ⟨by simp, .inl ⟨_, _, rfl, run_takeDeferred hK, ?_⟩⟩
      obtain ⟨⟨d1, d2⟩, _⟩ := hF.cells
      refine ⟨.tuple #[.int .i64 (fV p), .bool true], ?_, ?_, hF.2.2.2⟩
      · simp [results, Tryd.f22, go_sem, d1, d2]
      · rw [show fB p = true by unfold fB; simpa using hin]
end Go.Proofs.YtidbagkkkpfkbaaDoor.Lp
