/- Contracts of the document's coder: NewEnc, Used, Is. -/
import Derived.Test.YtnlfbndemajkaaaDoorRgP
import Derived.Test.YtnlfbndemajkaaaDoorCRefLength
import Derived.Test.YtnlfbndemajkaaaDoorSli
set_option maxRecDepth 100000
set_option linter.unusedVariables false
namespace Go.Proofs.YtnlfbndemajkaaaDoor.Rg
open Go.RowKit Go.Proofs.YtnlfbndemajkaaaDoor.Row

/-- The document's coder, low's bytes at block g. -/
structure RefAt (w : World) (g n c : Nat) (x : St) : Prop where
  n_eq : n = 4 + x.g
  n_le : n ≤ c
  c_le : c ≤ maxLen
  cell : ∀ i, i < n → w.cell? ⟨g, i, none⟩ = some (.int .i64 (dg x.L n i : Nat))
theorem RefAt.below {w w' : World} {g n c : Nat} {x : St} (h : RefAt w g n c x) (hb : Below w.heap.size w w') : RefAt w' g n c x :=
  ⟨h.n_eq, h.n_le, h.c_le, fun i hi => (Below.cell hb (block_lt_of_cell (h.cell i hi))).trans (h.cell i hi)⟩
theorem RefAt.keep {w w' : World} {g n c : Nat} {x : St} {A : Nat → Prop} (h : RefAt w g n c x) (hk : Keeps A w w') (hA : A g) : RefAt w' g n c x :=
  ⟨h.n_eq, h.n_le, h.c_le, fun i hi => hk.cell hA (h.cell i hi)⟩
theorem RefAt.fr {w w' : World} {g n c : Nat} {x : St} {T : Nat → Prop} (h : RefAt w g n c x) (hF : Fr T w w') (hT : ¬ T g) : RefAt w' g n c x :=
  ⟨h.n_eq, h.n_le, h.c_le, fun i hi => hF.cell (h.cell i hi) hT⟩
/-- The document's coder as a value. -/
def refV (g n c : Nat) (r : Int) : Value := .agg #[.slice (some ⟨g, 0, none⟩) n c, .int .i64 r]
/-- It is handed back, its bytes at a new block. -/
def RetRef (w : World) (x : St) (e : Ending) (w' : World) : Prop := ∃ g n c, e = .returned (refV g n c x.r) ∧ w.heap.size ≤ g ∧ RefAt w' g n c x ∧ Below w.heap.size w w'

theorem dg_zero (n i : Nat) : dg 0 n i = 0 := by unfold dg; simp

theorem results_ref {fn : Func} {p : Tmp} (h : fn.results = #[.cell p 48]) (tmps : Array Value) (w : World) (g : Nat) (v u : Value)
    (hp : tmps.getD p undef = .pointer (some ⟨g, 0, none⟩)) (hg : At w g #[v, u] 48) : (results fn tmps).run Tryd.prog w = .ok (.agg #[v, u]) w :=
  results_cell_row h tmps w g 48 #[v, u] (0, 0) _ hp hg Tryd.underlying48 rfl (by kernel_rfl)

theorem refNew_as (w : World) :
    Calls Tryd.prog 22 #[] w fun e w' => RetRef w St.new e w' := by
  go_enter Tryd.func22, Tryd.ntmps22
  go_wp2
  have H0 := (At.new w #[.slice (some ⟨w.heap.size + 1, 0, none⟩) 4 4, .int .i64 4294967295] 48).alloc (.cells #[.int .i64 0, .int .i64 0, .int .i64 0, .int .i64 0] 3)
  have H1 : At ((w.alloc (.cells #[.slice (some ⟨w.heap.size + 1, 0, none⟩) 4 4, .int .i64 4294967295] 48)).alloc (.cells #[.int .i64 0, .int .i64 0, .int .i64 0, .int .i64 0] 3)) (w.heap.size + 1) #[.int .i64 0, .int .i64 0, .int .i64 0, .int .i64 0] 3 := by
    have := At.new (w.alloc (.cells #[.slice (some ⟨w.heap.size + 1, 0, none⟩) 4 4, .int .i64 4294967295] 48)) #[.int .i64 0, .int .i64 0, .int .i64 0, .int .i64 0] 3
    simpa using this
  refine bodyPost_ret (v := refV (w.heap.size + 1) 4 4 4294967295) (results_ref rfl _ _ w.heap.size _ _ rfl H0) rfl ⟨_, _, _, rfl, by omega, ⟨rfl, Nat.le_refl _, by decide, fun i hi => ?_⟩, ((Below.refl _ _).alloc (Nat.le_refl _) _).alloc (by simp) _⟩
  show World.cell? _ _ = some (.int .i64 (dg 0 4 i : Nat))
  rw [dg_zero, H1.cell i]
  match i, hi with
  | 0, _ => rfl
  | 1, _ => rfl
  | 2, _ => rfl
  | 3, _ => rfl

theorem refLen_still (r : Nat) (w : World) (hr : r ≤ 4294967295) :
    Calls Tryd.prog 41 #[.int .i64 r] w fun e w' => e = .returned (.int .i64 (Lib.bitLen r : Nat)) ∧ w' = w :=
  (Ref01.length_any (r : Int) w (by omega) (by omega)).mono fun _ _ h => ⟨h.1, h.2.symm⟩

theorem refUsed_as (a : Option Addr) (n c r : Nat) (u : Int) (w : World) (hn : n ≤ 1000000) (hr : r ≤ 4294967295) (hu : 8 * ((n : Int) - 4) + 32 - (Lib.bitLen r : Nat) = u) :
    Calls Tryd.prog 25 #[.agg #[.slice a n c, .int .i64 r]] w fun e w' => e = .returned (.int .i64 u) ∧ Below w.heap.size w w' := by
  have hl := Lib.bitLen_le r 64 (by omega) (by omega)
  go_enter Tryd.func25, Tryd.ntmps25
  go_wp2_with fail
  have c0 : (w.alloc (.cells #[.slice a n c, .int .i64 r] 48)).drew.cell? ⟨w.heap.size, 0, none⟩ = some (.slice a n c) := (At.new w #[.slice a n c, .int .i64 r] 48).cell 0
  have c1 : (w.alloc (.cells #[.slice a n c, .int .i64 r] 48)).drew.cell? ⟨w.heap.size, 1, none⟩ = some (.int .i64 r) := (At.new w #[.slice a n c, .int .i64 r] 48).cell 1
  have HB := Lib.hid ((Below.refl w.heap.size w).alloc (Nat.le_refl _) (.cells #[.slice a n c, .int .i64 r] 48))
  go_quiet ((go_at_call 41; exact Calls.quiet_of_same (refLen_still r _ hr)))
  go_wp2
  go_ret
  exact ⟨by first | exact ret_int (by rw [← hu]) | exact ret_int (by rw [← hu]; omega), below_drewN HB.out _⟩

/-- What the document calls a cell. -/
def Tr.is (x : Tr) : Prop := 1 ≤ x.t ∧ x.t ≤ 32768 ∧ 0 ≤ x.s ∧ 1 ≤ x.v ∧ x.s + x.v ≤ x.t
instance (x : Tr) : Decidable x.is := by unfold Tr.is; infer_instance

set_option maxHeartbeats 2000000 in
theorem refIs_as (x : Tr) (w : World) (h1 : x.s < 1099511627776) (h2 : x.v < 1099511627776) (hf : x.fits) :
    Calls Tryd.prog 23 #[.agg #[.int .i64 x.s, .int .i64 x.v, .int .i64 x.t]] w fun e w' => e = .returned (.bool (decide x.is)) ∧ Below w.heap.size w w' := by
  obtain ⟨S, V, T⟩ := x
  obtain ⟨⟨f1, f2⟩, ⟨f3, f4⟩, f5, f6⟩ := hf
  dsimp only at *
  have hc : (T < 1) ∨ (1 ≤ T ∧ 32768 < T) ∨ ((1 ≤ T ∧ T ≤ 32768) ∧ S < 0) ∨ ((1 ≤ T ∧ T ≤ 32768 ∧ 0 ≤ S) ∧ V < 1) ∨ ((1 ≤ T ∧ T ≤ 32768 ∧ 0 ≤ S ∧ 1 ≤ V) ∧ T < S) ∨ ((1 ≤ T ∧ T ≤ 32768 ∧ 0 ≤ S ∧ 1 ≤ V ∧ S ≤ T) ∧ T < V) ∨ ((1 ≤ T ∧ T ≤ 32768 ∧ 0 ≤ S ∧ 1 ≤ V ∧ S ≤ T ∧ V ≤ T) ∧ T < S + V) ∨ (1 ≤ T ∧ T ≤ 32768 ∧ 0 ≤ S ∧ 1 ≤ V ∧ S ≤ T ∧ V ≤ T ∧ S + V ≤ T) := by omega
  obtain ⟨D, hD⟩ : ∃ D, decide (Tr.is ⟨S, V, T⟩) = D := ⟨_, rfl⟩
  have HD := Lib.hid hD
  rw [hD]
  clear hD
  rcases hc with h | ⟨h, h'⟩ | ⟨⟨ha, hb⟩, h'⟩ | ⟨⟨ha, hb, hc⟩, h'⟩ | ⟨⟨ha, hb, hc, hd⟩, h'⟩ | ⟨⟨ha, hb, hc, hd, he⟩, h'⟩ | ⟨⟨ha, hb, hc, hd, he, hf⟩, h'⟩ | ⟨ha, hb, hc, hd, he, hf, hg⟩
  all_goals
    go_enter Tryd.func23, Tryd.ntmps23
    go_wp2
    go_ret
    exact ⟨by rw [← HD.out]; refine ret_bool ?_; show _ = decide (1 ≤ T ∧ T ≤ 32768 ∧ 0 ≤ S ∧ 1 ≤ V ∧ S + V ≤ T); first | exact (decide_eq_false (by omega)).symm | exact (decide_eq_true (by omega)).symm | exact decide_eq_decide.2 (by omega), (Below.refl _ _).alloc (Nat.le_refl _) _⟩
end Go.Proofs.YtnlfbndemajkaaaDoor.Rg
