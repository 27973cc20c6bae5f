/- Texts of the walk, one behind the other. -/
import Derived.Test.YtimhemcoflpmcaaGreatDoorDecPlaysM31
import Derived.Test.YtimhemcoflpmcaaGreatDoorDecPlaysM1

section
/- Of and Plain are entered; what stands; the zero state is right. -/
set_option maxRecDepth 100000
set_option linter.unusedVariables false
namespace Go.Proofs.YtimhemcoflpmcaaGreatDoor.Sta
open Go.RowKit Go.Proofs.YtimhemcoflpmcaaGreatDoor.Row Go.Proofs.YtimhemcoflpmcaaGreatDoor.Md

theorem enter_of (args : Array Value) (w : World) : (callFunc 9 args).run Tryz.prog w = .ok (.enter 9 args) w := run_enter Tryz.func9 (by kernel_rfl) rfl args w

/-- All that stood in w stands, and the row T behind it. -/
def One (w : World) (T : Array Value) (t : TypeId) (w' : World) : Prop := Below w.heap.size w w' ∧ At w' w.heap.size T t

theorem One.start (w : World) (T : Array Value) (t : TypeId) : One w T t (w.alloc (.cells T t)) := ⟨(Below.refl _ _).alloc (Nat.le_refl _) _, At.new _ _ _⟩

theorem One.next {w w1 w2 : World} {T : Array Value} {t : TypeId} (h : One w T t w1) (hb : Below w1.heap.size w1 w2) : One w T t w2 := ⟨below_trans h.1 hb h.1.size, h.2.below hb h.2.lt⟩

theorem One.alloc {w w1 : World} {T : Array Value} {t : TypeId} (h : One w T t w1) (o : Obj) : One w T t (w1.alloc o) := h.next ((Below.refl _ _).alloc (Nat.le_refl _) o)

theorem At.two {w1 w2 : World} {b : Nat} {T : Array Value} {t : TypeId} (h : At w1 b T t) (hb : Below w1.heap.size w1 w2) : At w2 b T t := h.below hb h.lt

theorem rt_zero : Rt (fun _ => 0) := ⟨fun i _ => by dsimp only; omega, by dsimp only; omega, fun i _ => by dsimp only; omega, fun i _ => by show Md.ab 0 ≤ _; unfold Md.ab; omega, by dsimp only; omega⟩
end Go.Proofs.YtimhemcoflpmcaaGreatDoor.Sta
end

section
/- Contract of Plain. -/
set_option maxRecDepth 100000
set_option linter.unusedVariables false
namespace Go.Proofs.YtimhemcoflpmcaaGreatDoor.Sta
open Go.RowKit Go.Proofs.YtimhemcoflpmcaaGreatDoor.Row Go.Proofs.YtimhemcoflpmcaaGreatDoor.Md

set_option maxHeartbeats 400000 in
theorem plain_as (T : Array Value) (f : Nat → Int) (w : World) (hT : IsRow 38 f T) :
    Calls Tryz.prog 11 #[.agg T] w fun e w' => e = .returned (.agg T) ∧ Below w.heap.size w w' := by
  obtain ⟨Z, hZ, hZ0, hz, hi⟩ := zero_r
  obtain ⟨_, _, _, _, hib⟩ := zero_b
  obtain ⟨_, _, _, _, hi4⟩ := zero_4
  have HI := Lib.hid hi
  have HIB := Lib.hid hib
  have HI4 := Lib.hid hi4
  have HT := Lib.hid hT
  have HM := Lib.hid (hT.sub (show 0 + 16 ≤ 38 by omega))
  have HV := Lib.hid (hT.sub (show 17 + 4 ≤ 38 by omega))
  have HU := Lib.hid (hT.sub (show 21 + 16 ≤ 38 by omega))
  have HE := Lib.hid (built_same isSt_r hT)
  have HZ := Lib.hid hZ.1
  have h0 := (At.new w T 35).alloc (.cells Z 25)
  have h1 := At.new (w.alloc (.cells T 35)) Z 25
  rw [World.size_alloc] at h1
  have H0 := Lib.hid h0
  have H1 := Lib.hid h1
  have HB := Lib.hid (((Below.refl w.heap.size w).alloc (Nat.le_refl _) (.cells T 35)).alloc (by simp) (.cells Z 25))
  have c16 := hT.cell h0 16 (by omega)
  have c37 := hT.cell h0 37 (by omega)
  obtain ⟨x, hx⟩ : ∃ x, f 16 = x := ⟨_, rfl⟩
  obtain ⟨y, hy⟩ : ∃ x, f 37 = x := ⟨_, rfl⟩
  obtain ⟨M, hM⟩ : ∃ M, T.extract 0 (0 + 16) = M := ⟨_, rfl⟩
  obtain ⟨V, hV⟩ : ∃ M, T.extract 17 (17 + 4) = M := ⟨_, rfl⟩
  obtain ⟨U, hU⟩ : ∃ M, T.extract 21 (21 + 16) = M := ⟨_, rfl⟩
  rw [hx, hy, hM, hV, hU] at HE
  rw [hM] at HM
  rw [hV] at HV
  rw [hU] at HU
  rw [hx] at c16
  rw [hy] at c37
  clear hT hZ hZ0 hi hib hi4 h0 h1 hx hy hM hV hU
  go_enter Tryz.func11, Tryz.ntmps11
  go_wp2_with (first
    | refine wpList_load_part (by rfl) 27 _ rfl w.heap.size 0 rfl HT.out H0.out HM.out (by omega) (fun i _ => rfl) Tryz.underlying27 rfl (HIB.out _ HM.out.1) ?_
    | refine wpList_load_part (by rfl) 23 _ rfl w.heap.size 17 rfl HT.out H0.out HV.out (by omega) (fun i _ => rfl) Tryz.underlying23 rfl (HI4.out _ HV.out.1) ?_
    | refine wpList_load_part (by rfl) 27 _ rfl w.heap.size 21 rfl HT.out H0.out HU.out (by omega) (fun i _ => rfl) Tryz.underlying27 rfl (HIB.out _ HU.out.1) ?_
    | refine wpList_build_parts (by rfl) 25 _ rfl _ rfl HE.out ?_
    | refine wpList_store_row rfl 25 _ _ rfl (w.heap.size + 1) T rfl rfl _ _ H1.out (HI.out _ HT.out.1) (by rw [HZ.out, HT.out.1]) HT.out.2.1 ?_)
  exact bodyPost_ret (v := .agg T) (results_cell_row rfl _ _ (w.heap.size + 1) 25 T (0, 0) _ rfl H1.out.setRow Tryz.underlying25 rfl (HI.out _ HT.out.1)) rfl ⟨rfl, below_setRow' HB.out (by omega) _⟩

theorem enter_plain (args : Array Value) (w : World) : (callFunc 11 args).run Tryz.prog w = .ok (.enter 11 args) w := run_enter Tryz.func11 (by kernel_rfl) rfl args w
end Go.Proofs.YtimhemcoflpmcaaGreatDoor.Sta
end
