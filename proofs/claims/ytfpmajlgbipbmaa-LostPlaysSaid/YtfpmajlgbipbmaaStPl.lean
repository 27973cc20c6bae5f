/- Contract of Plain. -/
import Derived.Test.YtfpmajlgbipbmaaStOne
set_option maxRecDepth 100000
set_option linter.unusedVariables false
namespace Go.Proofs.Ytfpmajlgbipbmaa.Sta
open Go.RowKit Go.Proofs.Ytfpmajlgbipbmaa.Row Go.Proofs.Ytfpmajlgbipbmaa.Md

set_option maxHeartbeats 400000 in
theorem plain_as (T : Array Value) (f : Nat → Int) (w : World) (hT : IsRow 38 f T) :
    Calls Try.prog 15 #[.agg T] w fun e w' => e = .returned (.agg T) ∧ Below w.heap.size w w' := by
  obtain ⟨Z, hZ, hZ0, hz, hi⟩ := zero_r
  obtain ⟨_, _, _, _, hib⟩ := zero_b
  obtain ⟨_, _, _, _, hi4⟩ := zero_4
  have HI := Lib.hid hi
  have HIB := Lib.hid hib
  have HI4 := Lib.hid hi4
  have HT := Lib.hid hT
  have HM := Lib.hid (hT.sub (show 0 + 16 ≤ 38 by omega))
  have HV := Lib.hid (hT.sub (show 17 + 4 ≤ 38 by omega))
  have HU := Lib.hid (hT.sub (show 21 + 16 ≤ 38 by omega))
  have HE := Lib.hid (built_same isSt_r hT)
  have HZ := Lib.hid hZ.1
  have h0 := (At.new w T 31).alloc (.cells Z 25)
  have h1 := At.new (w.alloc (.cells T 31)) Z 25
  rw [World.size_alloc] at h1
  have H0 := Lib.hid h0
  have H1 := Lib.hid h1
  have HB := Lib.hid (((Below.refl w.heap.size w).alloc (Nat.le_refl _) (.cells T 31)).alloc (by simp) (.cells Z 25))
  have c16 := hT.cell h0 16 (by omega)
  have c37 := hT.cell h0 37 (by omega)
  obtain ⟨x, hx⟩ : ∃ x, f 16 = x := ⟨_, rfl⟩
  obtain ⟨y, hy⟩ : ∃ x, f 37 = x := ⟨_, rfl⟩
  obtain ⟨M, hM⟩ : ∃ M, T.extract 0 (0 + 16) = M := ⟨_, rfl⟩
  obtain ⟨V, hV⟩ : ∃ M, T.extract 17 (17 + 4) = M := ⟨_, rfl⟩
  obtain ⟨U, hU⟩ : ∃ M, T.extract 21 (21 + 16) = M := ⟨_, rfl⟩
  rw [hx, hy, hM, hV, hU] at HE
  rw [hM] at HM
  rw [hV] at HV
  rw [hU] at HU
  rw [hx] at c16
  rw [hy] at c37
  clear hT hZ hZ0 hi hib hi4 h0 h1 hx hy hM hV hU
  go_enter Try.func15, Try.ntmps15
  go_wp2_with (first
    | refine wpList_load_part (by rfl) 29 _ rfl w.heap.size 0 rfl HT.out H0.out HM.out (by omega) (fun i _ => rfl) Try.underlying29 rfl (HIB.out _ HM.out.1) ?_
    | refine wpList_load_part (by rfl) 23 _ rfl w.heap.size 17 rfl HT.out H0.out HV.out (by omega) (fun i _ => rfl) Try.underlying23 rfl (HI4.out _ HV.out.1) ?_
    | refine wpList_load_part (by rfl) 29 _ rfl w.heap.size 21 rfl HT.out H0.out HU.out (by omega) (fun i _ => rfl) Try.underlying29 rfl (HIB.out _ HU.out.1) ?_
    | refine wpList_build_parts (by rfl) 25 _ rfl _ rfl HE.out ?_
    | refine wpList_store_row rfl 25 _ _ rfl (w.heap.size + 1) T rfl rfl _ _ H1.out (HI.out _ HT.out.1) (by rw [HZ.out, HT.out.1]) HT.out.2.1 ?_)
  exact bodyPost_ret (v := .agg T) (results_cell_row rfl _ _ (w.heap.size + 1) 25 T (0, 0) _ rfl H1.out.setRow Try.underlying25 rfl (HI.out _ HT.out.1)) rfl ⟨rfl, below_setRow' HB.out (by omega) _⟩

theorem enter_plain (args : Array Value) (w : World) : (callFunc 15 args).run Try.prog w = .ok (.enter 15 args) w := run_enter Try.func15 (by kernel_rfl) rfl args w
end Go.Proofs.Ytfpmajlgbipbmaa.Sta
