/- Contracts: the statements' Of and Plain. -/
import Derived.Test.YtfpmajlgbipbmaaStC
set_option maxRecDepth 100000
set_option linter.unusedVariables false
namespace Go.Proofs.Ytfpmajlgbipbmaa.Sta
open Go.RowKit Go.Proofs.Ytfpmajlgbipbmaa.Row Go.Proofs.Ytfpmajlgbipbmaa.Md

theorem built_same {t : TypeId} (ht : IsSt t) {T : Array Value} {f : Nat → Int} (hT : IsRow 38 f T) : Try.prog.built t [(0, .agg (T.extract 0 (0 + 16))), (1, .int .i64 (f 16)), (2, .agg (T.extract 17 (17 + 4))), (3, .agg (T.extract 21 (21 + 16))), (4, .int .i64 (f 37))] = some T := by
  obtain ⟨U, hU, e⟩ := built_5 ht (hT.sub (show 0 + 16 ≤ 38 by omega)) (f 16) (hT.sub (show 17 + 4 ≤ 38 by omega)) (hT.sub (show 21 + 16 ≤ 38 by omega)) (f 37)
  rw [e]
  exact congrArg some (hU.eq hT fun k hk => by
    have := stF_self f hk
    unfold stF at this ⊢
    rw [← this]
    simp only [Nat.zero_add])

set_option maxHeartbeats 400000 in
theorem of_as (T : Array Value) (f : Nat → Int) (w : World) (hT : IsRow 38 f T) :
    Calls Try.prog 11 #[.agg T] w fun e w' => e = .returned (.agg T) ∧ Below w.heap.size w w' := by
  obtain ⟨Z, hZ, hZ0, hz, hi⟩ := zero_p
  obtain ⟨_, _, _, _, hib⟩ := zero_a
  obtain ⟨_, _, _, _, hi4⟩ := zero_4
  have HI := Lib.hid hi
  have HIB := Lib.hid hib
  have HI4 := Lib.hid hi4
  have HT := Lib.hid hT
  have HM := Lib.hid (hT.sub (show 0 + 16 ≤ 38 by omega))
  have HV := Lib.hid (hT.sub (show 17 + 4 ≤ 38 by omega))
  have HU := Lib.hid (hT.sub (show 21 + 16 ≤ 38 by omega))
  have HE := Lib.hid (built_same isSt_p hT)
  have HZ := Lib.hid hZ.1
  have h0 := (At.new w T 25).alloc (.cells Z 31)
  have h1 := At.new (w.alloc (.cells T 25)) Z 31
  rw [World.size_alloc] at h1
  have H0 := Lib.hid h0
  have H1 := Lib.hid h1
  have HB := Lib.hid (((Below.refl w.heap.size w).alloc (Nat.le_refl _) (.cells T 25)).alloc (by simp) (.cells Z 31))
  have c16 := hT.cell h0 16 (by omega)
  have c37 := hT.cell h0 37 (by omega)
  obtain ⟨x, hx⟩ : ∃ x, f 16 = x := ⟨_, rfl⟩
  obtain ⟨y, hy⟩ : ∃ x, f 37 = x := ⟨_, rfl⟩
  obtain ⟨M, hM⟩ : ∃ M, T.extract 0 (0 + 16) = M := ⟨_, rfl⟩
  obtain ⟨V, hV⟩ : ∃ M, T.extract 17 (17 + 4) = M := ⟨_, rfl⟩
  obtain ⟨U, hU⟩ : ∃ M, T.extract 21 (21 + 16) = M := ⟨_, rfl⟩
  rw [hx, hy, hM, hV, hU] at HE
  rw [hM] at HM
  rw [hV] at HV
  rw [hU] at HU
  rw [hx] at c16
  rw [hy] at c37
  clear hT hZ hZ0 hi hib hi4 h0 h1 hx hy hM hV hU
  go_enter Try.func11, Try.ntmps11
  go_wp2_with (first
    | refine wpList_load_part (by rfl) 22 _ rfl w.heap.size 0 rfl HT.out H0.out HM.out (by omega) (fun i _ => rfl) Try.underlying22 rfl (HIB.out _ HM.out.1) ?_
    | refine wpList_load_part (by rfl) 23 _ rfl w.heap.size 17 rfl HT.out H0.out HV.out (by omega) (fun i _ => rfl) Try.underlying23 rfl (HI4.out _ HV.out.1) ?_
    | refine wpList_load_part (by rfl) 22 _ rfl w.heap.size 21 rfl HT.out H0.out HU.out (by omega) (fun i _ => rfl) Try.underlying22 rfl (HIB.out _ HU.out.1) ?_
    | refine wpList_build_parts (by rfl) 31 _ rfl _ rfl HE.out ?_
    | refine wpList_store_row rfl 31 _ _ rfl (w.heap.size + 1) T rfl rfl _ _ H1.out (HI.out _ HT.out.1) (by rw [HZ.out, HT.out.1]) HT.out.2.1 ?_)
  exact bodyPost_ret (v := .agg T) (results_cell_row rfl _ _ (w.heap.size + 1) 31 T (0, 0) _ rfl H1.out.setRow Try.underlying31 rfl (HI.out _ HT.out.1)) rfl ⟨rfl, below_setRow' HB.out (by omega) _⟩

end Go.Proofs.Ytfpmajlgbipbmaa.Sta
