/- The document's example; runs of right states, of one frame, of none. -/
import Derived.Test.YtfpmajlgbipbmaaLoD
set_option maxRecDepth 100000
set_option linter.unusedVariables false
namespace Go.Proofs.Ytfpmajlgbipbmaa.Lo
open Go.RowKit Go.Proofs.Ytfpmajlgbipbmaa.Row Go.Proofs.Ytfpmajlgbipbmaa.Md Go.Proofs.Ytfpmajlgbipbmaa.Tl Go.Proofs.Ytfpmajlgbipbmaa.Sta

theorem built_z {t : TypeId} (ht : IsSt t) (z : Int) : ∃ T, IsRow 38 (stF (fun _ => 0) 0 (fun _ => 0) (fun _ => 0) z) T ∧ Try.prog.built t [(4, .int .i64 z)] = some T := by
  obtain ⟨C, hC, e⟩ := fill_int (place := pl) (i := 4) (x := z) (rest := []) rfl (isRow_zero 38) (show 37 < 38 by omega)
  refine ⟨C, hC.ext fun k hk => ?_, by rw [ht, e]; rfl⟩
  show (if k = 37 then z else 0) = stF _ _ _ _ _ k
  unfold stF
  by_cases c : k = 37
  · subst c; rfl
  · rw [if_neg c]
    repeat' split
    all_goals (first | rfl | omega)

set_option maxHeartbeats 1000000 in
theorem awake_as (w : World) :
    Calls Try.prog 8 #[] w fun e w' => e = .returned (.bool true) ∧ Below w.heap.size w w' := by
  obtain ⟨Zp, hZp, _, hzp, hip⟩ := zero_p
  obtain ⟨Zb, hZb, _, hzb, hib⟩ := zero_b
  obtain ⟨E, hE, bE⟩ := built_0 isSt_p
  obtain ⟨D, hD, bD⟩ := built_b
  obtain ⟨F, hF, bF⟩ := built_z isSt_p 1
  have hC := lose_yes hE rt_zero (hD.ext fun k hk => (sl_zero k hk).symm) (hF.ext fun k hk => (nl_zero k hk).symm)
  have e1 := rows_eq hD hD (fun _ _ => rfl) Try.underlying29
  have e2 := st_eq_p hF hF (fun _ _ => rfl)
  have HC := Lib.hid hC
  have HIP := Lib.hid hip
  have HIB := Lib.hid hib
  have HD := Lib.hid hD
  have HF := Lib.hid hF
  have HBE := Lib.hid bE
  have HBD := Lib.hid bD
  have HBF := Lib.hid bF
  have HZB := Lib.hid hZb.1
  have HZP := Lib.hid hZp.1
  clear hC hip hib hD hF hE bE bD bF hZb hZp
  go_enter Try.func8, Try.ntmps8
  go_wp2_with (refine wpList_build_parts (by rfl) 31 [] rfl _ rfl HBE.out ?_)
  refine (HC.out w).mono ?_
  rintro e W1 ⟨rfl, hb⟩
  have HU := Lib.hid (Duo.start hb Zb Zp 29 31)
  clear hb HC
  go_wp2_with (first
    | (refine wpList_store_row rfl 29 _ _ rfl W1.heap.size D rfl rfl _ _ HU.out.2.2.1 (HIB.out _ HD.out.1) (by rw [HZB.out, HD.out.1]) HD.out.2.1 ?_
       replace HU := Lib.hid (HU.out.set1 D)
       revert HU
       generalize World.setRow _ _ _ = W4
       intro HU)
    | (refine wpList_store_row rfl 31 _ _ rfl (W1.heap.size + 1) F rfl rfl _ _ HU.out.2.2.2 (HIP.out _ HF.out.1) (by rw [HZP.out, HF.out.1]) HF.out.2.1 ?_
       replace HU := Lib.hid (HU.out.set2 F)
       revert HU
       generalize World.setRow _ _ _ = W5
       intro HU)
    | refine wpList_load_all (by rfl) 29 _ rfl W1.heap.size rfl HD.out HU.out.2.2.1 Try.underlying29 rfl HIB.out ?_
    | refine wpList_load_all (by rfl) 31 _ rfl (W1.heap.size + 1) rfl HF.out HU.out.2.2.2 Try.underlying31 rfl HIP.out ?_
    | refine wpList_build_parts (by rfl) 29 [] rfl _ rfl HBD.out ?_
    | refine wpList_build_parts (by rfl) 31 [(4, _)] rfl _ rfl HBF.out ?_)
  go_ret
  exact ⟨rfl, HU.out.1⟩
theorem enter_awake (args : Array Value) (w : World) : (callFunc 8 args).run Try.prog w = .ok (.enter 8 args) w := run_enter Try.func8 (by kernel_rfl) rfl args w

/-- The sounds of lost frames behind f. -/
def soN (f : Nat → Int) (k : Nat) : Nat → Int := slF (stN f k)

/-- So many frames behind a right state. -/
theorem run_yes {T : Array Value} {f : Nat → Int} {n : Int} {N : Nat} (hn : n = N) (h1 : N ≤ 1000) (hT : IsRow 38 f T) (h : Rt f) (w : World) :
    Calls Try.prog 10 #[.agg T, .int .i64 n] w (RetRun w (stN f) (soN f) N) :=
  run_gen T (stN f) (soN f) n N N (by omega) (by omega) hT (fun k _ X hX => ⟨_, _, isRow _ _, isRow _ _, lose_yes hX (st_right h k) (isRow _ _) (isRow _ _)⟩) w
/-- None of n below 0, or 0. -/
theorem run_none {T : Array Value} {f : Nat → Int} {n : Int} (hn : n ≤ 0) (hT : IsRow 38 f T) (w : World) :
    Calls Try.prog 10 #[.agg T, .int .i64 n] w (RetRun w (fun _ => f) (fun _ _ => 0) 0) :=
  run_gen T (fun _ => f) (fun _ _ => 0) n n 0 (by omega) (by omega) hT (fun k hk => absurd hk (by omega)) w
/-- One frame behind whatever state. -/
theorem run_one {T R Q : Array Value} {f h g : Nat → Int} (hT : IsRow 38 f T) (hR : IsRow 16 h R) (hQ : IsRow 38 g Q)
    (hC : ∀ w, Calls Try.prog 12 #[.agg T] w fun e w' => e = .returned (.tuple #[.agg R, .agg Q]) ∧ Below w.heap.size w w') (w : World) :
    Calls Try.prog 10 #[.agg T, .int .i64 1] w (RetRun w (fun k => if k = 0 then f else g) (fun _ => h) 1) :=
  run_gen T (fun k => if k = 0 then f else g) (fun _ => h) 1 1 1 (by omega) (by omega) hT (fun k hk X hX => by
    obtain rfl : k = 0 := by omega
    obtain rfl := hX.eq hT fun _ _ => rfl
    exact ⟨R, Q, hR, hQ, hC⟩) w
/-- What Lose answers of any state. -/
theorem lose_any {T : Array Value} {f : Nat → Int} (hT : IsRow 38 f T) : ∃ R Q h g, IsRow 16 h R ∧ IsRow 38 g Q ∧ ∀ w, Calls Try.prog 12 #[.agg T] w fun e w' => e = .returned (.tuple #[.agg R, .agg Q]) ∧ Below w.heap.size w w' := by
  by_cases h : Rt f
  · exact ⟨_, _, slF f, nlF f, isRow _ _, isRow _ _, lose_yes hT h (isRow _ _) (isRow _ _)⟩
  · exact ⟨_, _, fun _ => 0, fun _ => 0, isRow _ _, isRow _ _, lose_no hT h (isRow _ _) (isRow _ _)⟩
end Go.Proofs.Ytfpmajlgbipbmaa.Lo
