/- Texts of the walk, one behind the other. -/
import Derived.Test.YtinbdkneakblfaaStatePlaysM27
import Derived.Test.YtinbdkneakblfaaStatePlaysM28

section
/- Contracts: the statements' awake. -/
set_option maxRecDepth 100000
set_option linter.unusedVariables false
namespace Go.Proofs.Ytinbdkneakblfaa.Sta
open Go.RowKit Go.Proofs.Ytinbdkneakblfaa.Row

theorem rt_zero : Rt (fun _ => 0) := ⟨fun i _ => by dsimp only; omega, by dsimp only; omega, fun i _ => by dsimp only; omega, fun i _ => by show Md.ab 0 ≤ _; unfold Md.ab; omega, by dsimp only; omega⟩

theorem info_u8 : (Try.prog.info? 5).map (fun i => (i.zero, i.size, i.bytes)) = some (some (.int .u8 0), 1, 1) := by kernel_rfl
theorem made_137 (W : World) : TxtAt 137 (W.alloc (.cells (madeCells #[.int .u8 0] 137) 5)) W.heap.size (List.replicate 137 0) := by
  refine ⟨by simp, _, At.new _ _ _, by simp [madeCells], fun i c hc => ?_⟩
  rw [List.getElem?_replicate] at hc
  split at hc
  · rename_i hi
    injection hc with hc
    subst hc
    simp [madeCells, hi]
    simp [Nat.mod_one]
  · cases hc

set_option maxHeartbeats 400000 in
theorem awake_as (w : World) : Calls Try.prog 9 #[] w fun e w' => e = .returned (.bool true) ∧ Below w.heap.size w w' := by
  obtain ⟨E, hE, bE⟩ := built_0 isSt_p
  have HBE := Lib.hid bE
  have HC := Lib.hid (bytes_yes E (fun _ => 0) w hE rt_zero)
  rw [stL_zero] at HC
  have HM := Lib.hid made_137
  have hmk : ∀ w, (Instr.makeSlice 48 (.int .i64 137) (.int .i64 137)).run Try.prog w = .ok (.slice (some ⟨w.heap.size, 0, none⟩) 137 137) (w.alloc (.cells (madeCells #[.int .u8 0] 137) 5)) := run_make_row' (P := Try.prog) 48 5 (.int .u8 0) 1 Try.underlying48 info_u8 rfl .i64 .i64 137 (by omega) (by omega)
  obtain ⟨C, hC⟩ : ∃ C, madeCells #[Value.int .u8 0] 137 = C := ⟨_, rfl⟩
  rw [hC] at HM
  rw [hC] at hmk
  have hlen : (List.replicate 137 (0 : UInt8)).length = 137 := by simp
  have hcv : ∀ W, _ := fun W => conv_txt (c := 137) (HM.out W) hlen
  unfold RetTx at HC
  obtain ⟨s, hs⟩ : ∃ s, (⟨(List.replicate 137 (0 : UInt8)).toArray⟩ : ByteArray) = s := ⟨_, rfl⟩
  have hsz : s.size = 137 := by rw [← hs]; rfl
  rw [hs] at HC
  rw [hs] at hcv
  clear hE bE hC hs HM hlen
  go_enter Try.func9, Try.ntmps9
  go_wp2_with (refine wpList_build_parts (by rfl) 32 [] rfl _ rfl HBE.out ?_)
  refine HC.out.mono ?_
  rintro e w1 ⟨rfl, hb⟩
  have HB := Lib.hid hb
  have HB2 := Lib.hid (below_trans hb ((Below.refl _ _).alloc (Nat.le_refl _) (.cells C 5)) hb.size)
  clear HC hb
  go_wp2_with fail
  go_ret
  exact ⟨rfl, HB2.out⟩
end Go.Proofs.Ytinbdkneakblfaa.Sta
end
