/- Contracts of the program's disk: New. -/
import Derived.Test.YtcahdjkmegnbfaaDkA
set_option maxRecDepth 100000
set_option linter.unusedVariables false
namespace Go.Proofs.Ytcahdjkmegnbfaa.Dk
open Go.RowKit Go.Proofs.Ytcahdjkmegnbfaa.Row

/-- What New answers. -/
def RetNew (w : World) (size : Nat) (e : Ending) (w' : World) : Prop :=
  ∃ b T, e = .returned (.tuple #[.pointer (some ⟨b, 0, none⟩), .int .i64 0]) ∧ DkIs w' b T 0 (fresh zP size) ∧ Below w.heap.size w w' ∧ ∀ k, T k → w.heap.size ≤ k

theorem new_made (w : World) (size : Nat) (h : size ≤ 1024) (w' : World)
    (hw : w' = (((w.alloc (.map #[] 0)).alloc (.map #[] 0)).alloc (.map #[] 0)).alloc (.cells (dkR size false (-1) w.heap.size none 0 0 (w.heap.size + 1) (w.heap.size + 1 + 1)) 60)) :
    RetNew w size (.returned (.tuple #[.pointer (some ⟨w.heap.size + 1 + 1 + 1, 0, none⟩), .int .i64 0])) w' := by
  obtain ⟨B, hB⟩ : ∃ B, w.heap.size = B := ⟨_, rfl⟩
  have s1 : (w.alloc (.map #[] 0)).heap.size = B + 1 := by rw [World.size_alloc, hB]
  have s2 : ((w.alloc (.map #[] 0)).alloc (.map #[] 0)).heap.size = B + 1 + 1 := by rw [World.size_alloc, s1]
  have s3 : (((w.alloc (.map #[] 0)).alloc (.map #[] 0)).alloc (.map #[] 0)).heap.size = B + 1 + 1 + 1 := by rw [World.size_alloc, s2]
  have m1 := MpI.made w 3 .i64
  have m2 := MpI.made (w.alloc (.map #[] 0)) 3 .i64
  have m3 := MpI.made ((w.alloc (.map #[] 0)).alloc (.map #[] 0)) 3 .i64
  have hat := At.new (((w.alloc (.map #[] 0)).alloc (.map #[] 0)).alloc (.map #[] 0)) (dkR size false (-1) w.heap.size none 0 0 (w.heap.size + 1) (w.heap.size + 1 + 1)) 60
  rw [← hw, s3, hB] at hat
  rw [hB] at m1
  rw [s1] at m2
  rw [s2] at m3
  have b0 : Below w.heap.size w (w.alloc (.map #[] 0)) := (Below.refl _ _).alloc (Nat.le_refl _) _
  have b1 := (Below.refl (w.alloc (.map #[] 0)).heap.size (w.alloc (.map #[] 0))).alloc (Nat.le_refl _) (.map #[] 0)
  have b2 := (Below.refl ((w.alloc (.map #[] 0)).alloc (.map #[] 0)).heap.size ((w.alloc (.map #[] 0)).alloc (.map #[] 0))).alloc (Nat.le_refl _) (.map #[] 0)
  have b3 := (Below.refl (((w.alloc (.map #[] 0)).alloc (.map #[] 0)).alloc (.map #[] 0)).heap.size (((w.alloc (.map #[] 0)).alloc (.map #[] 0)).alloc (.map #[] 0))).alloc (Nat.le_refl _) (.cells (dkR size false (-1) w.heap.size none 0 0 (w.heap.size + 1) (w.heap.size + 1 + 1)) 60)
  rw [← hw] at b3
  have hb : Below w.heap.size w w' := below_trans (below_trans (below_trans b0 b1 (by rw [s1, hB]; omega)) b2 (by rw [s2, hB]; omega)) b3 (by rw [s3, hB]; omega)
  have hs : w'.heap.size = B + 1 + 1 + 1 + 1 := by rw [hw, World.size_alloc, s3]
  rw [hB]
  refine ⟨B + 1 + 1 + 1, fun k => B ≤ k ∧ k < w'.heap.size, rfl, ⟨B, B + 1, B + 1 + 1, none, 0, ?_⟩, hb, fun k hk => by rw [hB]; exact hk.1⟩
  refine ⟨hat, ⟨_, ((m1.below b1).below b2).below b3, fun i _ => rfl⟩, ⟨_, (m2.below b2).below b3, fun i _ => rfl⟩, ⟨_, m3.below b3, fun i _ => rfl⟩, Els.nil _ _ _ _ _, ?_, ⟨by omega, fun k hk => by simp [Value.ownBlock] at hk⟩, fun k hk => hk.2, ⟨Nat.le_refl _, fun i => ⟨Int.le_refl _, Int.le_refl _⟩, h, (show (Lit.int .i64 (-1)).wf = true by decide)⟩, ⟨fun _ => pag_z, fun k hk => absurd hk (Nat.not_lt_zero k)⟩⟩
  rw [hs]
  exact ⟨by omega, by omega, by omega, by omega, fun k hk => by simp [Value.ownBlock] at hk⟩

theorem built_disk (x p q r : Nat) : Try.prog.built 60 [(0, .int .i64 x), (2, .int .i64 (-1)), (3, .map (some p)), (5, .map (some q)), (6, .map (some r))] = some (dkR x false (-1) p none 0 0 q r) := by kernel_rfl
set_option maxHeartbeats 2000000 in
theorem new_yes (n : Nat) (h1 : 1 ≤ n) (h2 : n ≤ 1024) (w : World) : Calls Try.prog 10 #[.int .i64 n] w (RetNew w n) := by
  have hmm := @run_makeMap Try.prog
  have HM := Lib.hid (new_made w n h2)
  obtain ⟨x, hx⟩ : ∃ x : Int, (n : Int) = x := ⟨_, rfl⟩
  have hx1 : 1 ≤ x := by omega
  have hx2 : x ≤ 1024 := by omega
  have HB := Lib.hid (built_disk n w.heap.size (w.heap.size + 1) (w.heap.size + 1 + 1))
  rw [hx] at HB ⊢
  clear h1 h2 hx
  go_enter Try.func10, Try.ntmps10
  go_wp2_with (refine wpList_build_parts (by rfl) 60 [_, _, _, _, _] rfl _ rfl HB.out ?_)
  refine bodyPost_ret (results_tmp2 rfl _ _ _) rfl ?_
  exact HM.out _ rfl
theorem new_no (n : Int) (h : n < 1 ∨ 1024 < n) (w : World) : Calls Try.prog 10 #[.int .i64 n] w fun e w' => e = .returned (.tuple #[.pointer none, .int .i64 1]) ∧ w' = w := by
  rcases h with h | h
  · go_enter Try.func10, Try.ntmps10
    go_wp2
    refine bodyPost_ret (results_tmp2 rfl _ _ _) rfl ?_
    exact ⟨rfl, rfl⟩
  · have h1 : ¬ n < 1 := by omega
    go_enter Try.func10, Try.ntmps10
    go_wp2
    refine bodyPost_ret (results_tmp2 rfl _ _ _) rfl ?_
    exact ⟨rfl, rfl⟩

end Go.Proofs.Ytcahdjkmegnbfaa.Dk
