/- Texts of the walk, one behind the other. -/
import Derived.Test.YtbbeekpndhfpjaaSegLastsM30
import Derived.Test.YtbbeekpndhfpjaaSegLastsM33
import Derived.Laws.StructEq
import Derived.Test.YtbbeekpndhfpjaaSegLastsM25
import Derived.Test.YtbbeekpndhfpjaaRowT
import Derived.Test.YtbbeekpndhfpjaaSegLastsM6

section
/- SgPl: contract of seg's placed. -/
set_option maxRecDepth 100000
set_option linter.unusedVariables false
set_option linter.unusedSimpArgs false
namespace Go.Proofs.Ytbbeekpndhfpjaa.Sg
open Go.RowKit Go.Proofs.Ytbbeekpndhfpjaa.Row Go.Proofs.Ytbbeekpndhfpjaa.Pa Go.Proofs.Ytbbeekpndhfpjaa.Fg Go.Proofs.Ytbbeekpndhfpjaa.Dk Go.Proofs.Ytbbeekpndhfpjaa.Crc

/-- Whether a page has the number and the kind of its sector, and a head its data. -/
def plB (i : Nat) (p : Pv) : Bool := decide (p.n = i ∧ (if i % 16 = 0 then p.k = 1 ∧ p.d = fourL (i / 16) else p.k = 2))
theorem enter_segment (args : Array Value) (w : World) : (callFunc 48 args).run Try.prog w = .ok (.enter 48 args) w := run_enter Try.func48 (by kernel_rfl) rfl args w

theorem str_eq (l m : List UInt8) : ((⟨l.toArray⟩ : ByteArray).toList == (⟨m.toArray⟩ : ByteArray).toList) = decide (l = m) := by
  rw [ByteArray.toList_eq, ByteArray.toList_eq]
  show (l == m) = _
  by_cases h : l = m
  · rw [h]; simp
  · rw [decide_eq_false h]; simpa using h

set_option maxHeartbeats 1000000 in
theorem placed_as (i : Nat) (p : Pv) (w : World) (hi : i ≤ 1000000) (hr : p.right) (ho : p.Ok) :
    Calls Try.prog 43 #[.int .i64 i, .agg (pgV p)] w fun e w' => e = .returned (.bool (plB i p)) ∧ Below w.heap.size w w' := by
  have HA := Lib.hid (At.new w (pgV p) 73)
  have HB := Lib.hid ((Below.refl w.heap.size w).alloc (Nat.le_refl _) (.cells (pgV p) 73))
  have hn : p.n < 4294967296 := ho.2
  have HR := Lib.hid hr
  have HL := Lib.hid (fun w => leads_as i w hi)
  have HS := Lib.hid (fun w => segment_as i w hi)
  obtain ⟨B, hPB⟩ : ∃ B, plB i p = B := ⟨_, rfl⟩
  have HPB := Lib.hid hPB
  rw [hPB]
  have c1 : (w.alloc (.cells (pgV p) 73)).cell? ⟨w.heap.size, 1, none⟩ = some (.int .u32 p.n) := (HA.out.cell 1).trans rfl
  have c2 : (w.alloc (.cells (pgV p) 73)).cell? ⟨w.heap.size, 2, none⟩ = some (.int .i64 p.k) := (HA.out.cell 2).trans rfl
  clear hr ho hPB
  by_cases hni : p.n = i
  · obtain ⟨n, hnn⟩ : ∃ n, p.n = n := ⟨_, rfl⟩
    have HNI := Lib.hid hni
    rw [hnn] at c1 hn hni
    subst hni
    have j1 : ((n : Int) != (n : Int)) = false := by simp
    by_cases h16 : n % 16 = 0
    · obtain ⟨k, hkk⟩ : ∃ k, p.k = k := ⟨_, rfl⟩
      have HKK := Lib.hid hkk
      rw [hkk] at c2
      rw [decide_eq_true h16] at HL
      clear hkk hnn
      by_cases hk : k = 1
      · subst hk
        go_enter Try.func43, Try.ntmps43
        go_wp2_with fail
        refine (HL.out _).mono ?_
        rintro e w1 ⟨rfl, rfl⟩
        go_wp2_with fail
        generalize w.alloc (.cells (pgV p) 73) = W at *
        refine mf_start (fun w' => At w' w.heap.size (pgV p) 73 ∧ Below w.heap.size w w') (fun _ => false) ⟨HA.out, below_drewN HB.out 1⟩ fun hS => ?_
        refine mf_yield (i := 0) (d := 12) (.pointer (some ⟨w.heap.size, 2, none⟩)) rfl rfl (by kernel_rfl) (by kernel_rfl) (by kernel_rfl) (by kernel_rfl) hS (y_fieldO (by rfl) rfl rfl (fldp 2 (by omega)) (Nat.zero_add _)) ?_
        simp only [Act.put, List.setIfInBounds_toArray, List.set_cons_zero, List.set_cons_succ]
        refine mf_yield (i := 1) (d := 13) (.int .i64 1) rfl rfl (by kernel_rfl) (by kernel_rfl) (by kernel_rfl) (by kernel_rfl) hS (y_cell1 (by rfl) rfl rfl Try.underlying3 rfl (fun w h => by rw [← HKK.out]; exact (h.1.cell 2).trans rfl)) ?_
        simp only [Act.put, List.setIfInBounds_toArray, List.set_cons_zero, List.set_cons_succ]
        refine mf_yield (i := 2) (d := 14) (.bool true) rfl rfl (by kernel_rfl) (by kernel_rfl) (by kernel_rfl) (by kernel_rfl) hS (y_eqlK (by rfl) rfl Try.underlying3 rfl rfl rfl) ?_
        simp only [Act.put, List.setIfInBounds_toArray, List.set_cons_zero, List.set_cons_succ]
        refine mf_yield (i := 3) (d := 15) (.bool true) rfl rfl (by kernel_rfl) (by kernel_rfl) (by kernel_rfl) (by kernel_rfl) hS (y_run (by rfl) fun _ => by rfl) ?_
        simp only [Act.put, List.setIfInBounds_toArray, List.set_cons_zero, List.set_cons_succ]
        refine mf_yield (i := 4) (d := 16) (.pointer (some ⟨w.heap.size, 5, none⟩)) rfl rfl (by kernel_rfl) (by kernel_rfl) (by kernel_rfl) (by kernel_rfl) hS (y_fieldO (by rfl) rfl rfl (fldp 5 (by omega)) (Nat.zero_add _)) ?_
        simp only [Act.put, List.setIfInBounds_toArray, List.set_cons_zero, List.set_cons_succ]
        refine mf_yield (i := 5) (d := 17) (.string ⟨p.d.toArray⟩) rfl rfl (by kernel_rfl) (by kernel_rfl) (by kernel_rfl) (by kernel_rfl) hS (y_cell1 (by rfl) rfl rfl Try.underlying9 rfl (fun w h => (h.1.cell 5).trans rfl)) ?_
        simp only [Act.put, List.setIfInBounds_toArray, List.set_cons_zero, List.set_cons_succ]
        refine mf_yield (i := 6) (d := 18) (.int .i64 n) rfl rfl (by kernel_rfl) (by kernel_rfl) (by kernel_rfl) (by kernel_rfl) hS (y_run (by rfl) fun _ => by rfl) ?_
        simp only [Act.put, List.setIfInBounds_toArray, List.set_cons_zero, List.set_cons_succ]
        refine mf_ready [7] (by kernel_rfl) (by simp) (af_call (i := 7) (d := 19) (R := fun v w' => v = .string (tx (fourL (n / 16))) ∧ (At w' w.heap.size (pgV p) 73 ∧ Below w.heap.size w w')) #[.int .i64 n] rfl rfl (by rfl) rfl enter_segment (by kernel_rfl) ((HS.out _).mono fun e w' h => ⟨_, h.1, rfl, hS.1.below h.2 hS.1.lt, below_trans hS.2 h.2 hS.2.size⟩) (fun v w' h => h.2) ?_ AllReadyF.nil)
        rintro v w1 ⟨rfl, h1⟩ _
        simp only [Act.put, List.setIfInBounds_toArray, List.set_cons_zero, List.set_cons_succ]
        refine mf_yield (i := 8) (d := 20) (.bool (decide (p.d = fourL (n / 16)))) rfl rfl (by kernel_rfl) (by kernel_rfl) (by kernel_rfl) (by kernel_rfl) h1 (y_eqlS (by rfl) rfl Try.underlying9 rfl rfl (str_eq _ _)) ?_
        simp only [Act.put, List.setIfInBounds_toArray, List.set_cons_zero, List.set_cons_succ]
        refine mf_yield (i := 9) (d := 21) (.bool (decide (p.d = fourL (n / 16)))) rfl rfl (by kernel_rfl) (by kernel_rfl) (by kernel_rfl) (by kernel_rfl) h1 (y_run (by rfl) fun _ => by rfl) ?_
        simp only [Act.put, List.setIfInBounds_toArray, List.set_cons_zero, List.set_cons_succ]
        refine mf_yield (i := 10) (d := 4) (.bool (decide (p.d = fourL (n / 16)))) rfl rfl (by kernel_rfl) (by kernel_rfl) (by kernel_rfl) (by kernel_rfl) h1 (y_run (by rfl) fun _ => by rfl) ?_
        simp only [Act.put, List.setIfInBounds_toArray, List.set_cons_zero, List.set_cons_succ]
        refine mf_done (by kernel_rfl) ?_
        have HB1 := Lib.hid h1.2
        have HE := Lib.hid (show decide (p.d = fourL (n / 16)) = B by
          rw [← HPB.out]
          unfold plB
          exact decide_eq_decide.2 ⟨fun h => ⟨HNI.out, by rw [if_pos h16]; exact ⟨HKK.out, h⟩⟩, fun h => by have := h.2; rw [if_pos h16] at this; exact this.2⟩)
        clear h1 hS
        go_wp2_with fail
        go_ret
        exact ⟨rb HE.out, HB1.out⟩
      · have d1 : (k == 1) = false := by rw [beq_eq_false_iff_ne]; exact hk
        have hb : B = false := by
          rw [← HPB.out]
          refine decide_eq_false fun h => ?_
          have := h.2
          rw [if_pos h16] at this
          exact hk (HKK.out.symm.trans this.1)
        subst hb
        go_enter Try.func43, Try.ntmps43
        go_wp2_with fail
        refine (HL.out _).mono ?_
        rintro e w1 ⟨rfl, rfl⟩
        go_wp2_with fail
        go_quiet (fail)
        go_wp2_with fail
        go_ret
        exact ⟨rb (by simp [*]), below_drewN HB.out _⟩
    · obtain ⟨k, hkk⟩ : ∃ k, p.k = k := ⟨_, rfl⟩
      have HKK := Lib.hid hkk
      rw [hkk] at c2
      rw [decide_eq_false h16] at HL
      have HE := Lib.hid (show (k == 2) = B by
        rw [← HPB.out]
        unfold plB
        by_cases h2 : k = 2
        · rw [decide_eq_true ⟨HNI.out, by rw [if_neg h16]; exact HKK.out.trans h2⟩, beq_iff_eq]; exact h2
        · rw [decide_eq_false (fun h => h2 (by have := h.2; rw [if_neg h16] at this; exact HKK.out.symm.trans this)), beq_eq_false_iff_ne]; exact h2)
      clear hkk hnn
      go_enter Try.func43, Try.ntmps43
      go_wp2_with fail
      refine (HL.out _).mono ?_
      rintro e w1 ⟨rfl, rfl⟩
      go_wp2_with fail
      go_ret
      exact ⟨rb (by first | exact HE.out | simp [HE.out] | (rw [← HE.out]; simp)), HB.out⟩
  · have j1 : ((p.n : Int) != (i : Int)) = true := by rw [bne_iff_ne]; omega
    have hb : B = false := by
      rw [← HPB.out]
      exact decide_eq_false fun h => hni h.1
    subst hb
    go_enter Try.func43, Try.ntmps43
    go_wp2_with fail
    go_ret
    exact ⟨rfl, HB.out⟩
end Go.Proofs.Ytbbeekpndhfpjaa.Sg
end
