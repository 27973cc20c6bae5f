/- The document's Cut: a record's pieces as a slice of pages. -/
import Derived.Test.YtmaelcjmojhlpaaFgMath
import Derived.Test.YtmaelcjmojhlpaaPaV
import Derived.Test.YtmaelcjmojhlpaaRowT
import Derived.Test.YtmaelcjmojhlpaaElO
import Derived.Laws.Strings2
set_option maxRecDepth 100000
set_option linter.unusedVariables false
set_option linter.unusedSimpArgs false
namespace Go.Proofs.Ytmaelcjmojhlpaa.Fg
open Go.RowKit Go.Proofs.Ytmaelcjmojhlpaa.Row Go.Proofs.Ytmaelcjmojhlpaa.Pa

theorem elt_r : ElT 40 42 6 40 (pgV Pv.zero) :=
  ⟨Try.underlying40, ⟨_, _, rfl, rfl, by kernel_rfl, by kernel_rfl, by kernel_rfl⟩, rfl, by omega, by omega⟩
theorem elt_p : ElT 24 36 6 40 (pgV Pv.zero) :=
  ⟨Try.underlying24, ⟨_, _, rfl, rfl, by kernel_rfl, by kernel_rfl, by kernel_rfl⟩, rfl, by omega, by omega⟩
theorem built_rp (a k : Int) (x y : Bool) (s : ByteArray) : Try.prog.built 42 [(0, .int .u32 a), (2, .int .i64 k), (3, .bool x), (4, .bool y), (5, .string s)] = some #[.int .u32 a, .int .u32 0, .int .i64 k, .bool x, .bool y, .string s] := by kernel_rfl
/-- A text's bytes. -/
def tx (r : List UInt8) : ByteArray := ⟨r.toArray⟩
theorem tx_size (r : List UInt8) : (tx r).size = r.length := by unfold tx; simp [ByteArray.size]
theorem pgV_pc (e : Nat) (r : List UInt8) (i : Nat) : pgV (pc e r i) = #[.int .u32 e, .int .u32 0, .int .i64 2, .bool (decide (i = 0)), .bool (decide (r.length ≤ 49 * (i + 1))), .string (tx ((r.drop (49 * i)).take 49))] := rfl
/-- Part of a text. -/
theorem tx_cut (r : List UInt8) (a b : Nat) : (tx r).extract a b = tx ((r.drop a).take (b - a)) := ByteArray.extract_mk r a b
/-- The pieces as elements. -/
def pcs (e : Nat) (r : List UInt8) (i : Nat) : Array Value := pgV (pc e r i)

set_option maxHeartbeats 4000000 in
theorem refCut_as (e : Nat) (r : List UInt8) (w : World) (hr : r.length ≤ 4096) :
    Calls Try.prog 14 #[.int .u32 e, .string (tx r)] w fun en w' => ∃ a c, en = .returned (.slice a (np r.length) c) ∧ Els w' w.heap.size 42 6 a (np r.length) c (pcs e r) ∧ Below w.heap.size w w' := by
  obtain ⟨R, hR⟩ : ∃ R, tx r = R := ⟨_, rfl⟩
  obtain ⟨n, hn⟩ : ∃ n, r.length = n := ⟨_, rfl⟩
  have hs : R.size = n := by rw [← hR, tx_size, hn]
  have HR := Lib.hid hR
  have HN := Lib.hid hn
  rw [hR]
  rw [hn] at hr
  clear hR
  go_enter Try.func14, Try.ntmps14
  go_wp2_with fail
  go_loopw [5, 6] (fun s i w' => ∃ (a : Option Addr) (c k : Nat), s = .slice a k c ∧ i = .int .i64 ((49 * k : Nat)) ∧ k ≤ np n ∧ Hid (Els w' w.heap.size 42 6 a k c (pcs e r)) ∧ Hid (Below w.heap.size w w')) (fun _ i _ => 5000 - (intOf i).toNat)
  case atStart => exact ⟨none, 0, 0, rfl, rfl, Nat.zero_le _, Lib.hid (Els.nil _ _ _ _ _), Lib.hid (Below.refl _ _)⟩
  case round =>
    obtain ⟨a, c, k, rfl, rfl, hk, HE, HB⟩ := hrel
    by_cases hlt : k < np n
    · have h49 := np_lt hlt
      obtain ⟨M, hM⟩ : ∃ M, 49 * k = M := ⟨_, rfl⟩
      have HM := Lib.hid hM
      rw [hM] at h49 ⊢
      clear hM
      by_cases hle : n < M + 49
      · obtain ⟨X, hX⟩ : ∃ X, R.extract M n = X := ⟨_, rfl⟩
        have hrun : ∀ w, Sem.run Try.prog (Instr.slice 9 (.string R) (some (.int .i64 (M : Int))) (some (.int .i64 (n : Int))) none) w = .ok (.string X) w := fun w => by
          rw [run_slice_string w 9 R .i64 .i64 (M : Int) (n : Int) Try.underlying9 (by omega) (by omega) (by rw [hs]; omega), ← hX]
          congr 3
        have hpc : pcs e r k = #[.int .u32 e, .int .u32 0, .int .i64 2, .bool ((M : Int) == 0), .bool true, .string X] := by
          have hx : X = tx ((r.drop M).take 49) := by
            rw [← hX, ← HR.out, tx_cut]
            rw [List.take_of_length_le (by rw [List.length_drop, HN.out]; omega), List.take_of_length_le (by rw [List.length_drop, HN.out]; omega)]
          have h1 : ((M : Int) == 0) = decide (k = 0) := by
            have := HM.out
            by_cases c : k = 0
            · rw [decide_eq_true c, beq_iff_eq]; omega
            · rw [decide_eq_false c, beq_eq_false_iff_ne]; omega
          have h2 : decide (r.length ≤ 49 * (k + 1)) = true := by
            have := HM.out
            have := HN.out
            exact decide_eq_true (by omega)
          unfold pcs
          rw [pgV_pc, HM.out, hx, h1, h2]
        have HPC := Lib.hid hpc
        clear hpc
        have hb1 : Below wr.heap.size wr (wr.alloc (.cells #[.int .u32 e, .int .u32 0, .int .i64 2, .bool ((M : Int) == 0), .bool true, .string X] 42)) := (Below.refl _ _).alloc (Nat.le_refl _) _
        have HE2 := Lib.hid (HE.out.below hb1)
        have HB2 := Lib.hid (below_trans HB.out hb1 HB.out.size)
        have hW : Wid 6 (fun _ : Nat => (#[.int .u32 e, .int .u32 0, .int .i64 2, .bool ((M : Int) == 0), .bool true, .string X] : Array Value)) 1 := wid_one rfl (by rw [← HPC.out]; exact pgV_one _)
        have HW := Lib.hid hW
        have hrg := At.one (m := 6) (At.new wr #[.int .u32 e, .int .u32 0, .int .i64 2, .bool ((M : Int) == 0), .bool true, .string X] 42)
        have HRG := Lib.hid hrg
        have hk9 : k < 100 := by have := HM.out; omega
        have HSZ := Lib.hid HB2.out.size
        clear hb1 hW hrg
        have HKK := Lib.hid (show 49 * (k + 1) = M + 49 by have := HM.out; omega)
        go_wp2_with (first
          | (at_builtin; refine wpList_append_els elt_r rfl _ _ rfl rfl HE2.out wr.heap.size 0 1 1 rfl HW.out HRG.out (by omega) HSZ.out ?_; intro a' c' w4 h4 hb4 _ _; have H4 := Lib.hid h4; have HB4 := Lib.hid (HB2.out.trans hb4); clear h4 hb4)
          | fail)
        go_roundw
        case rel => exact ⟨a', c', k + 1, rfl, by rw [HKK.out]; go_num, by omega, Lib.hid (H4.out.ext fun i hi => by
            unfold catE
            split
            · rfl
            · obtain rfl : i = k := by omega
              exact HPC.out.symm), HB4⟩
        case measure => simp [intOf]; omega
      · obtain ⟨X, hX⟩ : ∃ X, R.extract M (M + 49) = X := ⟨_, rfl⟩
        have hrun : ∀ w, Sem.run Try.prog (Instr.slice 9 (.string R) (some (.int .i64 (M : Int))) (some (.int .i64 ((M : Int) + 49))) none) w = .ok (.string X) w := fun w => by
          rw [run_slice_string w 9 R .i64 .i64 (M : Int) ((M : Int) + 49) Try.underlying9 (by omega) (by omega) (by rw [hs]; omega), ← hX]
          congr 3
        have hpc : pcs e r k = #[.int .u32 e, .int .u32 0, .int .i64 2, .bool ((M : Int) == 0), .bool ((M : Int) + 49 == (n : Int)), .string X] := by
          have hx : X = tx ((r.drop M).take 49) := by
            rw [← hX, ← HR.out, tx_cut]
            rw [Nat.add_sub_cancel_left]
          have h1 : ((M : Int) == 0) = decide (k = 0) := by
            have := HM.out
            by_cases c : k = 0
            · rw [decide_eq_true c, beq_iff_eq]; omega
            · rw [decide_eq_false c, beq_eq_false_iff_ne]; omega
          have h2 : decide (r.length ≤ 49 * (k + 1)) = ((M : Int) + 49 == (n : Int)) := by
            have := HM.out
            have := HN.out
            by_cases c : n = M + 49
            · rw [decide_eq_true (by omega), eq_comm, beq_iff_eq]; omega
            · rw [decide_eq_false (by omega), eq_comm, beq_eq_false_iff_ne]; omega
          unfold pcs
          rw [pgV_pc, HM.out, hx, h1, h2]
        have HPC := Lib.hid hpc
        clear hpc
        have hb1 : Below wr.heap.size wr (wr.alloc (.cells #[.int .u32 e, .int .u32 0, .int .i64 2, .bool ((M : Int) == 0), .bool ((M : Int) + 49 == (n : Int)), .string X] 42)) := (Below.refl _ _).alloc (Nat.le_refl _) _
        have HE2 := Lib.hid (HE.out.below hb1)
        have HB2 := Lib.hid (below_trans HB.out hb1 HB.out.size)
        have hW : Wid 6 (fun _ : Nat => (#[.int .u32 e, .int .u32 0, .int .i64 2, .bool ((M : Int) == 0), .bool ((M : Int) + 49 == (n : Int)), .string X] : Array Value)) 1 := wid_one rfl (by rw [← HPC.out]; exact pgV_one _)
        have HW := Lib.hid hW
        have hrg := At.one (m := 6) (At.new wr #[.int .u32 e, .int .u32 0, .int .i64 2, .bool ((M : Int) == 0), .bool ((M : Int) + 49 == (n : Int)), .string X] 42)
        have HRG := Lib.hid hrg
        have hk9 : k < 100 := by have := HM.out; omega
        have HSZ := Lib.hid HB2.out.size
        clear hb1 hW hrg
        have HKK := Lib.hid (show 49 * (k + 1) = M + 49 by have := HM.out; omega)
        go_wp2_with (first
          | (at_builtin; refine wpList_append_els elt_r rfl _ _ rfl rfl HE2.out wr.heap.size 0 1 1 rfl HW.out HRG.out (by omega) HSZ.out ?_; intro a' c' w4 h4 hb4 _ _; have H4 := Lib.hid h4; have HB4 := Lib.hid (HB2.out.trans hb4); clear h4 hb4)
          | fail)
        go_roundw
        case rel => exact ⟨a', c', k + 1, rfl, by rw [HKK.out]; go_num, by omega, Lib.hid (H4.out.ext fun i hi => by
            unfold catE
            split
            · rfl
            · obtain rfl : i = k := by omega
              exact HPC.out.symm), HB4⟩
        case measure => simp [intOf]; omega
    · have h49 := np_ge hlt
      obtain rfl : k = np n := by omega
      generalize 49 * np n = M at *
      go_wp2_with fail
      go_ret
      rw [HN.out]
      exact ⟨a, c, rfl, HE.out, HB.out⟩
end Go.Proofs.Ytmaelcjmojhlpaa.Fg
