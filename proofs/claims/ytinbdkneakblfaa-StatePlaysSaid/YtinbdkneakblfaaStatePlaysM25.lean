/- Texts of the walk, one behind the other. -/
import Derived.Test.YtinbdkneakblfaaStatePlaysM13
import Derived.Test.YtinbdkneakblfaaStatePlaysM21
import Derived.Test.YtinbdkneakblfaaStatePlaysM24

section
/- Contracts: the closure of state.Bytes that writes words. -/
set_option maxRecDepth 100000
set_option linter.unusedVariables false
namespace Go.Proofs.Ytinbdkneakblfaa.Sta
open Go.RowKit Go.Proofs.Ytinbdkneakblfaa.Row

/-- Text and its own cell. -/
def Two (b g : Nat) (i : Nat) : Prop := i = b ∨ i = g
/-- What stands while bytes are written: at block b the slice of k bytes at block g, at g the bytes. -/
def WdI (w : World) (b g k : Nat) (l : List UInt8) (w' : World) : Prop := Fr (Two b g) w w' ∧ At w' b #[.slice (some ⟨g, 0, none⟩) k 137] 48 ∧ TxtAt 137 w' g l ∧ l.length = k ∧ b ≠ g
theorem WdI.below {w w1 w2 : World} {b g k : Nat} {l : List UInt8} (h : WdI w b g k l w1) (hb : Below w1.heap.size w1 w2) : WdI w b g k l w2 :=
  ⟨h.1.below_trans hb, h.2.1.below hb h.2.1.lt, h.2.2.1.below hb, h.2.2.2.1, h.2.2.2.2⟩
theorem WdI.put {w w1 : World} {b g k j : Nat} {l m : List UInt8} {C : Array Value} (h : WdI w b g k l w1) (hj : m.length = j) (hC : TxtAt 137 (w1.setRow g C) g (l ++ m)) : WdI w b g (k + j) (l ++ m) ((w1.setRow g C).setCell ⟨b, 0, none⟩ (.slice (some ⟨g, 0, none⟩) (k + j) 137)) := by
  obtain ⟨h1, h2, h3, h4, h5⟩ := h
  exact ⟨(h1.setRow (.inl (.inr rfl)) C).setCell (.inl (.inl rfl)) _, (h2.setRow_other h5).setCell, hC.setCell_other (fun e => h5 e.symm), by rw [List.length_append, h4, hj], h5⟩

theorem enter_four (args : Array Value) (w : World) : (callFunc 20 args).run Try.prog w = .ok (.enter 20 args) w := run_enter Try.func20 (by kernel_rfl) rfl args w
theorem conv_u32 (x : Int) (w : World) : (convert 3 51 (.int .i64 x)).run Try.prog w = .ok (.int .u32 (u32 x : Nat)) w := by
  have e : IntKind.u32.wrap x = (u32 x : Int) := by
    unfold u32 IntKind.wrap
    simp only [IntKind.bits, IntKind.signed, Bool.false_and]
    rw [show (2 : Int) ^ 32 = 4294967296 by decide]
    simp
    omega
  simp [convert, run_underlying Try.underlying3, run_underlying Try.underlying51, go_sem, e]

theorem word_as (x : Int) (w : World) : Calls Try.prog 20 #[.int .u32 (u32 x : Nat)] w fun e w' => ∃ v, e = .returned v ∧ v = .string ⟨(wordL x).toArray⟩ ∧ Below w.heap.size w w' :=
  (Crc.four_any (u32 x) w (u32_lt x)).mono fun e w' ⟨he, hb⟩ => ⟨_, he, rfl, hb⟩

set_option maxHeartbeats 1000000 in
theorem words_as (a : Option Addr) (n c : Nat) (f : Nat → Int) (b g k : Nat) (l : List UInt8) (w : World) (hS : Sl .i64 w a n c f) (ha : ∀ p, a = some p → p.block ≠ b ∧ p.block ≠ g) (hn : n ≤ 16) (hI : WdI w b g k l w) (hm : k + 4 * n ≤ 137) :
    Calls Try.prog 19 #[.slice a n c, .pointer (some ⟨b, 0, none⟩)] w fun e w' => e = .returned (.tuple #[]) ∧ WdI w b g (k + 4 * n) (l ++ wds f n) w' := by
  have HS := Lib.hid hS.2.2
  have HA := Lib.hid ha
  have HI := Lib.hid hI
  have HSZ : Hid ((Try.prog.info? 48).map (·.size) = some 1) := Lib.hid (by kernel_rfl)
  clear hS ha hI
  go_enter Try.func19, Try.ntmps19
  go_wp2_with fail
  go_loopw [7] (fun i w' => ∃ j : Nat, j ≤ n ∧ i = .int .i64 j ∧ Hid (WdI w b g (k + 4 * j) (l ++ wds f j) w')) (fun i _ => n - (intOf i).toNat)
  case atStart => exact ⟨0, by omega, rfl, by rw [wds, List.append_nil]; exact HI⟩
  case round =>
    obtain ⟨j, hj, rfl, HW⟩ := hrel
    clear HI
    by_cases hlt : j < n
    · obtain ⟨ba, o, rfl, hc⟩ := HS.out (by omega)
      have hab := HA.out _ rfl
      have c0 := HW.out.1.cell (hc j hlt) (by dsimp only [Two] at hab ⊢; omega)
      obtain ⟨x, hx⟩ : ∃ x, f j = x := ⟨_, rfl⟩
      rw [hx] at c0
      have HX := Lib.hid (show l ++ wds f (j + 1) = (l ++ wds f j) ++ wordL x by rw [wds, hx, List.append_assoc])
      clear hc hab hx
      have HK := Lib.hid (show k + 4 * (j + 1) = (k + 4 * j) + 4 by omega)
      obtain ⟨m, hm'⟩ : ∃ m, k + 4 * j = m := ⟨_, rfl⟩
      obtain ⟨y, hy⟩ : ∃ y, l ++ wds f j = y := ⟨_, rfl⟩
      rw [hm'] at HW HK
      rw [hy] at HW HX
      have hmm : m + 4 ≤ 137 := by omega
      clear hm' hy
      go_wp2_with fail
      clear c0
      refine mf_start (SB wr) (fun j => decide (4 ≤ j)) (Below.refl _ _).drew fun hS => ?_
      refine mf_yield (i := 0) (d := 11) (.slice (some ⟨g, 0, none⟩) m 137) rfl rfl (by kernel_rfl) (by kernel_rfl) (by kernel_rfl) (by kernel_rfl) hS (y_cellV (by rfl) rfl rfl Try.underlying48 rfl fun w' h => by
        have := cell_of_row _ _ 0 _ _ _ (HW.out.below h).2.1
        simpa using this) ?_
      simp only [Act.put, List.setIfInBounds_toArray, List.set_cons_zero, List.set_cons_succ]
      refine mf_ready [1] (by kernel_rfl) (by simp) (af_assign (i := 1) (d := 12) (v := .int .i64 x) rfl rfl (by rfl) (fun _ => by rfl) (fun _ => hS) ?_ AllReadyF.nil)
      simp only [Act.put, List.setIfInBounds_toArray, List.set_cons_zero, List.set_cons_succ]
      refine mf_ready [2] (by kernel_rfl) (by simp) (af_assign (i := 2) (d := 13) (v := .int .u32 (u32 x : Nat)) rfl rfl (by rfl) (fun w' => by
        unfold execOp
        simp only [Act.eval]
        show ((convert 3 51 (.int .i64 x)) >>= _).run _ _ = _
        simp only [Sem.run_bind, conv_u32, Result.andThen_ok, Sem.run_pure]) (fun _ => hS) ?_ AllReadyF.nil)
      simp only [Act.put, List.setIfInBounds_toArray, List.set_cons_zero, List.set_cons_succ]
      refine mf_ready [3] (by kernel_rfl) (by simp) (af_call (i := 3) (d := 14) #[.int .u32 (u32 x : Nat)] rfl rfl (by rfl) rfl enter_four (by kernel_rfl) (word_as x _) (fun v w' h => below_trans hS h.2 hS.size) ?_ AllReadyF.nil)
      clear hS
      rintro v w2 ⟨rfl, hw2⟩ hS
      simp only [Act.put, List.setIfInBounds_toArray, List.set_cons_zero, List.set_cons_succ]
      have HW2 := Lib.hid (HW.out.below hS)
      clear hS hw2 HW
      refine mf_ready [4] (by kernel_rfl) (by simp) (af_app (i := 4) (d := 15) _ _ 9 rfl rfl (by rfl) rfl rfl rfl rfl HW2.out.2.2.1 HW2.out.2.2.2.1 (wordL_len x) (src_string (wordL x) w2) hmm ?_ AllReadyF.nil)
      intro C hC
      simp only [Act.put, List.setIfInBounds_toArray, List.set_cons_zero, List.set_cons_succ]
      have HW3 := Lib.hid (HW2.out.put (wordL_len x) hC)
      have cB := cell_of_row _ _ 0 _ _ _ (HW2.out.2.1.setRow_other (C := C) HW2.out.2.2.2.2)
      simp only [List.getElem?_toArray, List.getElem?_cons_zero] at cB
      refine mf_ready [5] (by kernel_rfl) (by simp) (af_cellV (i := 5) ⟨b, 0, none⟩ (.slice (some ⟨g, 0, none⟩) (m + 4) 137) rfl rfl (by rfl) rfl rfl rfl rfl HSZ.out rfl rfl cB ((HW2.out.2.1.setRow_other (C := C) HW2.out.2.2.2.2).frozen 0) ?_ AllReadyF.nil)
      refine mf_done (by kernel_rfl) ?_
      clear hC cB HW2
      go_wp2_with fail
      go_roundw
      case rel => exact ⟨j + 1, by omega, by go_num, by rw [HX.out, HK.out]; exact HW3⟩
      case measure => simp [intOf]; omega
    · obtain rfl : j = n := by omega
      go_wp2_with fail
      go_end0
      exact ⟨rfl, HW.out⟩
end Go.Proofs.Ytinbdkneakblfaa.Sta
end
