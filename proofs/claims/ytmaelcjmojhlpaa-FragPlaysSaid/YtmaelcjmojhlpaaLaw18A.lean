/- The statement FragPlays, on what is asked of Cut and Pages alone. -/
import Derived.Test.YtmaelcjmojhlpaaFgK
import Derived.Test.YtmaelcjmojhlpaaPaEq
import Derived.Test.YtmaelcjmojhlpaaRowMvY
set_option maxRecDepth 100000
set_option linter.unusedVariables false
set_option linter.unusedSimpArgs false
namespace Go.Proofs.Ytmaelcjmojhlpaa.Fg
open Go.RowKit Go.Proofs.Ytmaelcjmojhlpaa.Row Go.Proofs.Ytmaelcjmojhlpaa.Pa

theorem info_rp {A : Array Value} (h : A.size = 6) : (Try.prog.info? 42).map (·.size) = some A.size := by rw [h]; kernel_rfl
theorem enter_plain (args : Array Value) (w : World) : (callFunc 15 args).run Try.prog w = .ok (.enter 15 args) w := run_enter Try.func15 (by kernel_rfl) rfl args w
/-- While pieces are compared. -/
def PlI (w : World) (e : Nat) (r : List UInt8) (g1 g2 N c1 c2 : Nat) (w' : World) : Prop :=
  Below w.heap.size w w' ∧ Els w' w.heap.size 36 6 (some ⟨g1, 0, none⟩) N c1 (pcs e r) ∧ Els w' w.heap.size 42 6 (some ⟨g2, 0, none⟩) N c2 (pcs e r)
theorem PlI.next {w w1 w2 : World} {e : Nat} {r : List UInt8} {g1 g2 N c1 c2 : Nat} (h : PlI w e r g1 g2 N c1 c2 w1) (hb : Below w1.heap.size w1 w2) : PlI w e r g1 g2 N c1 c2 w2 :=
  ⟨below_trans h.1 hb h.1.size, h.2.1.below hb, h.2.2.below hb⟩
theorem PlI.drew {w w1 : World} {e : Nat} {r : List UInt8} {g1 g2 N c1 c2 : Nat} (h : PlI w e r g1 g2 N c1 c2 w1) : PlI w e r g1 g2 N c1 c2 w1.drew := h.next (Below.refl _ _).drew

set_option maxHeartbeats 4000000 in
theorem plays_big (HC : CutYes) (HG : PagesAs) (e : Nat) (r : List UInt8) (w : World) (he : e < 4294967296) (hr : r.length ≤ maxLen) (hbig : r.length < 1 ∨ 4096 < r.length) :
    Calls Try.prog 5 #[.int .u32 e, .string (tx r)] w fun en w' => en = .returned (.bool true) ∧ Below w.heap.size w w' := by
  have HAW := Lib.hid (fun w => awake_as HC HG w)
  obtain ⟨R, hR⟩ : ∃ R, tx r = R := ⟨_, rfl⟩
  obtain ⟨n, hn⟩ : ∃ n, r.length = n := ⟨_, rfl⟩
  have hs : R.size = n := by rw [← hR, tx_size, hn]
  rw [hR]
  have HR' := Lib.hid hR
  clear hR
  rw [hn] at hbig hr
  clear hn
  unfold maxLen at hr
  rcases hbig with hb1 | hb1
  all_goals
    go_enter Try.func5, Try.ntmps5
    go_wp2_with fail
    refine (HAW.out _).mono ?_
    rintro en w1 ⟨rfl, hb⟩
    have HB1 := Lib.hid hb
    clear hb
    go_wp2_with fail
    refine (HAW.out _).mono ?_
    rintro en w2 ⟨rfl, hb⟩
    have HB2 := Lib.hid (below_trans HB1.out hb HB1.out.size)
    clear hb
    go_wp2_with fail
    go_ret
    exact ⟨rfl, HB2.out⟩

set_option maxHeartbeats 4000000 in
theorem plays_yes (HC : CutYes) (HG : PagesAs) (e : Nat) (r : List UInt8) (w : World) (he : e < 4294967296) (hr : r.length ≤ maxLen) (h1 : 1 ≤ r.length) (h2 : r.length ≤ 4096) :
    Calls Try.prog 5 #[.int .u32 e, .string (tx r)] w fun en w' => en = .returned (.bool true) ∧ Below w.heap.size w w' := by
  have HAW := Lib.hid (fun w => awake_as HC HG w)
  obtain ⟨R, hR⟩ : ∃ R, tx r = R := ⟨_, rfl⟩
  obtain ⟨n, hn⟩ : ∃ n, r.length = n := ⟨_, rfl⟩
  have hs : R.size = n := by rw [← hR, tx_size, hn]
  rw [hR]
  have HCY := Lib.hid (fun w => HC e r w he h1 h2)
  have HRC := Lib.hid (fun w => refCut_as e r w h2)
  rw [hR] at HCY HRC
  rw [hn] at h1 h2
  have HNP := Lib.hid (show 1 ≤ np r.length by rw [hn]; exact np_pos h1)
  have HNN := Lib.hid hn
  clear hR hn hr
  go_enter Try.func5, Try.ntmps5
  go_wp2_with fail
  refine (HAW.out _).mono ?_
  rintro en w1 ⟨rfl, hb⟩
  have HB1 := Lib.hid hb
  clear hb
  go_wp2_with fail
  refine (HCY.out _).mono ?_
  rintro en w2 ⟨a1, c1, rfl, he1, hb⟩
  have HB2 := Lib.hid (below_trans HB1.out hb HB1.out.size)
  have HE1 := Lib.hid (he1.wide HB1.out.size)
  clear hb he1
  go_wp2_with fail
  refine (HRC.out _).mono ?_
  rintro en w3 ⟨a2, c2, rfl, he2, hb⟩
  have HB3 := Lib.hid (below_trans HB2.out hb HB2.out.size)
  have HE3 := Lib.hid (HE1.out.below hb)
  have HE2 := Lib.hid (he2.wide HB2.out.size)
  clear hb he2
  obtain ⟨N, hN⟩ : ∃ N, np r.length = N := ⟨_, rfl⟩
  rw [hN] at HE2 HE3 HNP ⊢
  have hn1 := HNP.out
  obtain ⟨g1, rfl, _, _⟩ := HE3.out.addr hn1
  obtain ⟨g2, rfl, _, _⟩ := HE2.out.addr hn1
  have HPL := Lib.hid (show PlI w e r g1 g2 N c1 c2 w3 from ⟨HB3.out, HE3.out, HE2.out⟩)
  have hN84 : N ≤ 100 := by rw [← hN, HNN.out]; unfold np; omega
  clear hN HE1 HE2 HE3 HB1 HB2 HB3
  go_wp2_with fail
  go_loopw [8] (fun i w' => ∃ k : Nat, i = .int .i64 k ∧ k ≤ N ∧ Hid (PlI w e r g1 g2 N c1 c2 w')) (fun i _ => 200 - (intOf i).toNat)
  case atStart => exact ⟨0, rfl, Nat.zero_le _, HPL⟩
  case round =>
    obtain ⟨k, rfl, hk, HP⟩ := hrel
    clear HPL
    by_cases hlt : k < N
    · have hk1 : (k : Int) < 200 := by omega
      go_wp2_with fail
      refine mf_start (PlI w e r g1 g2 N c1 c2) (fun _ => false) HP.out.drew fun hS => ?_
      refine mf_yield (i := 0) (d := 37) (.slice ((some ⟨g1, 0, none⟩)) N c1) rfl rfl (by kernel_rfl) (by kernel_rfl) (by kernel_rfl) (by kernel_rfl) hS (y_run (by rfl) fun _ => by rfl) ?_
      simp only [Act.put, List.setIfInBounds_toArray, List.set_cons_zero, List.set_cons_succ]
      refine mf_yield (i := 1) (d := 38) (.int .i64 ((N : Nat))) rfl rfl (by kernel_rfl) (by kernel_rfl) (by kernel_rfl) (by kernel_rfl) hS (y_len (by rfl) rfl Try.underlying24 rfl) ?_
      simp only [Act.put, List.setIfInBounds_toArray, List.set_cons_zero, List.set_cons_succ]
      refine mf_yield (i := 2) (d := 39) (.slice ((some ⟨g2, 0, none⟩)) N c2) rfl rfl (by kernel_rfl) (by kernel_rfl) (by kernel_rfl) (by kernel_rfl) hS (y_run (by rfl) fun _ => by rfl) ?_
      simp only [Act.put, List.setIfInBounds_toArray, List.set_cons_zero, List.set_cons_succ]
      refine mf_yield (i := 3) (d := 40) (.int .i64 ((N : Nat))) rfl rfl (by kernel_rfl) (by kernel_rfl) (by kernel_rfl) (by kernel_rfl) hS (y_len (by rfl) rfl Try.underlying40 rfl) ?_
      simp only [Act.put, List.setIfInBounds_toArray, List.set_cons_zero, List.set_cons_succ]
      refine mf_yield (i := 4) (d := 41) (.bool false) rfl rfl (by kernel_rfl) (by kernel_rfl) (by kernel_rfl) (by kernel_rfl) hS (y_nei (by rfl) rfl rfl rfl (by simp)) ?_
      simp only [Act.put, List.setIfInBounds_toArray, List.set_cons_zero, List.set_cons_succ]
      refine mf_yield (i := 5) (d := 42) (.bool false) rfl rfl (by kernel_rfl) (by kernel_rfl) (by kernel_rfl) (by kernel_rfl) hS (y_run (by rfl) fun _ => by rfl) ?_
      simp only [Act.put, List.setIfInBounds_toArray, List.set_cons_zero, List.set_cons_succ]
      refine mf_yield (i := 6) (d := 43) (.slice ((some ⟨g1, 0, none⟩)) N c1) rfl rfl (by kernel_rfl) (by kernel_rfl) (by kernel_rfl) (by kernel_rfl) hS (y_run (by rfl) fun _ => by rfl) ?_
      simp only [Act.put, List.setIfInBounds_toArray, List.set_cons_zero, List.set_cons_succ]
      refine mf_yield (i := 7) (d := 44) (.int .i64 ((k : Nat))) rfl rfl (by kernel_rfl) (by kernel_rfl) (by kernel_rfl) (by kernel_rfl) hS (y_run (by rfl) fun _ => by rfl) ?_
      simp only [Act.put, List.setIfInBounds_toArray, List.set_cons_zero, List.set_cons_succ]
      refine mf_yield (i := 8) (d := 45) (.pointer (some ⟨g1, (k * 6), none⟩)) rfl rfl (by kernel_rfl) (by kernel_rfl) (by kernel_rfl) (by kernel_rfl) hS (y_ex elt_p (by rfl) rfl rfl rfl rfl hlt (Nat.zero_add _)) ?_
      simp only [Act.put, List.setIfInBounds_toArray, List.set_cons_zero, List.set_cons_succ]
      refine mf_yield (i := 9) (d := 46) (.agg ((pcs e r k))) rfl rfl (by kernel_rfl) (by kernel_rfl) (by kernel_rfl) (by kernel_rfl) hS (y_load_range (by rfl) rfl rfl (fun w' h => h.2.1.range hlt) Try.underlying36 rfl (info_pg rfl)) ?_
      simp only [Act.put, List.setIfInBounds_toArray, List.set_cons_zero, List.set_cons_succ]
      refine mf_yield (i := 11) (d := 48) (.slice ((some ⟨g2, 0, none⟩)) N c2) rfl rfl (by kernel_rfl) (by kernel_rfl) (by kernel_rfl) (by kernel_rfl) hS (y_run (by rfl) fun _ => by rfl) ?_
      simp only [Act.put, List.setIfInBounds_toArray, List.set_cons_zero, List.set_cons_succ]
      refine mf_yield (i := 12) (d := 49) (.int .i64 ((k : Nat))) rfl rfl (by kernel_rfl) (by kernel_rfl) (by kernel_rfl) (by kernel_rfl) hS (y_run (by rfl) fun _ => by rfl) ?_
      simp only [Act.put, List.setIfInBounds_toArray, List.set_cons_zero, List.set_cons_succ]
      refine mf_yield (i := 13) (d := 50) (.pointer (some ⟨g2, (k * 6), none⟩)) rfl rfl (by kernel_rfl) (by kernel_rfl) (by kernel_rfl) (by kernel_rfl) hS (y_ex elt_r (by rfl) rfl rfl rfl rfl hlt (Nat.zero_add _)) ?_
      simp only [Act.put, List.setIfInBounds_toArray, List.set_cons_zero, List.set_cons_succ]
      refine mf_yield (i := 14) (d := 51) (.agg ((pcs e r k))) rfl rfl (by kernel_rfl) (by kernel_rfl) (by kernel_rfl) (by kernel_rfl) hS (y_load_range (by rfl) rfl rfl (fun w' h => h.2.2.range hlt) Try.underlying42 rfl (info_rp rfl)) ?_
      simp only [Act.put, List.setIfInBounds_toArray, List.set_cons_zero, List.set_cons_succ]
      refine mf_ready [10] (by kernel_rfl) (by simp) (af_call (i := 10) (d := 47) (R := fun v w' => v = .agg (pcs e r k) ∧ PlI w e r g1 g2 N c1 c2 w') #[.agg (pcs e r k)] rfl rfl (by rfl) rfl enter_plain (by kernel_rfl) ((plain_any (pc e r k) _).mono fun en w' h => ⟨_, h.1, rfl, hS.next h.2⟩) (fun v w' h => h.2) ?_ AllReadyF.nil)
      rintro v v1 ⟨rfl, h10⟩ hS10
      clear hS h10
      have hS := hS10
      clear hS10
      simp only [Act.put, List.setIfInBounds_toArray, List.set_cons_zero, List.set_cons_succ]
      refine mf_yield (i := 15) (d := 52) (.bool false) rfl rfl (by kernel_rfl) (by kernel_rfl) (by kernel_rfl) (by kernel_rfl) hS (y_neq (b := true) (by rfl) rfl rfl rfl (by kernel_rfl) (fun w => by unfold pcs; rw [rpages_is, pEq_self])) ?_
      simp only [Act.put, List.setIfInBounds_toArray, List.set_cons_zero, List.set_cons_succ]
      refine mf_yield (i := 16) (d := 53) (.bool false) rfl rfl (by kernel_rfl) (by kernel_rfl) (by kernel_rfl) (by kernel_rfl) hS (y_run (by rfl) fun _ => by rfl) ?_
      simp only [Act.put, List.setIfInBounds_toArray, List.set_cons_zero, List.set_cons_succ]
      refine mf_done (by kernel_rfl) ?_
      have HP2 := Lib.hid hS
      clear hS
      go_wp2_with fail
      go_roundw
      case rel => exact ⟨k + 1, by go_num, by omega, HP2⟩
      case measure => simp [intOf]; omega
    · obtain rfl : k = N := by omega
      have HB := Lib.hid HP.out.1
      go_wp2_with fail
      go_ret
      exact ⟨rfl, HB.out⟩

theorem plays_all (HC : CutYes) (HG : PagesAs) (e : Nat) (r : List UInt8) (w : World) (he : e < 4294967296) (hr : r.length ≤ maxLen) :
    Calls Try.prog 5 #[.int .u32 e, .string (tx r)] w fun en w' => en = .returned (.bool true) ∧ Below w.heap.size w w' := by
  by_cases h : r.length < 1 ∨ 4096 < r.length
  · exact plays_big HC HG e r w he hr h
  · exact plays_yes HC HG e r w he hr (by omega) (by omega)
end Go.Proofs.Ytmaelcjmojhlpaa.Fg
