/- Texts of the walk, one behind the other. -/
import Derived.Test.YtbbeekpndhfpjaaSegFrozenM32
import Derived.Test.YtbbeekpndhfpjaaSegFrozenM9
import Derived.Test.YtbbeekpndhfpjaaSegFrozenM10
import Derived.Deep.DeepCutAuto

section
/- SgTk: contract of seg's takes (a page is taken into the chain, or it is told that it doesn't stand there). -/
set_option maxRecDepth 100000
set_option linter.unusedVariables false
set_option linter.unusedSimpArgs false
namespace Go.Proofs.Ytbbeekpndhfpjaa.Sg
open Go.RowKit Go.Proofs.Ytbbeekpndhfpjaa.Row Go.Proofs.Ytbbeekpndhfpjaa.Pa Go.Proofs.Ytbbeekpndhfpjaa.Fg Go.Proofs.Ytbbeekpndhfpjaa.Dk Go.Proofs.Ytbbeekpndhfpjaa.Crc

theorem fld_c0 : FldO 67 0 0 := fldO Try.underlying67 rfl rfl (s := 2) (by kernel_rfl) (by omega)
theorem fld_c1 : FldO 67 1 2 := fldO Try.underlying67 rfl rfl (s := 1) (by kernel_rfl) (by omega)
theorem fld_c2 : FldO 67 2 3 := fldO Try.underlying67 rfl rfl (s := 1) (by kernel_rfl) (by omega)
theorem fld_c3 : FldO 67 3 4 := fldO Try.underlying67 rfl rfl (s := 1) (by kernel_rfl) (by omega)
theorem built_rec (a : Int) (s : ByteArray) : Try.prog.built 79 [(0, .int .i64 a), (1, .string s)] = some #[.int .i64 a, .string s] := by kernel_rfl
theorem rec_one (a : Int) (s : ByteArray) : (#[.int .i64 a, .string s] : Array Value).all (·.oneCell') = true := by
  rw [Array.all_eq_true]
  intro i hi
  have : i < 2 := hi
  obtain rfl | rfl : i = 0 ∨ i = 1 := by omega
  all_goals rfl
theorem enter_placed (args : Array Value) (w : World) : (callFunc 43 args).run Try.prog w = .ok (.enter 43 args) w := run_enter Try.func43 (by kernel_rfl) rfl args w
theorem enter_take (args : Array Value) (w : World) : (callFunc 44 args).run Try.prog w = .ok (.enter 44 args) w := run_enter Try.func44 (by kernel_rfl) rfl args w
theorem enter_begun (args : Array Value) (w : World) : (callFunc 45 args).run Try.prog w = .ok (.enter 45 args) w := run_enter Try.func45 (by kernel_rfl) rfl args w
theorem info_pgv (p : Pv) : (Try.prog.info? 73).map (·.size) = some (pgV p).size := by
  show _ = some 6
  kernel_rfl
theorem pgv_one (p : Pv) : (pgV p).all (·.oneCell') = true := by
  unfold pgV
  rw [Array.all_eq_true]
  intro i hi
  have : i < 6 := hi
  obtain rfl | rfl | rfl | rfl | rfl | rfl : i = 0 ∨ i = 1 ∨ i = 2 ∨ i = 3 ∨ i = 4 ∨ i = 5 := by omega
  all_goals rfl

/-- What takes leaves of a page that is taken. -/
def TkYes (w0 wb : World) (bd : Nat) (G : Nat → Prop) (N : Nat) (d : Dsk) (b : Nat) (j : Jn) (n : Nat) (l : List (Nat × List UInt8)) (nx i1 ep : Nat) (Q : Nat → Prop) (E : Bool) (r : List UInt8) (e : Ending) (w' : World) : Prop :=
  e = .returned (.bool true) ∧ ∃ a' n' c', n' ≤ n + 1 ∧ ScW w0 wb bd G N d b j a' n' c' (if E then l ++ [(nx, r)] else l) (if j.isSome then nx else i1) ep Q w'
section
variable {w0 wb w : World} {bd N b n c nx ep : Nat} {G Q : Nat → Prop} {d : Dsk} {j : Jn} {a : Option Addr} {l : List (Nat × List UInt8)}
/-- The page is laid in a block of its own. -/
theorem ScW.boxed (h : ScW w0 wb bd G N d b j a n c l nx ep Q w) (p : Pv) : ScW w0 wb bd G N d b j a n c l nx ep (Plus Q w.heap.size) (w.alloc (.cells (pgV p) 73)) ∧ At (w.alloc (.cells (pgV p) 73)) w.heap.size (pgV p) 73 ∧ w.heap.size ≠ b :=
  ⟨h.alloc _, At.new _ _ _, by have := h.lt.1; omega⟩
end

set_option maxHeartbeats 1000000 in
theorem takes_un {w0 wb w : World} {bd N b n c nx ep : Nat} {G Q : Nat → Prop} {d : Dsk} {j : Jn} {a : Option Addr} {l : List (Nat × List UInt8)} (h : ScW w0 wb bd G N d b j a n c l nx ep Q w) (i : Nat) (p : Pv) (hi : i ≤ 1000000) (hr : p.right) (ho : p.Ok) (hep : ep < 4294967296) (hp : plB i p = false) :
    Calls Try.prog 30 #[.pointer (some ⟨b, 0, none⟩), .int .i64 i, .agg (pgV p)] w fun e w' => e = .returned (.bool false) ∧ ∃ j', ScW w0 wb bd G N d b j' a n c l nx ep Q w' := by
  obtain ⟨h0, hA0, hne⟩ := h.boxed p
  have HPL := Lib.hid (fun w => placed_as i p w hi hr ho)
  have HNE := Lib.hid hne
  have HR := Lib.hid (And.intro hr ho)
  have H0 := Lib.hid h0
  have HA0 := Lib.hid hA0
  clear h h0 hA0 hne hr ho
  rw [hp] at HPL
  go_enter Try.func30, Try.ntmps30
  go_wp2_with fail
  revert H0 HA0
  generalize w.alloc (.cells (pgV p) 73) = W0
  obtain ⟨g, hg⟩ : ∃ g, w.heap.size = g := ⟨_, rfl⟩
  rw [hg] at HNE ⊢
  clear hg
  intro H0 HA0
  refine mf_start (fun w' => Below W0.heap.size W0 w') (fun _ => false) (Below.refl _ _).drew fun hS => ?_
  refine mf_yield (i := 0) (d := 11) (.int .i64 i) rfl rfl (by kernel_rfl) (by kernel_rfl) (by kernel_rfl) (by kernel_rfl) hS (y_run (by rfl) fun _ => by rfl) ?_
  simp only [Act.put, List.setIfInBounds_toArray, List.set_cons_zero, List.set_cons_succ]
  refine mf_yield (i := 1) (d := 12) (.agg (pgV p)) rfl rfl (by kernel_rfl) (by kernel_rfl) (by kernel_rfl) (by kernel_rfl) hS (y_load_w (by rfl) rfl rfl (fun w h => HA0.out.below h HA0.out.lt) Try.underlying73 rfl (info_pgv p)) ?_
  simp only [Act.put, List.setIfInBounds_toArray, List.set_cons_zero, List.set_cons_succ]
  refine mf_ready [2] (by kernel_rfl) (by simp) (af_call (i := 2) (d := 13) (R := fun v w' => v = .bool false ∧ Below W0.heap.size W0 w') #[.int .i64 i, .agg (pgV p)] rfl rfl (by rfl) rfl enter_placed (by kernel_rfl) ((HPL.out _).mono fun e w' h => ⟨_, h.1, rfl, below_trans hS h.2 hS.size⟩) (fun v w' h => h.2) ?_ AllReadyF.nil)
  rintro v w1 ⟨rfl, h1⟩ _
  clear hS
  simp only [Act.put, List.setIfInBounds_toArray, List.set_cons_zero, List.set_cons_succ]
  refine mf_yield (i := 3) (d := 14) (.bool true) rfl rfl (by kernel_rfl) (by kernel_rfl) (by kernel_rfl) (by kernel_rfl) h1 (y_not (b := false) (by rfl) rfl rfl) ?_
  simp only [Act.put, List.setIfInBounds_toArray, List.set_cons_zero, List.set_cons_succ]
  refine mf_yield (i := 4) (d := 15) (.bool true) rfl rfl (by kernel_rfl) (by kernel_rfl) (by kernel_rfl) (by kernel_rfl) h1 (y_run (by rfl) fun _ => by rfl) ?_
  simp only [Act.put, List.setIfInBounds_toArray, List.set_cons_zero, List.set_cons_succ]
  refine mf_yield (i := 5) (d := 16) undef rfl rfl (by kernel_rfl) (by kernel_rfl) (by kernel_rfl) (by kernel_rfl) h1 (y_skip (by rfl)) ?_
  simp only [Act.put, List.setIfInBounds_toArray, List.set_cons_zero, List.set_cons_succ]
  refine mf_yield (i := 6) (d := 17) undef rfl rfl (by kernel_rfl) (by kernel_rfl) (by kernel_rfl) (by kernel_rfl) h1 (y_skip (by rfl)) ?_
  simp only [Act.put, List.setIfInBounds_toArray, List.set_cons_zero, List.set_cons_succ]
  refine mf_yield (i := 7) (d := 18) undef rfl rfl (by kernel_rfl) (by kernel_rfl) (by kernel_rfl) (by kernel_rfl) h1 (y_skip (by rfl)) ?_
  simp only [Act.put, List.setIfInBounds_toArray, List.set_cons_zero, List.set_cons_succ]
  refine mf_yield (i := 8) (d := 19) undef rfl rfl (by kernel_rfl) (by kernel_rfl) (by kernel_rfl) (by kernel_rfl) h1 (y_skip (by rfl)) ?_
  simp only [Act.put, List.setIfInBounds_toArray, List.set_cons_zero, List.set_cons_succ]
  refine mf_yield (i := 9) (d := 20) undef rfl rfl (by kernel_rfl) (by kernel_rfl) (by kernel_rfl) (by kernel_rfl) h1 (y_skip (by rfl)) ?_
  simp only [Act.put, List.setIfInBounds_toArray, List.set_cons_zero, List.set_cons_succ]
  refine mf_yield (i := 10) (d := 21) undef rfl rfl (by kernel_rfl) (by kernel_rfl) (by kernel_rfl) (by kernel_rfl) h1 (y_skip (by rfl)) ?_
  simp only [Act.put, List.setIfInBounds_toArray, List.set_cons_zero, List.set_cons_succ]
  refine mf_yield (i := 11) (d := 22) undef rfl rfl (by kernel_rfl) (by kernel_rfl) (by kernel_rfl) (by kernel_rfl) h1 (y_skip (by rfl)) ?_
  simp only [Act.put, List.setIfInBounds_toArray, List.set_cons_zero, List.set_cons_succ]
  refine mf_yield (i := 12) (d := 23) (.bool true) rfl rfl (by kernel_rfl) (by kernel_rfl) (by kernel_rfl) (by kernel_rfl) h1 (y_run (by rfl) fun _ => by rfl) ?_
  simp only [Act.put, List.setIfInBounds_toArray, List.set_cons_zero, List.set_cons_succ]
  refine mf_done (by kernel_rfl) ?_
  have H1 := Lib.hid (H0.out.next h1)
  have HA1 := Lib.hid (HA0.out.below h1 HA0.out.lt)
  clear h1 H0 HA0
  go_wp2_with fail
  go_ret
  exact ⟨rfl, _, H1.out.sub fun k hk => .inl hk⟩

set_option maxHeartbeats 1000000 in
theorem takes_old {w0 wb w : World} {bd N b n c nx ep : Nat} {G Q : Nat → Prop} {d : Dsk} {j : Jn} {a : Option Addr} {l : List (Nat × List UInt8)} (h : ScW w0 wb bd G N d b j a n c l nx ep Q w) (i : Nat) (p : Pv) (hi : i ≤ 1000000) (hr : p.right) (ho : p.Ok) (hep : ep < 4294967296) (hp : plB i p = true) (he : p.e < ep) :
    Calls Try.prog 30 #[.pointer (some ⟨b, 0, none⟩), .int .i64 i, .agg (pgV p)] w fun e w' => e = .returned (.bool false) ∧ ∃ j', ScW w0 wb bd G N d b j' a n c l nx ep Q w' := by
  obtain ⟨h0, hA0, hne⟩ := h.boxed p
  have HPL := Lib.hid (fun w => placed_as i p w hi hr ho)
  have HNE := Lib.hid hne
  have HR := Lib.hid (And.intro hr ho)
  have H0 := Lib.hid h0
  have HA0 := Lib.hid hA0
  clear h h0 hA0 hne hr ho
  rw [hp] at HPL
  go_enter Try.func30, Try.ntmps30
  go_wp2_with fail
  revert H0 HA0
  generalize w.alloc (.cells (pgV p) 73) = W0
  obtain ⟨g, hg⟩ : ∃ g, w.heap.size = g := ⟨_, rfl⟩
  rw [hg] at HNE ⊢
  clear hg
  intro H0 HA0
  refine mf_start (fun w' => Below W0.heap.size W0 w') (fun _ => false) (Below.refl _ _).drew fun hS => ?_
  refine mf_yield (i := 0) (d := 11) (.int .i64 i) rfl rfl (by kernel_rfl) (by kernel_rfl) (by kernel_rfl) (by kernel_rfl) hS (y_run (by rfl) fun _ => by rfl) ?_
  simp only [Act.put, List.setIfInBounds_toArray, List.set_cons_zero, List.set_cons_succ]
  refine mf_yield (i := 1) (d := 12) (.agg (pgV p)) rfl rfl (by kernel_rfl) (by kernel_rfl) (by kernel_rfl) (by kernel_rfl) hS (y_load_w (by rfl) rfl rfl (fun w h => HA0.out.below h HA0.out.lt) Try.underlying73 rfl (info_pgv p)) ?_
  simp only [Act.put, List.setIfInBounds_toArray, List.set_cons_zero, List.set_cons_succ]
  refine mf_ready [2] (by kernel_rfl) (by simp) (af_call (i := 2) (d := 13) (R := fun v w' => v = .bool true ∧ Below W0.heap.size W0 w') #[.int .i64 i, .agg (pgV p)] rfl rfl (by rfl) rfl enter_placed (by kernel_rfl) ((HPL.out _).mono fun e w' h => ⟨_, h.1, rfl, below_trans hS h.2 hS.size⟩) (fun v w' h => h.2) ?_ AllReadyF.nil)
  rintro v w1 ⟨rfl, h1⟩ _
  clear hS
  simp only [Act.put, List.setIfInBounds_toArray, List.set_cons_zero, List.set_cons_succ]
  refine mf_yield (i := 3) (d := 14) (.bool false) rfl rfl (by kernel_rfl) (by kernel_rfl) (by kernel_rfl) (by kernel_rfl) h1 (y_not (b := true) (by rfl) rfl rfl) ?_
  simp only [Act.put, List.setIfInBounds_toArray, List.set_cons_zero, List.set_cons_succ]
  refine mf_yield (i := 4) (d := 15) (.bool false) rfl rfl (by kernel_rfl) (by kernel_rfl) (by kernel_rfl) (by kernel_rfl) h1 (y_run (by rfl) fun _ => by rfl) ?_
  simp only [Act.put, List.setIfInBounds_toArray, List.set_cons_zero, List.set_cons_succ]
  refine mf_yield (i := 5) (d := 16) (.pointer (some ⟨g, 0, none⟩)) rfl rfl (by kernel_rfl) (by kernel_rfl) (by kernel_rfl) (by kernel_rfl) h1 (y_fieldO (by rfl) rfl rfl (fldp 0 (by omega)) (Nat.zero_add _)) ?_
  simp only [Act.put, List.setIfInBounds_toArray, List.set_cons_zero, List.set_cons_succ]
  refine mf_yield (i := 6) (d := 17) (.int .u32 p.e) rfl rfl (by kernel_rfl) (by kernel_rfl) (by kernel_rfl) (by kernel_rfl) h1 (y_cell1 (by rfl) rfl rfl Try.underlying40 rfl (fun w h => ((HA0.out.below h HA0.out.lt).cell 0).trans rfl)) ?_
  simp only [Act.put, List.setIfInBounds_toArray, List.set_cons_zero, List.set_cons_succ]
  refine mf_yield (i := 7) (d := 18) (.pointer (some ⟨b, 0, none⟩)) rfl rfl (by kernel_rfl) (by kernel_rfl) (by kernel_rfl) (by kernel_rfl) h1 (y_run (by rfl) fun _ => by rfl) ?_
  simp only [Act.put, List.setIfInBounds_toArray, List.set_cons_zero, List.set_cons_succ]
  refine mf_yield (i := 8) (d := 19) (.pointer (some ⟨b, 0, none⟩)) rfl rfl (by kernel_rfl) (by kernel_rfl) (by kernel_rfl) (by kernel_rfl) h1 (y_run (by rfl) fun _ => by rfl) ?_
  simp only [Act.put, List.setIfInBounds_toArray, List.set_cons_zero, List.set_cons_succ]
  refine mf_yield (i := 9) (d := 20) (.pointer (some ⟨b, 4, none⟩)) rfl rfl (by kernel_rfl) (by kernel_rfl) (by kernel_rfl) (by kernel_rfl) h1 (y_fieldO (by rfl) rfl rfl fld_c3 (Nat.zero_add _)) ?_
  simp only [Act.put, List.setIfInBounds_toArray, List.set_cons_zero, List.set_cons_succ]
  refine mf_yield (i := 10) (d := 21) (.int .u32 ep) rfl rfl (by kernel_rfl) (by kernel_rfl) (by kernel_rfl) (by kernel_rfl) h1 (y_cell1 (by rfl) rfl rfl Try.underlying40 rfl (fun w h => (H0.out.next h).flds.1.2.2)) ?_
  simp only [Act.put, List.setIfInBounds_toArray, List.set_cons_zero, List.set_cons_succ]
  refine mf_yield (i := 11) (d := 22) (.bool true) rfl rfl (by kernel_rfl) (by kernel_rfl) (by kernel_rfl) (by kernel_rfl) h1 (y_lssK (by rfl) rfl rfl rfl (by first | exact decide_eq_true (by omega) | exact decide_eq_false (by omega))) ?_
  simp only [Act.put, List.setIfInBounds_toArray, List.set_cons_zero, List.set_cons_succ]
  refine mf_yield (i := 12) (d := 23) (.bool true) rfl rfl (by kernel_rfl) (by kernel_rfl) (by kernel_rfl) (by kernel_rfl) h1 (y_run (by rfl) fun _ => by rfl) ?_
  simp only [Act.put, List.setIfInBounds_toArray, List.set_cons_zero, List.set_cons_succ]
  refine mf_done (by kernel_rfl) ?_
  have H1 := Lib.hid (H0.out.next h1)
  have HA1 := Lib.hid (HA0.out.below h1 HA0.out.lt)
  clear h1 H0 HA0
  go_wp2_with fail
  go_ret
  exact ⟨rfl, _, H1.out.sub fun k hk => .inl hk⟩

set_option maxHeartbeats 1000000 in
theorem takes_no {w0 wb w : World} {bd N b n c nx ep : Nat} {G Q : Nat → Prop} {d : Dsk} {j : Jn} {a : Option Addr} {l : List (Nat × List UInt8)} (h : ScW w0 wb bd G N d b j a n c l nx ep Q w) (i : Nat) (p : Pv) (hi : i ≤ 1000000) (hr : p.right) (ho : p.Ok) (hep : ep < 4294967296) (hp : plB i p = true) (he : ep ≤ p.e) (ht : terr j p = 4) (hen : ended j p = false) :
    Calls Try.prog 30 #[.pointer (some ⟨b, 0, none⟩), .int .i64 i, .agg (pgV p)] w fun e w' => e = .returned (.bool false) ∧ ∃ j', ScW w0 wb bd G N d b j' a n c l nx ep Q w' := by
  obtain ⟨h0, hA0, hne⟩ := h.boxed p
  have HPL := Lib.hid (fun w => placed_as i p w hi hr ho)
  have HNE := Lib.hid hne
  have HR := Lib.hid (And.intro hr ho)
  obtain ⟨R, hR⟩ : ∃ R, tx (told j p) = R := ⟨_, rfl⟩
  obtain ⟨j', hj'⟩ : ∃ j', jt j p = j' := ⟨_, rfl⟩
  have HT := Lib.hid (And.intro hR (And.intro hen (And.intro (show ((terr j p : Nat) : Int) = 4 by rw [ht]; rfl) hj')))
  clear hR hen ht hj'
  have H0 := Lib.hid h0
  have HA0 := Lib.hid hA0
  clear h h0 hA0 hne hr ho
  rw [hp] at HPL
  go_enter Try.func30, Try.ntmps30
  go_wp2_with fail
  revert H0 HA0
  generalize w.alloc (.cells (pgV p) 73) = W0
  obtain ⟨g, hg⟩ : ∃ g, w.heap.size = g := ⟨_, rfl⟩
  rw [hg] at HNE ⊢
  clear hg
  intro H0 HA0
  refine mf_start (fun w' => Below W0.heap.size W0 w') (fun _ => false) (Below.refl _ _).drew fun hS => ?_
  refine mf_yield (i := 0) (d := 11) (.int .i64 i) rfl rfl (by kernel_rfl) (by kernel_rfl) (by kernel_rfl) (by kernel_rfl) hS (y_run (by rfl) fun _ => by rfl) ?_
  simp only [Act.put, List.setIfInBounds_toArray, List.set_cons_zero, List.set_cons_succ]
  refine mf_yield (i := 1) (d := 12) (.agg (pgV p)) rfl rfl (by kernel_rfl) (by kernel_rfl) (by kernel_rfl) (by kernel_rfl) hS (y_load_w (by rfl) rfl rfl (fun w h => HA0.out.below h HA0.out.lt) Try.underlying73 rfl (info_pgv p)) ?_
  simp only [Act.put, List.setIfInBounds_toArray, List.set_cons_zero, List.set_cons_succ]
  refine mf_ready [2] (by kernel_rfl) (by simp) (af_call (i := 2) (d := 13) (R := fun v w' => v = .bool true ∧ Below W0.heap.size W0 w') #[.int .i64 i, .agg (pgV p)] rfl rfl (by rfl) rfl enter_placed (by kernel_rfl) ((HPL.out _).mono fun e w' h => ⟨_, h.1, rfl, below_trans hS h.2 hS.size⟩) (fun v w' h => h.2) ?_ AllReadyF.nil)
  rintro v w1 ⟨rfl, h1⟩ _
  clear hS
  simp only [Act.put, List.setIfInBounds_toArray, List.set_cons_zero, List.set_cons_succ]
  refine mf_yield (i := 3) (d := 14) (.bool false) rfl rfl (by kernel_rfl) (by kernel_rfl) (by kernel_rfl) (by kernel_rfl) h1 (y_not (b := true) (by rfl) rfl rfl) ?_
  simp only [Act.put, List.setIfInBounds_toArray, List.set_cons_zero, List.set_cons_succ]
  refine mf_yield (i := 4) (d := 15) (.bool false) rfl rfl (by kernel_rfl) (by kernel_rfl) (by kernel_rfl) (by kernel_rfl) h1 (y_run (by rfl) fun _ => by rfl) ?_
  simp only [Act.put, List.setIfInBounds_toArray, List.set_cons_zero, List.set_cons_succ]
  refine mf_yield (i := 5) (d := 16) (.pointer (some ⟨g, 0, none⟩)) rfl rfl (by kernel_rfl) (by kernel_rfl) (by kernel_rfl) (by kernel_rfl) h1 (y_fieldO (by rfl) rfl rfl (fldp 0 (by omega)) (Nat.zero_add _)) ?_
  simp only [Act.put, List.setIfInBounds_toArray, List.set_cons_zero, List.set_cons_succ]
  refine mf_yield (i := 6) (d := 17) (.int .u32 p.e) rfl rfl (by kernel_rfl) (by kernel_rfl) (by kernel_rfl) (by kernel_rfl) h1 (y_cell1 (by rfl) rfl rfl Try.underlying40 rfl (fun w h => ((HA0.out.below h HA0.out.lt).cell 0).trans rfl)) ?_
  simp only [Act.put, List.setIfInBounds_toArray, List.set_cons_zero, List.set_cons_succ]
  refine mf_yield (i := 7) (d := 18) (.pointer (some ⟨b, 0, none⟩)) rfl rfl (by kernel_rfl) (by kernel_rfl) (by kernel_rfl) (by kernel_rfl) h1 (y_run (by rfl) fun _ => by rfl) ?_
  simp only [Act.put, List.setIfInBounds_toArray, List.set_cons_zero, List.set_cons_succ]
  refine mf_yield (i := 8) (d := 19) (.pointer (some ⟨b, 0, none⟩)) rfl rfl (by kernel_rfl) (by kernel_rfl) (by kernel_rfl) (by kernel_rfl) h1 (y_run (by rfl) fun _ => by rfl) ?_
  simp only [Act.put, List.setIfInBounds_toArray, List.set_cons_zero, List.set_cons_succ]
  refine mf_yield (i := 9) (d := 20) (.pointer (some ⟨b, 4, none⟩)) rfl rfl (by kernel_rfl) (by kernel_rfl) (by kernel_rfl) (by kernel_rfl) h1 (y_fieldO (by rfl) rfl rfl fld_c3 (Nat.zero_add _)) ?_
  simp only [Act.put, List.setIfInBounds_toArray, List.set_cons_zero, List.set_cons_succ]
  refine mf_yield (i := 10) (d := 21) (.int .u32 ep) rfl rfl (by kernel_rfl) (by kernel_rfl) (by kernel_rfl) (by kernel_rfl) h1 (y_cell1 (by rfl) rfl rfl Try.underlying40 rfl (fun w h => (H0.out.next h).flds.1.2.2)) ?_
  simp only [Act.put, List.setIfInBounds_toArray, List.set_cons_zero, List.set_cons_succ]
  refine mf_yield (i := 11) (d := 22) (.bool false) rfl rfl (by kernel_rfl) (by kernel_rfl) (by kernel_rfl) (by kernel_rfl) h1 (y_lssK (by rfl) rfl rfl rfl (by first | exact decide_eq_true (by omega) | exact decide_eq_false (by omega))) ?_
  simp only [Act.put, List.setIfInBounds_toArray, List.set_cons_zero, List.set_cons_succ]
  refine mf_yield (i := 12) (d := 23) (.bool false) rfl rfl (by kernel_rfl) (by kernel_rfl) (by kernel_rfl) (by kernel_rfl) h1 (y_run (by rfl) fun _ => by rfl) ?_
  simp only [Act.put, List.setIfInBounds_toArray, List.set_cons_zero, List.set_cons_succ]
  refine mf_done (by kernel_rfl) ?_
  have H1 := Lib.hid (H0.out.next h1)
  have HA1 := Lib.hid (HA0.out.below h1 HA0.out.lt)
  clear h1 H0 HA0
  go_wp2_with fail
  have H1d : ScW w0 wb bd G N d b j a n c l nx ep (Plus Q g) w1.drew := H1.out.next (Below.refl _ _).drew
  refine mf_start (fun w' => At w' g (pgV p) 73) (fun _ => false) (HA1.out.drewN 1) fun hS => ?_
  refine mf_yield (i := 0) (d := 25) (.pointer (some ⟨b, 0, none⟩)) rfl rfl (by kernel_rfl) (by kernel_rfl) (by kernel_rfl) (by kernel_rfl) hS (y_run (by rfl) fun _ => by rfl) ?_
  simp only [Act.put, List.setIfInBounds_toArray, List.set_cons_zero, List.set_cons_succ]
  refine mf_yield (i := 1) (d := 26) (.pointer (some ⟨b, 0, none⟩)) rfl rfl (by kernel_rfl) (by kernel_rfl) (by kernel_rfl) (by kernel_rfl) hS (y_run (by rfl) fun _ => by rfl) ?_
  simp only [Act.put, List.setIfInBounds_toArray, List.set_cons_zero, List.set_cons_succ]
  refine mf_yield (i := 2) (d := 27) (.pointer (some ⟨b, 0, none⟩)) rfl rfl (by kernel_rfl) (by kernel_rfl) (by kernel_rfl) (by kernel_rfl) hS (y_fieldO (by rfl) rfl rfl fld_c0 (Nat.zero_add _)) ?_
  simp only [Act.put, List.setIfInBounds_toArray, List.set_cons_zero, List.set_cons_succ]
  refine mf_yield (i := 3) (d := 28) (.agg (pgV p)) rfl rfl (by kernel_rfl) (by kernel_rfl) (by kernel_rfl) (by kernel_rfl) hS (y_load_w (by rfl) rfl rfl (fun w h => h) Try.underlying73 rfl (info_pgv p)) ?_
  simp only [Act.put, List.setIfInBounds_toArray, List.set_cons_zero, List.set_cons_succ]
  refine mf_ready [4] (by kernel_rfl) (by simp) (af_call (i := 4) (d := 29) (R := fun v w' => v = .tuple #[.string R, .bool false, .int .i64 4] ∧ At w' g (pgV p) 73 ∧ ScW w0 wb bd G N d b j' a n c l nx ep (Plus Q g) w') #[.pointer (some ⟨b, 0, none⟩), .agg (pgV p)] rfl rfl (by rfl) rfl enter_take (by kernel_rfl) ((H1d.take p (by have := HR.out.1.2.1; unfold maxLen; omega)).mono fun e w' h => ⟨_, h.1, by rw [HT.out.1, HT.out.2.1, HT.out.2.2.1], h.2.2.at (.inr rfl) HA1.out, by rw [← HT.out.2.2.2]; exact h.2.1⟩) (fun v w' h => h.2.1) ?_ AllReadyF.nil)
  rintro v w3 ⟨rfl, hA3, h3⟩ _
  clear hS
  simp only [Act.put, List.setIfInBounds_toArray, List.set_cons_zero, List.set_cons_succ]
  refine mf_yield (i := 5) (d := 24) (.tuple #[.string R, .bool false, .int .i64 4]) rfl rfl (by kernel_rfl) (by kernel_rfl) (by kernel_rfl) (by kernel_rfl) hA3 (y_run (by rfl) fun _ => by rfl) ?_
  simp only [Act.put, List.setIfInBounds_toArray, List.set_cons_zero, List.set_cons_succ]
  refine mf_yield (i := 6) (d := 30) (.string R) rfl rfl (by kernel_rfl) (by kernel_rfl) (by kernel_rfl) (by kernel_rfl) hA3 (y_run (by rfl) fun _ => by rfl) ?_
  simp only [Act.put, List.setIfInBounds_toArray, List.set_cons_zero, List.set_cons_succ]
  refine mf_yield (i := 7) (d := 31) (.bool false) rfl rfl (by kernel_rfl) (by kernel_rfl) (by kernel_rfl) (by kernel_rfl) hA3 (y_run (by rfl) fun _ => by rfl) ?_
  simp only [Act.put, List.setIfInBounds_toArray, List.set_cons_zero, List.set_cons_succ]
  refine mf_yield (i := 8) (d := 32) (.int .i64 4) rfl rfl (by kernel_rfl) (by kernel_rfl) (by kernel_rfl) (by kernel_rfl) hA3 (y_run (by rfl) fun _ => by rfl) ?_
  simp only [Act.put, List.setIfInBounds_toArray, List.set_cons_zero, List.set_cons_succ]
  refine mf_yield (i := 9) (d := 7) (.string R) rfl rfl (by kernel_rfl) (by kernel_rfl) (by kernel_rfl) (by kernel_rfl) hA3 (y_run (by rfl) fun _ => by rfl) ?_
  simp only [Act.put, List.setIfInBounds_toArray, List.set_cons_zero, List.set_cons_succ]
  refine mf_yield (i := 10) (d := 8) (.bool false) rfl rfl (by kernel_rfl) (by kernel_rfl) (by kernel_rfl) (by kernel_rfl) hA3 (y_run (by rfl) fun _ => by rfl) ?_
  simp only [Act.put, List.setIfInBounds_toArray, List.set_cons_zero, List.set_cons_succ]
  refine mf_yield (i := 11) (d := 9) (.int .i64 4) rfl rfl (by kernel_rfl) (by kernel_rfl) (by kernel_rfl) (by kernel_rfl) hA3 (y_run (by rfl) fun _ => by rfl) ?_
  simp only [Act.put, List.setIfInBounds_toArray, List.set_cons_zero, List.set_cons_succ]
  refine mf_done (by kernel_rfl) ?_
  have H3 := Lib.hid h3
  have HA3 := Lib.hid hA3
  clear h3 hA3 H1 HA1 H1d
  go_wp2_with fail
  go_ret
  exact ⟨rfl, _, H3.out.sub fun k hk => .inl hk⟩

set_option maxHeartbeats 2000000 in
theorem takes_yes {w0 wb w : World} {bd N b n c nx ep : Nat} {G Q : Nat → Prop} {d : Dsk} {j : Jn} {a : Option Addr} {l : List (Nat × List UInt8)} (h : ScW w0 wb bd G N d b j a n c l nx ep Q w) (i : Nat) (p : Pv) (hi : i ≤ 1000000) (hr : p.right) (ho : p.Ok) (hep : ep < 4294967296) (hp : plB i p = true) (he : ep ≤ p.e) (ht : terr j p = 0) (hnx : nx ≤ 1000000) (hn : n ≤ 10000) :
    Calls Try.prog 30 #[.pointer (some ⟨b, 0, none⟩), .int .i64 i, .agg (pgV p)] w fun e w' => TkYes w0 wb bd G N d b (jt j p) n l nx (i + 1) p.e Q (ended j p) (told j p) e w' := by
  obtain ⟨h0, hA0, hne⟩ := h.boxed p
  have HPL := Lib.hid (fun w => placed_as i p w hi hr ho)
  have HNE := Lib.hid hne
  have HR := Lib.hid (And.intro hr ho)
  obtain ⟨r, hr1⟩ : ∃ r, told j p = r := ⟨_, rfl⟩
  obtain ⟨R, hR⟩ : ∃ R, tx r = R := ⟨_, rfl⟩
  obtain ⟨j', hj'⟩ : ∃ j', jt j p = j' := ⟨_, rfl⟩
  obtain ⟨E, hE⟩ : ∃ E, ended j p = E := ⟨_, rfl⟩
  have HT := Lib.hid (And.intro (show tx (told j p) = R by rw [hr1, hR]) (And.intro hE (And.intro (show ((terr j p : Nat) : Int) = 0 by rw [ht]; rfl) hj')))
  rw [hr1, hj', hE]
  have HRR := Lib.hid hR
  have hpe : p.e < 4294967296 := ho.1
  clear hR hE ht hj' hr1
  have H0 := Lib.hid h0
  have HA0 := Lib.hid hA0
  clear h h0 hA0 hne hr ho
  rw [hp] at HPL
  go_enter Try.func30, Try.ntmps30
  go_wp2_with fail
  revert H0 HA0
  generalize w.alloc (.cells (pgV p) 73) = W0
  obtain ⟨g, hg⟩ : ∃ g, w.heap.size = g := ⟨_, rfl⟩
  rw [hg] at HNE ⊢
  clear hg
  intro H0 HA0
  refine mf_start (fun w' => Below W0.heap.size W0 w') (fun _ => false) (Below.refl _ _).drew fun hS => ?_
  refine mf_yield (i := 0) (d := 11) (.int .i64 i) rfl rfl (by kernel_rfl) (by kernel_rfl) (by kernel_rfl) (by kernel_rfl) hS (y_run (by rfl) fun _ => by rfl) ?_
  simp only [Act.put, List.setIfInBounds_toArray, List.set_cons_zero, List.set_cons_succ]
  refine mf_yield (i := 1) (d := 12) (.agg (pgV p)) rfl rfl (by kernel_rfl) (by kernel_rfl) (by kernel_rfl) (by kernel_rfl) hS (y_load_w (by rfl) rfl rfl (fun w h => HA0.out.below h HA0.out.lt) Try.underlying73 rfl (info_pgv p)) ?_
  simp only [Act.put, List.setIfInBounds_toArray, List.set_cons_zero, List.set_cons_succ]
  refine mf_ready [2] (by kernel_rfl) (by simp) (af_call (i := 2) (d := 13) (R := fun v w' => v = .bool true ∧ Below W0.heap.size W0 w') #[.int .i64 i, .agg (pgV p)] rfl rfl (by rfl) rfl enter_placed (by kernel_rfl) ((HPL.out _).mono fun e w' h => ⟨_, h.1, rfl, below_trans hS h.2 hS.size⟩) (fun v w' h => h.2) ?_ AllReadyF.nil)
  rintro v w1 ⟨rfl, h1⟩ _
  clear hS
  simp only [Act.put, List.setIfInBounds_toArray, List.set_cons_zero, List.set_cons_succ]
  refine mf_yield (i := 3) (d := 14) (.bool false) rfl rfl (by kernel_rfl) (by kernel_rfl) (by kernel_rfl) (by kernel_rfl) h1 (y_not (b := true) (by rfl) rfl rfl) ?_
  simp only [Act.put, List.setIfInBounds_toArray, List.set_cons_zero, List.set_cons_succ]
  refine mf_yield (i := 4) (d := 15) (.bool false) rfl rfl (by kernel_rfl) (by kernel_rfl) (by kernel_rfl) (by kernel_rfl) h1 (y_run (by rfl) fun _ => by rfl) ?_
  simp only [Act.put, List.setIfInBounds_toArray, List.set_cons_zero, List.set_cons_succ]
  refine mf_yield (i := 5) (d := 16) (.pointer (some ⟨g, 0, none⟩)) rfl rfl (by kernel_rfl) (by kernel_rfl) (by kernel_rfl) (by kernel_rfl) h1 (y_fieldO (by rfl) rfl rfl (fldp 0 (by omega)) (Nat.zero_add _)) ?_
  simp only [Act.put, List.setIfInBounds_toArray, List.set_cons_zero, List.set_cons_succ]
  refine mf_yield (i := 6) (d := 17) (.int .u32 p.e) rfl rfl (by kernel_rfl) (by kernel_rfl) (by kernel_rfl) (by kernel_rfl) h1 (y_cell1 (by rfl) rfl rfl Try.underlying40 rfl (fun w h => ((HA0.out.below h HA0.out.lt).cell 0).trans rfl)) ?_
  simp only [Act.put, List.setIfInBounds_toArray, List.set_cons_zero, List.set_cons_succ]
  refine mf_yield (i := 7) (d := 18) (.pointer (some ⟨b, 0, none⟩)) rfl rfl (by kernel_rfl) (by kernel_rfl) (by kernel_rfl) (by kernel_rfl) h1 (y_run (by rfl) fun _ => by rfl) ?_
  simp only [Act.put, List.setIfInBounds_toArray, List.set_cons_zero, List.set_cons_succ]
  refine mf_yield (i := 8) (d := 19) (.pointer (some ⟨b, 0, none⟩)) rfl rfl (by kernel_rfl) (by kernel_rfl) (by kernel_rfl) (by kernel_rfl) h1 (y_run (by rfl) fun _ => by rfl) ?_
  simp only [Act.put, List.setIfInBounds_toArray, List.set_cons_zero, List.set_cons_succ]
  refine mf_yield (i := 9) (d := 20) (.pointer (some ⟨b, 4, none⟩)) rfl rfl (by kernel_rfl) (by kernel_rfl) (by kernel_rfl) (by kernel_rfl) h1 (y_fieldO (by rfl) rfl rfl fld_c3 (Nat.zero_add _)) ?_
  simp only [Act.put, List.setIfInBounds_toArray, List.set_cons_zero, List.set_cons_succ]
  refine mf_yield (i := 10) (d := 21) (.int .u32 ep) rfl rfl (by kernel_rfl) (by kernel_rfl) (by kernel_rfl) (by kernel_rfl) h1 (y_cell1 (by rfl) rfl rfl Try.underlying40 rfl (fun w h => (H0.out.next h).flds.1.2.2)) ?_
  simp only [Act.put, List.setIfInBounds_toArray, List.set_cons_zero, List.set_cons_succ]
  refine mf_yield (i := 11) (d := 22) (.bool false) rfl rfl (by kernel_rfl) (by kernel_rfl) (by kernel_rfl) (by kernel_rfl) h1 (y_lssK (by rfl) rfl rfl rfl (by first | exact decide_eq_true (by omega) | exact decide_eq_false (by omega))) ?_
  simp only [Act.put, List.setIfInBounds_toArray, List.set_cons_zero, List.set_cons_succ]
  refine mf_yield (i := 12) (d := 23) (.bool false) rfl rfl (by kernel_rfl) (by kernel_rfl) (by kernel_rfl) (by kernel_rfl) h1 (y_run (by rfl) fun _ => by rfl) ?_
  simp only [Act.put, List.setIfInBounds_toArray, List.set_cons_zero, List.set_cons_succ]
  refine mf_done (by kernel_rfl) ?_
  have H1 := Lib.hid (H0.out.next h1)
  have HA1 := Lib.hid (HA0.out.below h1 HA0.out.lt)
  clear h1 H0 HA0
  go_wp2_with fail
  have H1d : ScW w0 wb bd G N d b j a n c l nx ep (Plus Q g) w1.drew := H1.out.next (Below.refl _ _).drew
  refine mf_start (fun w' => At w' g (pgV p) 73) (fun _ => false) (HA1.out.drewN 1) fun hS => ?_
  refine mf_yield (i := 0) (d := 25) (.pointer (some ⟨b, 0, none⟩)) rfl rfl (by kernel_rfl) (by kernel_rfl) (by kernel_rfl) (by kernel_rfl) hS (y_run (by rfl) fun _ => by rfl) ?_
  simp only [Act.put, List.setIfInBounds_toArray, List.set_cons_zero, List.set_cons_succ]
  refine mf_yield (i := 1) (d := 26) (.pointer (some ⟨b, 0, none⟩)) rfl rfl (by kernel_rfl) (by kernel_rfl) (by kernel_rfl) (by kernel_rfl) hS (y_run (by rfl) fun _ => by rfl) ?_
  simp only [Act.put, List.setIfInBounds_toArray, List.set_cons_zero, List.set_cons_succ]
  refine mf_yield (i := 2) (d := 27) (.pointer (some ⟨b, 0, none⟩)) rfl rfl (by kernel_rfl) (by kernel_rfl) (by kernel_rfl) (by kernel_rfl) hS (y_fieldO (by rfl) rfl rfl fld_c0 (Nat.zero_add _)) ?_
  simp only [Act.put, List.setIfInBounds_toArray, List.set_cons_zero, List.set_cons_succ]
  refine mf_yield (i := 3) (d := 28) (.agg (pgV p)) rfl rfl (by kernel_rfl) (by kernel_rfl) (by kernel_rfl) (by kernel_rfl) hS (y_load_w (by rfl) rfl rfl (fun w h => h) Try.underlying73 rfl (info_pgv p)) ?_
  simp only [Act.put, List.setIfInBounds_toArray, List.set_cons_zero, List.set_cons_succ]
  refine mf_ready [4] (by kernel_rfl) (by simp) (af_call (i := 4) (d := 29) (R := fun v w' => v = .tuple #[.string R, .bool E, .int .i64 0] ∧ At w' g (pgV p) 73 ∧ ScW w0 wb bd G N d b j' a n c l nx ep (Plus Q g) w') #[.pointer (some ⟨b, 0, none⟩), .agg (pgV p)] rfl rfl (by rfl) rfl enter_take (by kernel_rfl) ((H1d.take p (by have := HR.out.1.2.1; unfold maxLen; omega)).mono fun e w' h => ⟨_, h.1, by rw [HT.out.1, HT.out.2.1, HT.out.2.2.1], h.2.2.at (.inr rfl) HA1.out, by rw [← HT.out.2.2.2]; exact h.2.1⟩) (fun v w' h => h.2.1) ?_ AllReadyF.nil)
  rintro v w3 ⟨rfl, hA3, h3⟩ _
  clear hS
  simp only [Act.put, List.setIfInBounds_toArray, List.set_cons_zero, List.set_cons_succ]
  refine mf_yield (i := 5) (d := 24) (.tuple #[.string R, .bool E, .int .i64 0]) rfl rfl (by kernel_rfl) (by kernel_rfl) (by kernel_rfl) (by kernel_rfl) hA3 (y_run (by rfl) fun _ => by rfl) ?_
  simp only [Act.put, List.setIfInBounds_toArray, List.set_cons_zero, List.set_cons_succ]
  refine mf_yield (i := 6) (d := 30) (.string R) rfl rfl (by kernel_rfl) (by kernel_rfl) (by kernel_rfl) (by kernel_rfl) hA3 (y_run (by rfl) fun _ => by rfl) ?_
  simp only [Act.put, List.setIfInBounds_toArray, List.set_cons_zero, List.set_cons_succ]
  refine mf_yield (i := 7) (d := 31) (.bool E) rfl rfl (by kernel_rfl) (by kernel_rfl) (by kernel_rfl) (by kernel_rfl) hA3 (y_run (by rfl) fun _ => by rfl) ?_
  simp only [Act.put, List.setIfInBounds_toArray, List.set_cons_zero, List.set_cons_succ]
  refine mf_yield (i := 8) (d := 32) (.int .i64 0) rfl rfl (by kernel_rfl) (by kernel_rfl) (by kernel_rfl) (by kernel_rfl) hA3 (y_run (by rfl) fun _ => by rfl) ?_
  simp only [Act.put, List.setIfInBounds_toArray, List.set_cons_zero, List.set_cons_succ]
  refine mf_yield (i := 9) (d := 7) (.string R) rfl rfl (by kernel_rfl) (by kernel_rfl) (by kernel_rfl) (by kernel_rfl) hA3 (y_run (by rfl) fun _ => by rfl) ?_
  simp only [Act.put, List.setIfInBounds_toArray, List.set_cons_zero, List.set_cons_succ]
  refine mf_yield (i := 10) (d := 8) (.bool E) rfl rfl (by kernel_rfl) (by kernel_rfl) (by kernel_rfl) (by kernel_rfl) hA3 (y_run (by rfl) fun _ => by rfl) ?_
  simp only [Act.put, List.setIfInBounds_toArray, List.set_cons_zero, List.set_cons_succ]
  refine mf_yield (i := 11) (d := 9) (.int .i64 0) rfl rfl (by kernel_rfl) (by kernel_rfl) (by kernel_rfl) (by kernel_rfl) hA3 (y_run (by rfl) fun _ => by rfl) ?_
  simp only [Act.put, List.setIfInBounds_toArray, List.set_cons_zero, List.set_cons_succ]
  refine mf_done (by kernel_rfl) ?_
  have H3 := Lib.hid h3
  have HA3 := Lib.hid hA3
  clear h3 hA3 H1 HA1 H1d
  obtain ⟨pe, hpp⟩ : ∃ pe, p.e = pe := ⟨_, rfl⟩
  have HPP := Lib.hid hpp
  rw [hpp] at he hpe
  clear hpp
  have q0 : w3.cell? ⟨g, 0, none⟩ = some (.int .u32 pe) := by rw [← HPP.out]; exact (HA3.out.cell 0).trans rfl
  have q4 : w3.cell? ⟨b, 4, none⟩ = some (.int .u32 ep) := H3.out.flds.1.2.2
  have qf : w3.frozen? ⟨b, 4, none⟩ = false := H3.out.flds.2 4
  go_upto_region 7 with fail
  have H4 := Lib.hid (H3.out.epo pe).1
  revert H4
  generalize w3.setCell ⟨b, 4, none⟩ (.int .u32 (pe : Int)) = W4
  intro H4
  clear q0 q4 qf H3 HA3
  cases E with
  | true =>
    go_wp2_with fail
    have HS0 := Lib.hid (show (W4.drew.cell? ⟨b, 2, none⟩ = some (.slice a n c) ∧ W4.drew.cell? ⟨b, 3, none⟩ = some (.int .i64 nx)) ∧ W4.drew.frozen? ⟨b, 2, none⟩ = false from ⟨⟨H4.out.flds.1.1, H4.out.flds.1.2.1⟩, H4.out.flds.2 2⟩)
    refine mf_start (fun w' => w'.cell? ⟨b, 2, none⟩ = some (.slice a n c) ∧ w'.cell? ⟨b, 3, none⟩ = some (.int .i64 nx)) (fun j => j == 15) HS0.out.1 fun hS => ?_
    refine mf_yield (i := 0) (d := 41) (.pointer (some ⟨b, 0, none⟩)) rfl rfl (by kernel_rfl) (by kernel_rfl) (by kernel_rfl) (by kernel_rfl) hS (y_run (by rfl) fun _ => by rfl) ?_
    simp only [Act.put, List.setIfInBounds_toArray, List.set_cons_zero, List.set_cons_succ]
    refine mf_yield (i := 1) (d := 42) (.pointer (some ⟨b, 0, none⟩)) rfl rfl (by kernel_rfl) (by kernel_rfl) (by kernel_rfl) (by kernel_rfl) hS (y_run (by rfl) fun _ => by rfl) ?_
    simp only [Act.put, List.setIfInBounds_toArray, List.set_cons_zero, List.set_cons_succ]
    refine mf_yield (i := 2) (d := 43) (.pointer (some ⟨b, 0, none⟩)) rfl rfl (by kernel_rfl) (by kernel_rfl) (by kernel_rfl) (by kernel_rfl) hS (y_run (by rfl) fun _ => by rfl) ?_
    simp only [Act.put, List.setIfInBounds_toArray, List.set_cons_zero, List.set_cons_succ]
    refine mf_yield (i := 3) (d := 44) (.pointer (some ⟨b, 2, none⟩)) rfl rfl (by kernel_rfl) (by kernel_rfl) (by kernel_rfl) (by kernel_rfl) hS (y_fieldO (by rfl) rfl rfl fld_c1 (Nat.zero_add _)) ?_
    simp only [Act.put, List.setIfInBounds_toArray, List.set_cons_zero, List.set_cons_succ]
    refine mf_yield (i := 4) (d := 45) (.slice a n c) rfl rfl (by kernel_rfl) (by kernel_rfl) (by kernel_rfl) (by kernel_rfl) hS (y_cell1 (by rfl) rfl rfl Try.underlying30 rfl fun w h => h.1) ?_
    simp only [Act.put, List.setIfInBounds_toArray, List.set_cons_zero, List.set_cons_succ]
    refine mf_yield (i := 5) (d := 46) (.pointer (some ⟨b, 0, none⟩)) rfl rfl (by kernel_rfl) (by kernel_rfl) (by kernel_rfl) (by kernel_rfl) hS (y_run (by rfl) fun _ => by rfl) ?_
    simp only [Act.put, List.setIfInBounds_toArray, List.set_cons_zero, List.set_cons_succ]
    refine mf_yield (i := 6) (d := 47) (.pointer (some ⟨b, 0, none⟩)) rfl rfl (by kernel_rfl) (by kernel_rfl) (by kernel_rfl) (by kernel_rfl) hS (y_run (by rfl) fun _ => by rfl) ?_
    simp only [Act.put, List.setIfInBounds_toArray, List.set_cons_zero, List.set_cons_succ]
    refine mf_yield (i := 7) (d := 48) (.pointer (some ⟨b, 3, none⟩)) rfl rfl (by kernel_rfl) (by kernel_rfl) (by kernel_rfl) (by kernel_rfl) hS (y_fieldO (by rfl) rfl rfl fld_c2 (Nat.zero_add _)) ?_
    simp only [Act.put, List.setIfInBounds_toArray, List.set_cons_zero, List.set_cons_succ]
    refine mf_yield (i := 8) (d := 49) (.int .i64 nx) rfl rfl (by kernel_rfl) (by kernel_rfl) (by kernel_rfl) (by kernel_rfl) hS (y_cell1 (by rfl) rfl rfl Try.underlying3 rfl fun w h => h.2) ?_
    simp only [Act.put, List.setIfInBounds_toArray, List.set_cons_zero, List.set_cons_succ]
    refine mf_yield (i := 9) (d := 50) (.string R) rfl rfl (by kernel_rfl) (by kernel_rfl) (by kernel_rfl) (by kernel_rfl) hS (y_run (by rfl) fun _ => by rfl) ?_
    simp only [Act.put, List.setIfInBounds_toArray, List.set_cons_zero, List.set_cons_succ]
    refine mf_yield (i := 10) (d := 51) (.agg #[.int .i64 nx, .string R]) rfl rfl (by kernel_rfl) (by kernel_rfl) (by kernel_rfl) (by kernel_rfl) hS (y_build (by rfl) rfl (by first | exact built_rec _ _ | (simp; exact built_rec _ _))) ?_
    simp only [Act.put, List.setIfInBounds_toArray, List.set_cons_zero, List.set_cons_succ]
    have H5 := Lib.hid (H4.out.next (Below.refl _ _).drew)
    revert H5 hS
    generalize W4.drew = W5
    intro hS H5
    clear H4 HS0
    refine mf_of (i := 11) rfl (by kernel_rfl) (by rfl) fun Q' hQ => ?_
    refine wpList_slice_el elt_rec (R := #[.int .i64 (nx : Nat), .string R]) rfl (by omega) rfl _ rfl rfl rfl ?_
    have H6 := Lib.hid (H5.out.alloc (.cells #[.int .i64 (nx : Nat), .string R] 79))
    refine hQ _ _ (fun _ => ⟨H6.out.flds.1.1, H6.out.flds.1.2.1⟩) ?_
    clear hQ
    clear Q'
    show wpAnyF _ _ _ _ _ _ _ _ (Act.put _ (some 52) _) _
    simp only [Act.put, List.setIfInBounds_toArray, List.set_cons_zero, List.set_cons_succ]
    refine mf_of (i := 12) rfl (by kernel_rfl) (by rfl) fun Q' hQ => ?_
    refine wpList_append_els elt_rec rfl _ _ rfl rfl H6.out.els W5.heap.size 0 1 1 rfl (wid_one (R := #[.int .i64 (nx : Nat), .string R]) rfl (rec_one _ _)) (At.one (At.new W5 _ _)) (by omega) (Nat.le_trans H5.out.kp.1 (by rw [World.size_alloc]; omega)) ?_
    intro a' c' W7 h4 hb4 hg4 hat4
    have HAP := Lib.hid (ScW.append (x := (nx, r)) H6.out (by rw [HRR.out]; exact h4) hg4 hat4)
    have HS7 := Lib.hid (show W7.cell? ⟨b, 2, none⟩ = some (.slice a n c) ∧ W7.cell? ⟨b, 3, none⟩ = some (.int .i64 nx) from ⟨HAP.out.1.1, (World.cell?_of_block (hg4.block b H6.out.lt.1 fun e => H6.out.lt.2.2.2 e.symm)).trans H6.out.flds.1.2.1⟩)
    refine hQ _ _ (fun _ => HS7.out) ?_
    clear hQ
    clear Q'
    clear h4 hb4 hg4 hat4 hS
    show wpAnyF _ _ _ _ _ _ _ _ (Act.put _ (some 53) _) _
    simp only [Act.put, List.setIfInBounds_toArray, List.set_cons_zero, List.set_cons_succ]
    refine mf_one (i := 13) (d := 54) (.pointer (some ⟨b, 0, none⟩)) rfl rfl (by kernel_rfl) HS7.out (y_run (by rfl) fun _ => by rfl) ?_
    simp only [Act.put, List.setIfInBounds_toArray, List.set_cons_zero, List.set_cons_succ]
    refine mf_one (i := 14) (d := 55) (.pointer (some ⟨b, 2, none⟩)) rfl rfl (by kernel_rfl) HS7.out (y_fieldO (by rfl) rfl rfl fld_c1 (Nat.zero_add _)) ?_
    simp only [Act.put, List.setIfInBounds_toArray, List.set_cons_zero, List.set_cons_succ]
    refine mf_of (i := 15) rfl (by kernel_rfl) (by rfl) fun Q' hQ => ?_
    refine wpList_store1 rfl 30 _ _ rfl (v := .slice a' (n + 1) c') rfl rfl (by kernel_rfl) rfl HAP.out.1.1 HAP.out.1.2 ?_
    refine hQ _ _ (fun h => by cases h) ?_
    clear hQ
    clear Q'
    simp only [Act.put]
    refine mf_done (by kernel_rfl) ?_
    have H8 := Lib.hid HAP.out.2.1
    revert H8
    generalize W7.setCell ⟨b, 2, none⟩ (.slice a' (n + 1) c') = W8
    intro H8
    clear HAP HS7 H6 H5
    have HBG := Lib.hid (H8.out.begun)
    have q3 : W8.cell? ⟨b, 3, none⟩ = some (.int .i64 nx) := H8.out.flds.1.2.1
    have qf : W8.frozen? ⟨b, 3, none⟩ = false := H8.out.flds.2 3
    cases hjs : j'.isSome with
    | true =>
      rw [hjs] at HBG
      go_wp2_with fail
      refine HBG.out.mono ?_
      rintro e w9 ⟨rfl, rfl⟩
      go_wp2_with fail
      go_ret
      refine ⟨rfl, a', n + 1, c', Nat.le_refl _, ?_⟩
      rw [hjs, HPP.out]
      exact H8.out.sub fun k hk => .inl (.inl hk)
    | false =>
      rw [hjs] at HBG
      go_wp2_with fail
      refine HBG.out.mono ?_
      rintro e w9 ⟨rfl, rfl⟩
      go_wp2_with fail
      go_ret
      refine ⟨rfl, a', n + 1, c', Nat.le_refl _, ?_⟩
      rw [hjs, HPP.out]
      exact (H8.out.nxt (i + 1)).1.sub fun k hk => .inl (.inl hk)
  | false =>
    have HBG := Lib.hid (H4.out.begun)
    have q3 : W4.cell? ⟨b, 3, none⟩ = some (.int .i64 nx) := H4.out.flds.1.2.1
    have qf : W4.frozen? ⟨b, 3, none⟩ = false := H4.out.flds.2 3
    cases hjs : j'.isSome with
    | true =>
      rw [hjs] at HBG
      go_wp2_with fail
      refine HBG.out.mono ?_
      rintro e w9 ⟨rfl, rfl⟩
      go_wp2_with fail
      go_ret
      refine ⟨rfl, a, n, c, Nat.le_succ _, ?_⟩
      rw [hjs, HPP.out]
      exact H4.out.sub fun k hk => .inl hk
    | false =>
      rw [hjs] at HBG
      go_wp2_with fail
      refine HBG.out.mono ?_
      rintro e w9 ⟨rfl, rfl⟩
      go_wp2_with fail
      go_ret
      refine ⟨rfl, a, n, c, Nat.le_succ _, ?_⟩
      rw [hjs, HPP.out]
      exact (H4.out.nxt (i + 1)).1.sub fun k hk => .inl hk
end Go.Proofs.Ytbbeekpndhfpjaa.Sg
end

section
/- SgTs: takes in the words of the chain (a step of it, or none). -/
set_option maxRecDepth 100000
set_option linter.unusedVariables false
namespace Go.Proofs.Ytbbeekpndhfpjaa.Sg
open Go.RowKit Go.Proofs.Ytbbeekpndhfpjaa.Row Go.Proofs.Ytbbeekpndhfpjaa.Pa Go.Proofs.Ytbbeekpndhfpjaa.Fg Go.Proofs.Ytbbeekpndhfpjaa.Dk Go.Proofs.Ytbbeekpndhfpjaa.Crc

theorem plB_yes {i : Nat} {p : Pv} (h : plB i p = true) : p.n = i ∧ (i % 16 = 0 → p.k = 1 ∧ p.d = fourL (i / 16)) ∧ (i % 16 ≠ 0 → p.k = 2) := by
  have h := of_decide_eq_true h
  refine ⟨h.1, fun h1 => ?_, fun h1 => ?_⟩
  · have := h.2; rwa [if_pos h1] at this
  · have := h.2; rwa [if_neg h1] at this
theorem plB_no {s : St} {i : Nat} {p : Pv} (h : plB i p = false) : step s i (some p) = none := step_not fun hs => by
  refine of_decide_eq_false h ⟨hs.2.1, ?_⟩
  have h4 := hs.2.2.2
  by_cases h1 : i % 16 = 0
  · rw [if_pos h1] at h4 ⊢; exact h4
  · rw [if_neg h1] at h4 ⊢; exact h4.1
/-- What takes answers, and leaves. -/
def TkR (w0 wb : World) (bd : Nat) (G : Nat → Prop) (N : Nat) (d : Dsk) (b : Nat) (s : St) (i : Nat) (p : Pv) (a : Option Addr) (n c : Nat) (Q : Nat → Prop) (e : Ending) (w' : World) : Prop :=
  (∃ t a' n' c', step s i (some p) = some t ∧ e = .returned (.bool true) ∧ n' ≤ n + 1 ∧ ScW w0 wb bd G N d b t.j a' n' c' t.rs (t.at (i + 1)) t.ep Q w') ∨
  (step s i (some p) = none ∧ e = .returned (.bool false) ∧ ∃ j', ScW w0 wb bd G N d b j' a n c s.rs (s.at i) s.ep Q w')
theorem takes_as {w0 wb w : World} {bd N b n c : Nat} {G Q : Nat → Prop} {d : Dsk} {s : St} {a : Option Addr} {i : Nat} (h : ScW w0 wb bd G N d b s.j a n c s.rs (s.at i) s.ep Q w) (p : Pv) (hi : i ≤ 1000000) (hr : p.right) (ho : p.Ok) (hep : s.ep < 4294967296) (hat : s.at i ≤ 1000000) (hn : n ≤ 10000) :
    Calls Try.prog 30 #[.pointer (some ⟨b, 0, none⟩), .int .i64 i, .agg (pgV p)] w (TkR w0 wb bd G N d b s i p a n c Q) := by
  cases hp : plB i p with
  | false => exact (takes_un h i p hi hr ho hep hp).mono fun e w' h => .inr ⟨plB_no hp, h.1, h.2⟩
  | true =>
    obtain ⟨h1, h2, h3⟩ := plB_yes hp
    by_cases he : p.e < s.ep
    · exact (takes_old h i p hi hr ho hep hp he).mono fun e w' h => .inr ⟨step_epoch he, h.1, h.2⟩
    · have he : s.ep ≤ p.e := Nat.le_of_not_lt he
      by_cases h16 : i % 16 = 0
      · obtain ⟨hk, hd⟩ := h2 h16
        obtain ⟨g1, g2, g3, g4, g5⟩ := step_head (s := s) hr h1 he h16 hk hd
        refine (takes_yes h i p hi hr ho hep hp he g5 hat hn).mono fun e w' h => .inl ?_
        obtain ⟨e1, a', n', c', e2, e3⟩ := h
        rw [g2, g4] at e3
        refine ⟨_, a', n', c', g1, e1, e2, ?_⟩
        have e4 : ({ s with ep := p.e } : St).at (i + 1) = if s.j.isSome then s.at i else i + 1 := by
          unfold St.at
          dsimp only
          cases s.j.isSome <;> rfl
        rw [e4]
        exact e3
      · have hk := h3 h16
        cases hf : refused s.j p with
        | true =>
          obtain ⟨g1, g2, g3⟩ := step_data_no (s := s) hr h16 hk hf
          exact (takes_no h i p hi hr ho hep hp he g2 g3).mono fun e w' h => .inr ⟨g1, h.1, h.2⟩
        | false =>
          obtain ⟨g1, g2, g3, g4, g5⟩ := step_data (s := s) hr h1 he h16 hk hf
          refine (takes_yes h i p hi hr ho hep hp he g2 hat hn).mono fun e w' h => .inl ?_
          obtain ⟨e1, a', n', c', e2, e3⟩ := h
          refine ⟨_, a', n', c', g1, e1, e2, ?_⟩
          have e4 : (⟨jt s.j p, p.e, s.at i, if p.l then s.rs ++ [(s.at i, joined s.j p)] else s.rs⟩ : St).at (i + 1) = if (jt s.j p).isSome then s.at i else i + 1 := rfl
          have e5 : (if p.l then s.rs ++ [(s.at i, joined s.j p)] else s.rs) = if ended s.j p then s.rs ++ [(s.at i, told s.j p)] else s.rs := by
            rw [g3, g4]
            cases p.l <;> rfl
          rw [e4]
          show ScW w0 wb bd G N d b (jt s.j p) a' n' c' (if p.l then s.rs ++ [(s.at i, joined s.j p)] else s.rs) _ p.e Q w'
          rw [e5]
          exact e3

/-- Behind k sectors. -/
def ScI (w0 wb : World) (bd : Nat) (G : Nat → Prop) (N : Nat) (d : Dsk) (b k ms : Nat) (on : Bool) (w : World) : Prop :=
  ∃ d' s i0 j a m c, ScW w0 wb bd G (N + k) d' b j a m c s.rs (s.at i0) s.ep (fun _ => False) w ∧ Like d d' ∧ Goes (rdS d) k (!on) s i0 ∧ (on = true → j = s.j) ∧ ms = most (rdS d) k ∧ m ≤ k
theorem Goes.bad {f : Nat → Option Pv} {k i0 : Nat} {en : Bool} {s : St} (h : Goes f k en s i0) (hn : en = false → step s k (f k) = none) : Goes f (k + 1) true s i0 := by
  cases en with
  | true => exact h.over
  | false =>
    obtain rfl := h.on rfl
    exact h.stops (hn rfl)
section
variable {w0 wb w w' : World} {bd N b k m c ms ms' i0 : Nat} {G Q : Nat → Prop} {d d' : Dsk} {a : Option Addr} {on : Bool} {s t : St} {j j' : Jn}
theorem ScI.bad (q2 : Like d d') (q3 : Goes (rdS d) k (!on) s i0) (q8 : ms = most (rdS d) k) (q10 : m ≤ k)
    (hW : ScW w0 wb bd G (N + k + 1) (d'.readD k) b j' a m c s.rs (s.at i0) s.ep Q w') (hn : on = true → step s k (rdS d k) = none) (hm : ms' = max ms (eo (rdS d k))) : ScI w0 wb bd G N d b (k + 1) ms' false w' :=
  ⟨_, s, i0, j', a, m, c, hW.sub fun _ h => h.elim, q2.trans (like_read _ _), q3.bad (fun h => hn (by cases on <;> simp_all)), (fun h => by cases h), by rw [hm, q8]; rfl, by omega⟩
theorem ScI.good (q2 : Like d d') (q3 : Goes (rdS d) k false s i0) (q8 : ms = most (rdS d) k) {p : Pv} (hp : rdS d k = some p) (hs : step s k (some p) = some t)
    (hW : ScW w0 wb bd G (N + k + 1) (d'.readD k) b t.j a m c t.rs (t.at (k + 1)) t.ep Q w') (hm : ms' = max ms p.e) (h10 : m ≤ k + 1) : ScI w0 wb bd G N d b (k + 1) ms' true w' :=
  ⟨_, t, k + 1, t.j, a, m, c, hW.sub fun _ h => h.elim, q2.trans (like_read _ _), q3.more (by rw [hp]; exact hs), fun _ => rfl, by rw [hm, q8, most_next, hp]; rfl, h10⟩
theorem ScW.whole {w : World} {n nx ep : Nat} {l : List (Nat × List UInt8)} (h : ScW w0 wb bd G N d b j a m c l nx ep Q w) (hn : d.size = n) (h16 : n % 16 = 0) (h9 : n ≤ 1024) :
    Calls Try.prog 29 #[.pointer (some ⟨bd, 0, none⟩)] w fun e w' => e = .returned (.int .i64 n) ∧ w' = w := by
  obtain ⟨T, h1, h2, h3⟩ := h.ex
  exact whole_as h3 hn h16 h9
/-- A block of the caller's own, laid. -/
theorem ScW.box {w : World} {n nx ep : Nat} {l : List (Nat × List UInt8)} (h : ScW w0 wb bd G N d b j a n c l nx ep Q w) (Z P : Array Value) (t : TypeId) :
    ScW w0 wb bd G N d b j a n c l nx ep (fun k => Q k ∨ k = w.heap.size) ((w.alloc (.cells Z t)).setRow w.heap.size P) ∧ At ((w.alloc (.cells Z t)).setRow w.heap.size P) w.heap.size P t := by
  have hA := (At.new w Z t).setRow (C := P)
  refine ⟨(h.own (((Fr.refl Q w).alloc (.cells Z t)).setRow (.inr (Nat.le_refl _)) P)).sub fun k hk => hk.imp id fun e => ?_, hA⟩
  subst e
  exact ⟨Nat.le_refl _, hA.lt⟩
end
theorem wpList_max32 {ops : Array Oper} {rest : List Oper} {o : Oper} {a : Act} {w : World} {Q : Exit → Act → World → Prop} (hgd : o.guard = none) (y z : Operand) (ho : o.op = .call { callee := .builtin .max, args := #[y, z], argTypes := #[40, 40] }) (ht : o.type = 40)
    {m n : Nat} (hy : a.eval y = .int .u32 m) (hz : a.eval z = .int .u32 n) (h : wpList Try.prog ops Q rest (a.put o.dst (.int .u32 (max m n : Nat))) w) : wpList Try.prog ops Q (o :: rest) a w := by
  refine wpList_plain hgd fun K hK => ?_
  have e : Sem.run Try.prog (Builtin.max_ #[40, 40] 40 #[.int .u32 m, .int .u32 n]) w = .ok (.int .u32 (max m n : Nat)) w := by
    have e1 : (if (m : Int) < (n : Int) then (n : Int) else (m : Int)) = (max m n : Nat) := by split <;> omega
    rw [← e1]
    simp [Builtin.max_, Builtin.max2]
  unfold Oper.wp execOp
  simp only [ho, ht, resolve, invoke, builtin, Sem.run_bind, Sem.run_pure, Result.andThen_ok, List.map_toArray, List.map_cons, List.map_nil, hy, hz, e]
  exact hK _ _ h
theorem most_lt (d : Dsk) (n : Nat) : most (rdS d) n < 4294967296 := by
  have := most_low (f := rdS d) (n := n) (E := 4294967295) fun i _ => by
    unfold rdS
    split
    · cases e : rdP (d.seen i) with
      | none => exact Nat.zero_le _
      | some p => have := ((rdP_some.1 e).right).2.1; show p.e ≤ _; omega
    · exact Nat.zero_le _
  omega
/-- Four results in slots. -/
theorem results_tmp4 {fn : Func} {t u v x : Tmp} (h : fn.results = #[.tmp t, .tmp u, .tmp v, .tmp x]) (tmps : Array Value) (P : Program) (w : World) :
    (results fn tmps).run P w = .ok (.tuple #[tmps.getD t undef, tmps.getD u undef, tmps.getD v undef, tmps.getD x undef]) w := by
  simp [results, h]
theorem at_rng {w : World} {g : Nat} {P : Array Value} {t : TypeId} (h : At w g P t) : w.rangeAt g 0 P.toList := fun j v hj => by
  rw [Array.getElem?_toList] at hj
  rw [show 0 + j = j by omega]
  exact (cell_of_row _ _ j _ _ _ h).trans hj
theorem zero_pgv (w : World) : (zeroValue 73).run Try.prog w = .ok (.agg (pgV Pv.zero)) w := by kernel_rfl
end Go.Proofs.Ytbbeekpndhfpjaa.Sg
end

section
/- SgSn: contract of seg's Scan. -/
set_option maxRecDepth 100000
set_option linter.unusedVariables false
set_option linter.unusedSimpArgs false
namespace Go.Proofs.Ytbbeekpndhfpjaa.Sg
open Go.RowKit Go.Proofs.Ytbbeekpndhfpjaa.Row Go.Proofs.Ytbbeekpndhfpjaa.Pa Go.Proofs.Ytbbeekpndhfpjaa.Fg Go.Proofs.Ytbbeekpndhfpjaa.Dk Go.Proofs.Ytbbeekpndhfpjaa.Crc

theorem goes_at {f : Nat → Option Pv} {k i0 : Nat} {s : St} (h : Goes f k false s i0) : s.at k ≤ k := by
  obtain rfl := h.on rfl
  unfold St.at
  cases hj : s.j with
  | none => exact Nat.le_refl _
  | some x =>
    obtain ⟨e, r⟩ := x
    exact Nat.le_of_lt (begun_from h.st hj).1
theorem goes_ep {d : Dsk} {k i0 : Nat} {en : Bool} {s : St} (h : Goes (rdS d) k en s i0) : s.ep < 4294967296 := Nat.lt_of_le_of_lt (st_ep h.st h.le) (most_lt d k)

set_option maxHeartbeats 8000000 in
theorem scan_as : ScanAs := by
  intro w0 w bd N d G hD h32 h16 hdn hN
  have HD := Lib.hid hD
  obtain ⟨n, hn⟩ : ∃ n, d.size = n := ⟨_, rfl⟩
  have hn1 : n ≤ 1024 := by rw [← hn]; exact hD.num.2.1
  have HSZ := Lib.hid hn
  have hz := zero_c
  have hz2 := zero_pgv
  have hz3 := zero_page
  rw [hn] at h32 h16 hN ⊢
  have j1 : ¬ (n : Int) < 32 := by omega
  clear hD hn
  go_enter Try.func15, Try.ntmps15
  go_wp2_with fail
  refine (size_L HD.out).mono ?_
  rintro e w1 ⟨rfl, e1⟩
  subst e1
  rw [HSZ.out]
  have HS0 := Lib.hid (ScW.start (w := w1) HD.out (Below.refl _ _))
  go_wp2_with fail
  refine (HS0.out.size).mono ?_
  rintro e w2 ⟨rfl, e2⟩
  subst e2
  rw [HSZ.out]
  have HI := Lib.hid (show ScI w0 w1 bd G N d w1.heap.size 0 0 true (w1.alloc (.cells (cR 0 none 0 0 (.slice none 0 0) (.int .i64 0) (.int .u32 0)) 67)) from ⟨d, s0, 0, none, none, 0, 0, HS0.out, Like.refl d, Goes.zero _, fun _ => rfl, rfl, Nat.zero_le _⟩)
  clear HS0
  go_wp2_with fail
  go_loopw [7, 8, 18] (fun ms on i w' => ∃ (m0 : Nat) (eb : Bool) (k : Nat), ms = .int .u32 m0 ∧ on = .bool eb ∧ i = .int .i64 k ∧ k ≤ n ∧ Hid (ScI w0 w1 bd G N d w1.heap.size k m0 eb w')) (fun _ _ i _ => 2000 - (intOf i).toNat)
  case atStart => exact ⟨0, true, 0, rfl, rfl, rfl, Nat.zero_le _, HI⟩
  case round =>
    obtain ⟨m0, eb, k, rfl, rfl, rfl, hk, hI⟩ := hrel
    clear HI
    by_cases hlt : k < n
    · have k1 : decide ((k : Int) < (n : Int)) = true := decide_eq_true (by omega)
      obtain ⟨d', s, i0, j, a, m, c, q1, q2, q3, q4, q8, q10⟩ := hI.out
      have HQ := Lib.hid (And.intro q2 (And.intro q3 (And.intro q4 q8)))
      have HW := Lib.hid q1
      have hd' : d'.down = false := q2.2.1.trans hdn
      have hs' : d'.size = n := q2.1.trans HSZ.out
      obtain ⟨r1, r2, r3⟩ := read_ok hd' (i := k) (by omega)
      rw [q2.rd] at r3
      have HP := Lib.hid (q1.pag (k : Int))
      have hms : m0 < 4294967296 := by rw [q8]; exact most_lt d k
      have hsz2 : (d'.readD k).size = n := (like_read d' k).1.trans hs'
      have HSZ2 := Lib.hid hsz2
      have hmk := q10
      clear q1 q2 q3 q4 q8 q10 hI hs' hsz2
      go_wp2_with fail
      refine (HW.out.read (k : Int) (WalkArith.wf_i64 (by omega)) (by omega)).mono ?_
      rintro e w2 ⟨rfl, h2⟩
      rw [r1, r2]
      obtain ⟨P, hP⟩ : ∃ P, d'.seen k = P := ⟨_, rfl⟩
      rw [hP] at r3 HP ⊢
      obtain ⟨b2, hb2⟩ : ∃ b, w2.heap.size = b := ⟨_, rfl⟩
      have HB := Lib.hid (h2.box zP P 69)
      have HZ := Lib.hid (show At (w2.alloc (.cells zP 69)) w2.heap.size zP 69 from At.new _ _ _)
      rw [hb2] at HB HZ
      clear h2 HW hP
      go_wp2_with (first
        | (refine wpList_store_row rfl 69 _ _ rfl b2 P rfl rfl _ _ HZ.out (info_pag HP.out) (by rw [HP.out.size]; exact pag_z.size) HP.out.one ?_
           clear HZ
           revert HB
           generalize World.setRow _ _ _ = W2
           intro HB)
        | (refine wpList_load_range (by rfl) 69 _ rfl b2 0 rfl (at_rng HB.out.2) Try.underlying69 rfl (info_pag HP.out) ?_))
      refine (read_rd HP.out _).mono ?_
      rintro e w3 ⟨p, r, rfl, hb3, hpr⟩
      have HW3 := Lib.hid (HB.out.1.next hb3)
      obtain ⟨b3, hb3'⟩ : ∃ b, w3.heap.size = b := ⟨_, rfl⟩
      have HB3 := Lib.hid (HW3.out.box (pgV Pv.zero) (pgV p) 73)
      have HZ3 := Lib.hid (show At (w3.alloc (.cells (pgV Pv.zero) 73)) w3.heap.size (pgV Pv.zero) 73 from At.new _ _ _)
      rw [hb3'] at HB3 HZ3
      have HPR := Lib.hid hpr
      clear hb3 HB HW3 hpr
      by_cases hr : r = 0
      · have hrb : ((r : Int) == 0) = true := by rw [hr]; rfl
        obtain ⟨_, hpp, hright, hok⟩ : r = 0 ∧ rdP P = some p ∧ p.right ∧ p.Ok := by
          rcases HPR.out with h | h
          · exact h
          · exact absurd hr h.1
        have hf : rdS d k = some p := r3.trans hpp
        have hpe : p.e < 4294967296 := hok.1
        have HOK := Lib.hid (And.intro hright hok)
        clear HPR hpp hright hok r3
        cases eb with
        | false =>
          go_wp2_with (first
          | (refine wpList_store_row rfl 73 _ _ rfl b3 (pgV p) rfl rfl _ _ HZ3.out (info_pgv p) rfl (pgv_one p) ?_
             clear HZ3
             revert HB3
             generalize World.setRow _ _ _ = W3
             intro HB3
             have c0 : W3.cell? ⟨b3, 0, none⟩ = some (.int .u32 p.e) := (HB3.out.2.cell 0).trans rfl)
          | (refine wpList_max32 rfl _ _ rfl rfl rfl rfl ?_))
          have HF := Lib.hid (ScI.bad (ms' := max m0 p.e) HQ.out.1 HQ.out.2.1 HQ.out.2.2.2 hmk HB3.out.1 (fun h => by cases h) (by rw [hf]; rfl))
          go_roundw
          case rel => exact ⟨_, false, k + 1, rfl, rfl, by go_num, by omega, HF⟩
          case measure => simp [intOf]; omega
        | true =>
          obtain rfl : j = s.j := HQ.out.2.2.1 rfl
          have hgo : Goes (rdS d) k false s i0 := HQ.out.2.1
          have e0 : i0 = k := hgo.on rfl
          subst e0
          have HG := Lib.hid hgo
          clear hgo
          go_wp2_with (first
            | (refine wpList_store_row rfl 73 _ _ rfl b3 (pgV p) rfl rfl _ _ HZ3.out (info_pgv p) rfl (pgv_one p) ?_
               clear HZ3
               revert HB3
               generalize World.setRow _ _ _ = W3
               intro HB3
               have c0 : W3.cell? ⟨b3, 0, none⟩ = some (.int .u32 p.e) := (HB3.out.2.cell 0).trans rfl)
            | (refine wpList_max32 rfl _ _ rfl rfl rfl rfl ?_))
          refine (HB3.out.1.whole HSZ2.out h16 hn1).mono ?_
          rintro e w4 ⟨rfl, rfl⟩
          go_wp2_with (first
            | (refine wpList_load_range (by rfl) 73 _ rfl b3 0 rfl (at_rng HB3.out.2) Try.underlying73 rfl (info_pgv p) ?_))
          refine (takes_as HB3.out.1 p (by omega) HOK.out.1 HOK.out.2 (goes_ep HG.out) (Nat.le_trans (goes_at HG.out) (by omega)) (by omega)).mono ?_
          intro e w5 h5
          rcases h5 with ⟨t, a', n', c', g1, rfl, g2, g3⟩ | ⟨g1, rfl, j', g3⟩
          · have HF := Lib.hid (ScI.good (ms' := max m0 p.e) HQ.out.1 HG.out HQ.out.2.2.2 hf g1 g3 rfl (by omega))
            clear g1 g3
            go_wp2_with fail
            go_roundw
            case rel => exact ⟨_, true, i0 + 1, rfl, rfl, by go_num, by omega, HF⟩
            case measure => simp [intOf]; omega
          · have HF := Lib.hid (ScI.bad (ms' := max m0 p.e) HQ.out.1 HQ.out.2.1 HQ.out.2.2.2 hmk g3 (fun _ => by rw [hf]; exact g1) (by rw [hf]; rfl))
            clear g1 g3
            go_wp2_with fail
            go_roundw
            case rel => exact ⟨_, false, i0 + 1, rfl, rfl, by go_num, by omega, HF⟩
            case measure => simp [intOf]; omega
      · have hrb : ((r : Int) == 0) = false := by rw [beq_eq_false_iff_ne]; omega
        have hf : rdS d k = none := by
          rcases HPR.out with h | h
          · exact absurd h.1 hr
          · exact r3.trans h.2.1
        clear HPR
        have HF0 := fun W3 (HB3 : ScW w0 w1 bd G (N + k + 1) (d'.readD k) w1.heap.size j a m c s.rs (s.at i0) s.ep (fun q => (False ∨ q = b2) ∨ q = b3) W3) => Lib.hid (ScI.bad (ms' := m0) HQ.out.1 HQ.out.2.1 HQ.out.2.2.2 hmk HB3 (fun _ => by rw [hf]; rfl) (by rw [hf]; show m0 = max m0 0; omega))
        cases eb with
        | false =>
          go_wp2_with (first
            | (refine wpList_store_row rfl 73 _ _ rfl b3 (pgV p) rfl rfl _ _ HZ3.out (info_pgv p) rfl (pgv_one p) ?_
               clear HZ3
               revert HB3
               generalize World.setRow _ _ _ = W3
               intro HB3))
          have HF := HF0 _ HB3.out.1
          go_roundw
          case rel => exact ⟨_, false, k + 1, rfl, rfl, by go_num, by omega, HF⟩
          case measure => simp [intOf]; omega
        | true =>
          go_wp2_with (first
            | (refine wpList_store_row rfl 73 _ _ rfl b3 (pgV p) rfl rfl _ _ HZ3.out (info_pgv p) rfl (pgv_one p) ?_
               clear HZ3
               revert HB3
               generalize World.setRow _ _ _ = W3
               intro HB3))
          have HF := HF0 _ HB3.out.1
          go_roundw
          case rel => exact ⟨_, false, k + 1, rfl, rfl, by go_num, by omega, HF⟩
          case measure => simp [intOf]; omega
    · obtain rfl : k = n := by omega
      have k1 : decide ((k : Int) < (k : Int)) = false := decide_eq_false (by omega)
      obtain ⟨d', s, i0, j, a, m, c, q1, q2, q3, q4, q8, q10⟩ := hI.out
      obtain ⟨e1, e2, e3⟩ := q1.done
      obtain ⟨f1, f2⟩ := q3.done
      have HE := Lib.hid (And.intro q2 (And.intro e1 (And.intro e2 e3)))
      have HN := Lib.hid (And.intro f2 (And.intro q8.symm f1))
      have c2 := q1.flds.1.1
      have c3 := q1.flds.1.2.1
      clear hI q1 q2 q3 q4 q8 q10 e1 e2 e3 f1 f2
      go_wp2_with fail
      go_quiet (fail)
      go_wp2_with fail
      refine bodyPost_ret (results_tmp4 rfl _ _ _) rfl ?_
      refine ⟨a, m, c, OwnR a m c, d', ?_, HE.out.1, ?_, ?_, ?_⟩
      · rw [HN.out.1, HN.out.2.1]; rfl
      · exact (HE.out.2.1.own ((Fr.refl _ _).drewN _)).sub fun k hk => .inl hk
      · exact HE.out.2.2.1
      · rw [HN.out.2.2]; exact HE.out.2.2.2

theorem read_dn {w0 w : World} {b N : Nat} {d : Dsk} {G : Nat → Prop} (h : DkL w0 b N d G w) (i : Int) (hr : d.reach i ≠ 0) :
    Calls Try.prog 27 #[.pointer (some ⟨b, 0, none⟩), .int .i64 i] w fun e w' => e = .returned (.tuple #[.agg zP, .int .i64 (d.reach i)]) ∧ DkL w0 b N d G w' ∧ Kp G w w' := by
  obtain ⟨T, h1, h2⟩ := h.2.1
  exact (read_no w b T N d h1 i hr).mono fun e w' ⟨he, hd⟩ => ⟨he, h.to h2 hd⟩
/-- Of a disk that is down. -/
theorem scan_down (w0 w : World) (bd N : Nat) (d : Dsk) (G : Nat → Prop) (hD : DkL w0 bd N d G w) (h32 : 32 ≤ d.size) (hdn : d.down = true) (hN : N ≤ 1000000) :
    Calls Try.prog 15 #[.pointer (some ⟨bd, 0, none⟩)] w fun en w' => ∃ d', en = .returned (.tuple #[.slice none 0 0, .int .i64 0, .int .u32 0, .int .i64 7]) ∧ Like d d' ∧ DkL w0 bd N d' G w' ∧ Kp G w w' := by
  have HD := Lib.hid hD
  obtain ⟨n, hn⟩ : ∃ n, d.size = n := ⟨_, rfl⟩
  have hn1 : n ≤ 1024 := by rw [← hn]; exact hD.num.2.1
  have HSZ := Lib.hid hn
  have hz := zero_c
  have hz3 := zero_page
  rw [hn] at h32
  have j1 : ¬ (n : Int) < 32 := by omega
  have j2 : (0 : Int) < (n : Int) := by omega
  have hr7 : d.reach 0 = 7 := (Dsk.reach_all d 0).1 hdn
  have HR7 := Lib.hid hr7
  clear hD hn hr7
  go_enter Try.func15, Try.ntmps15
  go_wp2_with fail
  refine (size_L HD.out).mono ?_
  rintro e w1 ⟨rfl, e1⟩
  subst e1
  rw [HSZ.out]
  have HD1 := Lib.hid (HD.out.alloc (.cells (cR 0 none 0 0 (.slice none 0 0) (.int .i64 0) (.int .u32 0)) 67))
  go_wp2_with fail
  refine (size_L HD1.out).mono ?_
  rintro e w2 ⟨rfl, e2⟩
  rw [HSZ.out]
  have HK2 := Lib.hid (show Kp G w1 w2 by rw [e2]; exact ⟨by rw [World.size_alloc]; omega, fun k hk => heap_alloc_old _ _ (HD.out.2.2 k hk).2⟩)
  rw [← e2] at HD1
  clear e2
  go_wp2_with fail
  go_loopw [18] (fun i w' => i = .int .i64 0 ∧ w' = w2) (fun _ _ => 0)
  case atStart => exact ⟨rfl, rfl⟩
  case round =>
    obtain ⟨rfl, rfl⟩ := hrel
    have hw2 : wr.heap.size = wr.heap.size := rfl
    go_wp2_with fail
    refine (read_dn HD1.out 0 (by rw [HR7.out]; omega)).mono ?_
    rintro e w3 ⟨rfl, h3, k3⟩
    rw [HR7.out]
    have HB := Lib.hid (show DkL w0 bd N d (Plus (Plus G w1.heap.size) w3.heap.size) ((w3.alloc (.cells zP 69)).setRow w3.heap.size zP) from (h3.alloc _).setRow (.inr rfl) _)
    have HK := Lib.hid (show Kp G w1 ((w3.alloc (.cells zP 69)).setRow w3.heap.size zP) from (HK2.out.trans (kp_sub k3 fun k hk => .inl hk)).trans ⟨by rw [size_setRow, World.size_alloc]; omega, fun k hk => (Go.setRow_other _ _ _ _ (by have := (h3.2.2 k (.inl hk)).2; omega)).trans (heap_alloc_old _ _ (h3.2.2 k (.inl hk)).2)⟩)
    have HZ := Lib.hid (show At (w3.alloc (.cells zP 69)) w3.heap.size zP 69 from At.new _ _ _)
    clear h3 k3
    go_wp2_with (refine wpList_store_row rfl 69 _ _ rfl w3.heap.size zP rfl rfl _ _ HZ.out (info_pag (P := zP) pag_z) rfl pag_z.one ?_)
    refine bodyPost_ret (results_tmp4 rfl _ _ _) rfl ⟨d, rfl, Like.refl d, HB.out.sub fun k hk => .inl (.inl hk), HK.out⟩
end Go.Proofs.Ytbbeekpndhfpjaa.Sg
end

section
/- SgLg: a log in memory; contracts of seg's Next, Frozen, closed, told, Sync, Open. -/
set_option maxRecDepth 100000
set_option linter.unusedVariables false
set_option linter.unusedSimpArgs false
namespace Go.Proofs.Ytbbeekpndhfpjaa.Sg
open Go.RowKit Go.Proofs.Ytbbeekpndhfpjaa.Row Go.Proofs.Ytbbeekpndhfpjaa.Pa Go.Proofs.Ytbbeekpndhfpjaa.Fg Go.Proofs.Ytbbeekpndhfpjaa.Dk Go.Proofs.Ytbbeekpndhfpjaa.Crc

/-- A log's fields. -/
def lR (bd ep nx : Nat) (fz : Bool) : Array Value := #[.pointer (some ⟨bd, 0, none⟩), .int .u32 (ep : Nat), .int .i64 (nx : Nat), .bool fz]
theorem built_log (bd ep nx : Nat) (fz : Bool) : Try.prog.built 60 [(0, .pointer (some ⟨bd, 0, none⟩)), (1, .int .u32 (ep : Nat)), (2, .int .i64 (nx : Nat)), (3, .bool fz)] = some (lR bd ep nx fz) := by kernel_rfl
/-- A log at b over the disk at bd. -/
structure LM (w : World) (b : Nat) (T : Nat → Prop) (bd : Nat) (x : Lg) : Prop where
  just : ∀ k, T k ↔ k = b
  row : At w b (lR bd x.ep x.nx x.fz) 60
  ep : x.ep < 4294967296
  nx : x.nx ≤ 5000
section
variable {w w' w0 : World} {b bd N : Nat} {T G : Nat → Prop} {x : Lg} {d d' : Dsk}
theorem LM.flds (h : LM w b T bd x) : (w.cell? ⟨b, 0, none⟩ = some (.pointer (some ⟨bd, 0, none⟩)) ∧ w.cell? ⟨b, 1, none⟩ = some (.int .u32 (x.ep : Nat)) ∧ w.cell? ⟨b, 2, none⟩ = some (.int .i64 (x.nx : Nat)) ∧ w.cell? ⟨b, 3, none⟩ = some (.bool x.fz)) ∧ ∀ k, w.frozen? ⟨b, k, none⟩ = false :=
  ⟨⟨by rw [h.row.cell]; rfl, by rw [h.row.cell]; rfl, by rw [h.row.cell]; rfl, by rw [h.row.cell]; rfl⟩, fun k => h.row.frozen k⟩
theorem LM.own (h : LM w b T bd x) : T b ∧ ∀ k, T k → k < w.heap.size := ⟨(h.just b).2 rfl, fun k hk => by rw [(h.just k).1 hk]; exact h.row.lt⟩
theorem LM.keep (h : LM w b T bd x) (hk : Kp T w w') : LM w' b T bd x := ⟨h.just, hk.at h.own.1 h.row, h.ep, h.nx⟩
theorem LM.below (h : LM w b T bd x) (hb : Below w.heap.size w w') : LM w' b T bd x := ⟨h.just, h.row.below hb h.row.lt, h.ep, h.nx⟩
theorem LM.frz (h : LM w b T bd x) : LM (w.setCell ⟨b, 3, none⟩ (.bool true)) b T bd ⟨x.ep, x.nx, true⟩ := ⟨h.just, h.row.setCell, h.ep, h.nx⟩
theorem LM.nxt (h : LM w b T bd x) {m : Nat} (hm : m ≤ 5000) : LM (w.setCell ⟨b, 2, none⟩ (.int .i64 (m : Nat))) b T bd ⟨x.ep, m, x.fz⟩ := ⟨h.just, h.row.setCell, h.ep, hm⟩

theorem next_of (h : LM w b T bd x) : Calls Try.prog 17 #[.pointer (some ⟨b, 0, none⟩)] w fun en w' => en = .returned (.int .i64 (x.nx : Nat)) ∧ w' = w := by
  obtain ⟨⟨_, _, c2, _⟩, _⟩ := h.flds
  go_enter Try.func17, Try.ntmps17
  go_wp2_with fail
  go_ret
  exact ⟨rfl, rfl⟩
theorem frozen_of (h : LM w b T bd x) : Calls Try.prog 19 #[.pointer (some ⟨b, 0, none⟩)] w fun en w' => en = .returned (.bool x.fz) ∧ w' = w := by
  obtain ⟨⟨_, _, _, c3⟩, _⟩ := h.flds
  go_enter Try.func19, Try.ntmps19
  go_wp2_with fail
  go_ret
  exact ⟨rfl, rfl⟩
theorem closed_of (h : LM w b T bd x) : Calls Try.prog 21 #[.pointer (some ⟨b, 0, none⟩)] w fun en w' => en = .returned (.bool x.fz) ∧ w' = w := by
  obtain ⟨⟨_, _, _, c3⟩, _⟩ := h.flds
  go_enter Try.func21, Try.ntmps21
  go_wp2_with fail
  go_ret
  exact ⟨rfl, rfl⟩
theorem told_ok (b : Nat) (w : World) : Calls Try.prog 22 #[.pointer (some ⟨b, 0, none⟩), .int .i64 0] w fun en w' => en = .returned (.int .i64 0) ∧ w' = w := by
  go_enter Try.func22, Try.ntmps22
  go_wp2_with fail
  go_ret
  exact ⟨rfl, rfl⟩
theorem told_err (h : LM w b T bd x) {e : Int} (he : e ≠ 0) : Calls Try.prog 22 #[.pointer (some ⟨b, 0, none⟩), .int .i64 e] w fun en w' => en = .returned (.int .i64 e) ∧ w' = w.setCell ⟨b, 3, none⟩ (.bool true) := by
  obtain ⟨⟨_, _, _, c3⟩, hf⟩ := h.flds
  have f3 := hf 3
  have j1 : (e != 0) = true := by rw [bne_iff_ne]; exact he
  clear h hf
  go_enter Try.func22, Try.ntmps22
  go_wp2_with fail
  go_ret
  exact ⟨rfl, rfl⟩
/-- A log beside G's blocks, taken apart. -/
theorem lg_frz (h : LM w b T bd x) (hG : ∀ k, T k → ¬ G k) (hd : DkL w0 bd N d (fun k => G k ∨ T k) w) :
    LgL LM w0 bd N d b ⟨x.ep, x.nx, true⟩ G (w.setCell ⟨b, 3, none⟩ (.bool true)) ∧ Kp G w (w.setCell ⟨b, 3, none⟩ (.bool true)) := by
  have hf : Fr T w (w.setCell ⟨b, 3, none⟩ (.bool true)) := (Fr.refl _ _).setCell (.inl h.own.1) _
  exact ⟨⟨T, h.frz, hG, (hd.own (hf.mono fun k _ hk => .inr hk)).sub fun k hk => .inl hk⟩, hf.size, fun k hk => hf.block k (hd.2.2 k (.inl hk)).2 fun ht => hG k ht hk⟩
theorem lg_nxt (h : LM w b T bd x) (hG : ∀ k, T k → ¬ G k) (hd : DkL w0 bd N d (fun k => G k ∨ T k) w) {m : Nat} (hm : m ≤ 5000) :
    LgL LM w0 bd N d b ⟨x.ep, m, x.fz⟩ G (w.setCell ⟨b, 2, none⟩ (.int .i64 (m : Nat))) ∧ Kp G w (w.setCell ⟨b, 2, none⟩ (.int .i64 (m : Nat))) := by
  have hf : Fr T w (w.setCell ⟨b, 2, none⟩ (.int .i64 (m : Nat))) := (Fr.refl _ _).setCell (.inl h.own.1) _
  exact ⟨⟨T, h.nxt hm, hG, (hd.own (hf.mono fun k _ hk => .inr hk)).sub fun k hk => .inl hk⟩, hf.size, fun k hk => hf.block k (hd.2.2 k (.inl hk)).2 fun ht => hG k ht hk⟩

theorem sync_of (h : LgL LM w0 bd N d b x G w) (hdn : d.down = false) (hN : N ≤ 1000000) :
    Calls Try.prog 11 #[.pointer (some ⟨b, 0, none⟩)] w fun en w' => ∃ e d' x', en = .returned (.int .i64 e) ∧ SynR d x e d' x' ∧ LgL LM w0 bd N d' b x' G w' ∧ Kp G w w' := by
  have HH := Lib.hid h
  obtain ⟨T, h1, h2, h3⟩ := h
  have HC := closed_of h1
  obtain ⟨⟨c0, _⟩, _⟩ := h1.flds
  cases hfz : x.fz with
  | true =>
    rw [hfz] at HC
    have HC := Lib.hid HC
    go_enter Try.func11, Try.ntmps11
    go_wp2_with fail
    refine HC.out.mono ?_
    rintro e w1 ⟨rfl, rfl⟩
    go_wp2_with fail
    go_ret
    exact ⟨8, d, x, rfl, .inl ⟨hfz, rfl, rfl, rfl⟩, HH.out, Kp.refl _ _⟩
  | false =>
    rw [hfz] at HC
    have HC := Lib.hid HC
    have HS := Lib.hid (sync_L h3 hN)
    have H1 := Lib.hid (And.intro h1 h2)
    have HFZ := Lib.hid hfz
    clear h1 h2 h3 hfz
    go_enter Try.func11, Try.ntmps11
    go_wp2_with fail
    refine HC.out.mono ?_
    rintro e w1 ⟨rfl, rfl⟩
    go_wp2_with fail
    refine HS.out.mono ?_
    rintro e w2 ⟨rfl, k1, k2⟩
    have H2 := H1.out.1.keep (kp_sub k2 fun k hk => .inr hk)
    have HK := Lib.hid (kp_sub (H := G) k2 fun k hk => .inl hk)
    by_cases he : d.syncE = 0
    · have HL := Lib.hid (show LgL LM w0 bd N d.syncD b x G w2 from ⟨T, H2, H1.out.2, k1⟩)
      have HE := Lib.hid he
      rw [he]
      clear k1 k2 H2 he
      go_wp2_with fail
      refine (told_ok b w2).mono ?_
      rintro e w3 ⟨rfl, rfl⟩
      go_wp2_with fail
      go_ret
      exact ⟨0, _, x, rfl, .inr ⟨HFZ.out, HE.out.symm, rfl, .inl ⟨rfl, rfl⟩⟩, HL.out, HK.out⟩
    · have HT := Lib.hid (told_err H2 he)
      have HL := Lib.hid (lg_frz H2 H1.out.2 k1)
      have HE := Lib.hid he
      clear k1 k2 H2 he
      go_wp2_with fail
      refine HT.out.mono ?_
      rintro e w3 ⟨rfl, rfl⟩
      go_wp2_with fail
      go_ret
      exact ⟨_, _, ⟨x.ep, x.nx, true⟩, rfl, .inr ⟨HFZ.out, rfl, rfl, .inr ⟨HE.out, rfl, rfl⟩⟩, HL.out.1, HK.out.trans HL.out.2⟩

theorem open_yes (hD : DkL w0 bd N d G w) (h32 : 32 ≤ d.size) (h16 : d.size % 16 = 0) (hdn : d.down = false) (hN : N + d.size ≤ 1000000) (hm : most (rdS d) d.size < 4294967295) :
    Calls Try.prog 10 #[.pointer (some ⟨bd, 0, none⟩)] w fun en w' => ∃ b a n c R d', en = .returned (.tuple #[.pointer (some ⟨b, 0, none⟩), .slice a n c, .int .i64 0]) ∧
      Like d d' ∧ LgL LM w0 bd (N + d.size) d' b ⟨most (rdS d) d.size + 1, nxt (rdS d) d.size, false⟩ (fun k => G k ∨ R k) w' ∧ Kp G w w' ∧ RecsAt w.heap.size w' a n c (recs (rdS d) d.size) R := by
  have HS := Lib.hid (scan_as w0 w bd N d G hD h32 h16 hdn hN)
  have hnx : nxt (rdS d) d.size ≤ 5000 := by
    obtain ⟨s, hl, _⟩ := Lgd.opened (rdS d) d.size (rdS_out d) (E := most (rdS d) d.size + 1) (by omega)
    have := hl.base.le
    have := hD.num.2.1
    omega
  obtain ⟨M, hM⟩ : ∃ M, most (rdS d) d.size = M := ⟨_, rfl⟩
  obtain ⟨X, hX⟩ : ∃ X, nxt (rdS d) d.size = X := ⟨_, rfl⟩
  rw [hM, hX] at HS
  rw [hM] at hm ⊢
  rw [hX] at hnx ⊢
  have j1 : ((M : Int) == 4294967295) = false := by rw [beq_eq_false_iff_ne]; omega
  have hbl := built_log bd (M + 1) X false
  clear hM hX hD
  go_enter Try.func10, Try.ntmps10
  go_wp2_with fail
  refine HS.out.mono ?_
  rintro en w1 ⟨a, n, c, R, d', rfl, k1, k2, k3, k4⟩
  have HL := Lib.hid (show LgL LM w0 bd (N + d.size) d' w1.heap.size ⟨M + 1, X, false⟩ (fun k => G k ∨ R k) (w1.alloc (.cells (lR bd (M + 1) X false) 60)) from
    ⟨fun k => k = w1.heap.size, ⟨fun k => Iff.rfl, At.new _ _ _, by show M + 1 < _; omega, hnx⟩, fun k hk hg => by
      have := (k2.2.2 k hg).2
      have hk : k = w1.heap.size := hk
      omega, (k2.alloc _).sub fun k hk => hk⟩)
  have HK := Lib.hid (show Kp G w (w1.alloc (.cells (lR bd (M + 1) X false) 60)) from k3.trans ⟨by rw [World.size_alloc]; omega, fun k hk => heap_alloc_old _ _ (k2.2.2 k (.inl hk)).2⟩)
  have HR := Lib.hid (show RecsAt w.heap.size (w1.alloc (.cells (lR bd (M + 1) X false) 60)) a n c (recs (rdS d) d.size) R from ⟨k4.1, k4.2.1.below ((Below.refl _ _).alloc (Nat.le_refl _) _), k4.2.2.1, k4.2.2.2⟩)
  have HLK := Lib.hid k1
  clear k1 k2 k3 k4
  go_wp2_with fail
  exact bodyPost_ret (results_tmp3 rfl _ _ _) rfl ⟨w1.heap.size, a, n, c, R, d', rfl, HLK.out, HL.out, HK.out, HR.out⟩
theorem open_down (hD : DkL w0 bd N d G w) (h32 : 32 ≤ d.size) (hdn : d.down = true) (hN : N ≤ 1000000) :
    Calls Try.prog 10 #[.pointer (some ⟨bd, 0, none⟩)] w fun en w' => ∃ u v d', en = .returned (.tuple #[u, v, .int .i64 7]) ∧ Like d d' ∧ DkL w0 bd N d' G w' ∧ Kp G w w' := by
  have HS := Lib.hid (scan_down w0 w bd N d G hD h32 hdn hN)
  clear hD
  go_enter Try.func10, Try.ntmps10
  go_wp2_with fail
  refine HS.out.mono ?_
  rintro en w1 ⟨d', rfl, k1, k2, k3⟩
  have HE := Lib.hid (And.intro k1 (And.intro k2 k3))
  clear k1 k2 k3
  go_wp2_with fail
  exact bodyPost_ret (results_tmp3 rfl _ _ _) rfl ⟨_, _, d', rfl, HE.out⟩
end
end Go.Proofs.Ytbbeekpndhfpjaa.Sg
end
