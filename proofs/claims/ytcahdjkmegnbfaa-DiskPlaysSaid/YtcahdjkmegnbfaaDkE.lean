/- Contracts of the program's disk: Sync, Crash; and of none. -/
import Derived.Test.YtcahdjkmegnbfaaDkD
set_option maxRecDepth 100000
set_option linter.unusedVariables false
set_option linter.unusedSimpArgs false
namespace Go.Proofs.Ytcahdjkmegnbfaa.Dk
open Go.RowKit Go.Proofs.Ytcahdjkmegnbfaa.Row

theorem sync_no (w : World) (b : Nat) (T : Nat → Prop) (N : Nat) (d : Dsk) (h : DkIs w b T N d) (hr : d.syncE ≠ 0) :
    Calls Try.prog 14 #[.pointer (some ⟨b, 0, none⟩)] w fun e w' => e = .returned (.int .i64 d.syncE) ∧ DkTo w b T N d w' := by
  have HS := Lib.hid (spend_of w b T N d h)
  have HD := Lib.hid h.to
  obtain ⟨bs, bl, br, a, c, hM⟩ := h
  have hp := power_of w b d.down hM.cells.2.1
  by_cases h1 : d.down = true
  · have e : d.syncE = 7 := by unfold Dsk.syncE; rw [if_pos h1]
    rw [e]
    rw [if_pos h1] at hp
    clear HS hM hr h1 e
    go_enter Try.func14, Try.ntmps14
    go_wp2_with fail
    refine hp.mono ?_
    rintro e w1 ⟨rfl, rfl⟩
    go_wp2_with fail
    go_ret
    exact ⟨rfl, HD.out⟩
  · have hu : d.fuse = 0 := by
      unfold Dsk.syncE at hr
      rw [if_neg h1] at hr
      by_cases c : d.fuse = 0
      · exact c
      · rw [if_neg c] at hr; exact absurd rfl hr
    have e : d.syncE = 6 := by unfold Dsk.syncE; rw [if_neg h1, if_pos hu]
    have es : d.spent = d := by unfold Dsk.spent; rw [hu]; cases d; simp_all
    rw [if_pos hu, es] at HS
    rw [if_neg h1] at hp
    rw [e]
    clear HD hM hr h1 e hu es
    go_enter Try.func14, Try.ntmps14
    go_wp2_with fail
    refine hp.mono ?_
    rintro e w1 ⟨rfl, rfl⟩
    go_wp2_with fail
    refine HS.out.mono ?_
    rintro e w1 ⟨rfl, hd⟩
    have HX := Lib.hid hd
    clear hd HS hp
    go_wp2_with fail
    go_ret
    exact ⟨rfl, HX.out⟩

theorem sync_yes (w : World) (b : Nat) (T : Nat → Prop) (N : Nat) (d : Dsk) (h : DkIs w b T N d) (hN : N ≤ 1000000) (hr : d.syncE = 0) :
    Calls Try.prog 14 #[.pointer (some ⟨b, 0, none⟩)] w fun e w' => e = .returned (.int .i64 0) ∧ DkTo w b T N (d.spent.settled allB) w' := by
  have HS := Lib.hid (spend_of w b T N d h)
  obtain ⟨bs, bl, br, a, c, hM⟩ := h
  have hp := power_of w b d.down hM.cells.2.1
  have h1 : ¬ d.down = true := fun h => by unfold Dsk.syncE at hr; rw [if_pos h] at hr; omega
  have hu : d.fuse ≠ 0 := fun h => by unfold Dsk.syncE at hr; rw [if_neg h1, if_pos h] at hr; omega
  rw [if_neg hu] at HS
  rw [if_neg h1] at hp
  have HN := Lib.hid hN
  clear hM hr h1 hu hN
  generalize d.spent = d1 at HS ⊢
  go_enter Try.func14, Try.ntmps14
  go_wp2_with fail
  refine hp.mono ?_
  rintro e w0 ⟨rfl, rfl⟩
  go_wp2_with fail
  refine HS.out.mono ?_
  rintro e w1 ⟨rfl, T', hd, hf, hT⟩
  have HC := Lib.hid (settle_all w1 b T' N d1 hd HN.out)
  have HF := Lib.hid hf
  have HT := Lib.hid hT
  clear hd hf hT HS hp
  go_wp2_with fail
  refine HC.out.mono ?_
  rintro e w2 ⟨rfl, hd⟩
  have HY := Lib.hid (hd.from HF.out HT.out)
  clear hd HC HF HT
  go_wp2_with fail
  go_ret
  exact ⟨rfl, HY.out⟩

theorem DkM.fallen {w : World} {b : Nat} {T : Nat → Prop} {N : Nat} {d : Dsk} {bs bl br : Nat} {a : Option Addr} {c : Nat} (h : DkM w b T N d bs bl br a c) : DkM (w.setCell ⟨b, 1, none⟩ (.bool true)) b T N { d with down := true } bs bl br a c :=
  h.setC (d' := { d with down := true }) 1 (.bool true) rfl ⟨rfl, rfl, rfl, rfl, rfl⟩ h.num.2.2

theorem crash_of (w : World) (b : Nat) (T : Nat → Prop) (N : Nat) (d : Dsk) (h : DkIs w b T N d) (hN : N ≤ 1000000) (ka : Option Addr) (kn kc : Nat) (t : Nat → Bool) (hB : SlB w ka kn kc t) (hkT : 0 < kn → ∀ b o, ka = some ⟨b, o, none⟩ → ¬ T b) :
    Calls Try.prog 15 #[.pointer (some ⟨b, 0, none⟩), .slice ka kn kc] w fun e w' => e = .returned (.tuple #[]) ∧ DkTo w b T N (d.crashed (keepB kn t)) w' := by
  have hmf : ∀ (fn : Fn) (first cap : Array Value) (w : World), (Instr.makeFunc fn first cap).run Try.prog w = .ok (.func fn first cap) w := fun _ _ _ _ => rfl
  have hb := (Below.refl w.heap.size w).alloc (Nat.le_refl _) (.cells #[.slice ka kn kc] 37)
  have hat := At.new w #[.slice ka kn kc] 37
  have HC := Lib.hid (settle_kept (w.alloc (.cells #[.slice ka kn kc] 37)) b T N d (h.below hb) hN w.heap.size ka kn kc t ((hat.cell 0).trans rfl) (hB.below hb) (fun hx => absurd (h.lt _ hx) (Nat.lt_irrefl _)) hkT)
  have HF := Lib.hid (show Fr T w (w.alloc (.cells #[.slice ka kn kc] 37)) from .of_below hb)
  clear h hb hat hN hB hkT
  have HE := Lib.hid (show d.crashed (keepB kn t) = { d.settled (keepB kn t) with down := true } from rfl)
  generalize d.crashed (keepB kn t) = dc at HE ⊢
  generalize d.settled (keepB kn t) = ds at HE HC
  go_enter Try.func15, Try.ntmps15
  go_wp2_with fail
  refine HC.out.mono ?_
  rintro e w1 ⟨rfl, T', hd, hf, hT⟩
  obtain ⟨bs, bl, br, a, c, hM⟩ := hd
  obtain ⟨_, c1, _, _, _, _, _, f0⟩ := hM.cells
  have f1 := f0 1
  have HX := Lib.hid (show DkTo w b T N dc (w1.setCell ⟨b, 1, none⟩ (.bool true)) from by
    rw [HE.out]
    exact DkTo.from (w1 := w1) ⟨T', ⟨bs, bl, br, a, c, hM.fallen⟩, (Fr.refl _ _).setCell (.inl hM.own.1) _, fun _ h => .inl h⟩ (HF.out.same hf) fun k hk => (hT k hk).imp id fun h => Nat.le_trans HF.out.size h)
  clear hM hf hT HC HF f0
  go_wp2_with fail
  go_end0
  exact ⟨rfl, HX.out⟩

/-! Of none. -/
theorem nil_size (w : World) : Calls Try.prog 11 #[.pointer none] w fun e w' => e = .returned (.int .i64 0) ∧ Below w.heap.size w w' := by
  go_enter Try.func11, Try.ntmps11
  go_wp2
  go_ret
  exact ⟨rfl, by first | exact Below.refl _ _ | exact (Below.refl _ _).alloc (Nat.le_refl _) _⟩
theorem nil_loose (w : World) : Calls Try.prog 23 #[.pointer none] w fun e w' => e = .returned (.int .i64 0) ∧ Below w.heap.size w w' := by
  go_enter Try.func23, Try.ntmps23
  go_wp2
  go_ret
  exact ⟨rfl, by first | exact Below.refl _ _ | exact (Below.refl _ _).alloc (Nat.le_refl _) _⟩
theorem nil_reads (w : World) (i : Int) : Calls Try.prog 22 #[.pointer none, .int .i64 i] w fun e w' => e = .returned (.int .i64 0) ∧ Below w.heap.size w w' := by
  go_enter Try.func22, Try.ntmps22
  go_wp2
  go_ret
  exact ⟨rfl, by first | exact Below.refl _ _ | exact (Below.refl _ _).alloc (Nat.le_refl _) _⟩
theorem nil_up (w : World) : Calls Try.prog 17 #[.pointer none] w fun e w' => e = .returned (.tuple #[]) ∧ Below w.heap.size w w' := by
  go_enter Try.func17, Try.ntmps17
  go_wp2
  go_end0
  exact ⟨rfl, by first | exact Below.refl _ _ | exact (Below.refl _ _).alloc (Nat.le_refl _) _⟩
theorem nil_fuse (w : World) (i : Int) : Calls Try.prog 18 #[.pointer none, .int .i64 i] w fun e w' => e = .returned (.tuple #[]) ∧ Below w.heap.size w w' := by
  go_enter Try.func18, Try.ntmps18
  go_wp2
  go_end0
  exact ⟨rfl, by first | exact Below.refl _ _ | exact (Below.refl _ _).alloc (Nat.le_refl _) _⟩
theorem nil_crash (w : World) (ka : Option Addr) (kn kc : Nat) : Calls Try.prog 15 #[.pointer none, .slice ka kn kc] w fun e w' => e = .returned (.tuple #[]) ∧ Below w.heap.size w w' := by
  go_enter Try.func15, Try.ntmps15
  go_wp2
  refine bodyPost_ret (results_none rfl _ _ _) rfl ?_
  exact ⟨rfl, by first | exact Below.refl _ _ | exact (Below.refl _ _).alloc (Nat.le_refl _) _⟩
theorem nil_power (w : World) : Calls Try.prog 25 #[.pointer none] w fun e w' => e = .returned (.int .i64 1) ∧ w' = w := by
  go_enter Try.func25, Try.ntmps25
  go_wp2
  go_ret
  exact ⟨rfl, rfl⟩
theorem nil_reach (w : World) (i : Int) : Calls Try.prog 30 #[.pointer none, .int .i64 i] w fun e w' => e = .returned (.int .i64 1) ∧ w' = w := by
  go_enter Try.func30, Try.ntmps30
  go_wp2_with fail
  refine (nil_power w).mono ?_
  rintro e w1 ⟨rfl, rfl⟩
  go_wp2_with fail
  go_ret
  exact ⟨rfl, rfl⟩
theorem nil_sync (w : World) : Calls Try.prog 14 #[.pointer none] w fun e w' => e = .returned (.int .i64 1) ∧ Below w.heap.size w w' := by
  go_enter Try.func14, Try.ntmps14
  go_wp2_with fail
  refine (nil_power w).mono ?_
  rintro e w1 ⟨rfl, rfl⟩
  go_wp2_with fail
  go_ret
  exact ⟨rfl, Below.refl _ _⟩
theorem nil_write (w : World) (i : Int) (P : Array Value) : Calls Try.prog 20 #[.pointer none, .int .i64 i, .agg P] w fun e w' => e = .returned (.int .i64 1) ∧ Below w.heap.size w w' := by
  go_enter Try.func20, Try.ntmps20
  go_wp2_with fail
  refine (nil_reach _ i).mono ?_
  rintro e w1 ⟨rfl, rfl⟩
  go_wp2_with fail
  go_ret
  exact ⟨rfl, (Below.refl _ _).alloc (Nat.le_refl _) _⟩
theorem nil_read (w : World) (i : Int) : Calls Try.prog 21 #[.pointer none, .int .i64 i] w fun e w' => e = .returned (.tuple #[.agg zP, .int .i64 1]) ∧ Below w.heap.size w w' := by
  have hz := zero_page
  have HX := Lib.hid (show Below w.heap.size w ((w.alloc (.cells zP 36)).setRow w.heap.size zP) from by rw [Row.setRow_self (At.new w zP 36)]; exact (Below.refl _ _).alloc (Nat.le_refl _) _)
  have HA := Lib.hid (At.new w zP 36)
  have HA2 := Lib.hid (HA.out.setRow (C := zP))
  go_enter Try.func21, Try.ntmps21
  go_wp2_with fail
  refine (nil_reach _ i).mono ?_
  rintro e w1 ⟨rfl, rfl⟩
  go_wp2_with (first
    | refine wpList_build_parts (by rfl) 36 [] rfl _ rfl built_z ?_
    | refine wpList_store_row rfl 36 _ _ rfl w.heap.size zP rfl rfl _ _ HA.out (info_pag pag_z) rfl pag_z.one ?_)
  exact bodyPost_ret (v := .tuple #[.agg zP, .int .i64 1]) (results_any_int rfl _ _ w.heap.size zP _ rfl rfl HA2.out Try.underlying36 rfl (info_pag pag_z)) rfl ⟨rfl, HX.out⟩
end Go.Proofs.Ytcahdjkmegnbfaa.Dk
