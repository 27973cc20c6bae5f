/- RangGrows: the walk. -/
import Derived.Test.YtnlfbndemajkaaaDoorRgN
import Derived.StillTailTactics
set_option maxRecDepth 100000
set_option linter.unusedVariables false
namespace Go.Proofs.YtnlfbndemajkaaaDoor.Rg
open Go.RowKit Go.Proofs.YtnlfbndemajkaaaDoor.Row

theorem take_snoc (L : List Cl) (k : Nat) (C : Cl) (h : L[k]? = some C) : L.take (k + 1) = L.take k ++ [C] := by
  rw [List.take_add_one, h]; rfl
theorem run_take {L : List Cl} (hL : ∀ C ∈ L, C.ok) (k : Nat) : (St.new.run (L.take k)).ok ∧ (St.new.run (L.take k)).g ≤ 2 * k := by
  have h : ∀ C ∈ L.take k, C.ok := fun C hC => hL C (List.mem_of_mem_take hC)
  refine ⟨run_ok new_ok h, ?_⟩
  have h1 := run_g_le (x := St.new) new_ok h
  have h2 : (L.take k).length ≤ k := List.length_take_le _ _
  have h3 : St.new.g = 0 := rfl
  omega

set_option maxHeartbeats 4000000 in
theorem rangGrows_walk (a0 : Option Addr) (n0 c0 : Nat) (f0 : Nat → Tr) (W : World) (s0 : SlC W a0 n0 c0 f0) :
    Calls Tryd.prog 8 #[.slice a0 n0 c0] W fun e w' => e = .returned (.bool true) ∧ Below W.heap.size W w' := by
  have S0 := Lib.hid s0
  clear s0
  go_enter Tryd.func8, Tryd.ntmps8
  go_wp2_with fail
  refine (awake_yes _).mono ?_
  rintro e w1 ⟨rfl, h1⟩
  have B1 := Lib.hid h1
  clear h1
  go_wp2_with fail
  refine (newEnc_yes 1000 _ (by omega) (by omega)).mono ?_
  intro e w2 h
  obtain ⟨b, rfl, h2⟩ := EncOn.new h
  have E2 := Lib.hid (EncOff.of (EncOn.from B1.out h2) (fun _ => False) (fun _ h => h.elim))
  clear h h2
  go_wp2_with fail
  obtain ⟨L, hL⟩ : ∃ L, cellsOf f0 n0 = L := ⟨_, rfl⟩
  have HL := Lib.hid (hL ▸ cellsOf_ok f0 n0 : ∀ C ∈ L, C.ok)
  have hlen : L.length ≤ 100 := by rw [← hL, cellsOf_length]; omega
  refine (cells_as a0 n0 c0 f0 _ (S0.out.below E2.out.out)).mono ?_
  rw [hL]
  rintro e w3 ⟨a, c, rfl, hC, hB⟩
  have E3 := Lib.hid (E2.out.add (C := Blk a) hB fun k hk => .inr (hC.blk k hk))
  have LS3 := Lib.hid hC.ls
  clear hC hB E2 B1 hL
  go_wp2
  go_loopw [6] (fun i wr => ∃ k : Nat, k ≤ L.length ∧ i = .int .i64 k ∧ EncOff W b 1000 (St.new.run (L.take k)) (Blk a) wr ∧ LsAt wr a L) (fun i _ => 100 - (intOf i).toNat)
  case atStart => exact ⟨0, Nat.zero_le _, rfl, E3.out, LS3.out⟩
  case round =>
    obtain ⟨k, hk, rfl, hE, hLS⟩ := hrel
    have E := Lib.hid hE
    have LS := Lib.hid hLS
    clear hE hLS E3 LS3
    by_cases hlt : k < L.length
    · obtain ⟨g, rfl⟩ := LS.out.1 (by omega)
      obtain ⟨C, hC⟩ : ∃ C, L[k]? = some C := ⟨_, List.getElem?_eq_getElem hlt⟩
      obtain ⟨c0', c1', c2'⟩ := LS.out.2 g rfl k C hC
      have hCok : C.ok := HL.out C (List.mem_of_getElem? hC)
      obtain ⟨o1, o2, o3, o4⟩ := id hCok
      have HCok := Lib.hid hCok
      have HT := Lib.hid (take_snoc L k C hC)
      obtain ⟨x, hx⟩ : ∃ x, St.new.run (L.take k) = x := ⟨_, rfl⟩
      obtain ⟨xok, xg⟩ := run_take HL.out k
      rw [hx] at xok xg E
      have HX := Lib.hid (show x.put C = St.new.run (L.take (k + 1)) by rw [HT.out, run_snoc, hx])
      obtain ⟨u, hu⟩ : ∃ u, x.used = u := ⟨_, rfl⟩
      have HU := Lib.hid hu
      have XOK := Lib.hid xok
      have r2 := xok.2.1
      obtain ⟨CS, hCS⟩ : ∃ z : Int, (C.s : Int) = z := ⟨_, rfl⟩
      obtain ⟨CW, hCW⟩ : ∃ z : Int, (C.w : Int) = z := ⟨_, rfl⟩
      obtain ⟨CT, hCT⟩ : ∃ z : Int, (C.t : Int) = z := ⟨_, rfl⟩
      rw [hCS] at c0'
      rw [hCW] at c1'
      rw [hCT] at c2'
      have HCS := Lib.hid hCS
      have HCW := Lib.hid hCW
      have HCT := Lib.hid hCT
      have HC := Lib.hid hC
      clear hx hu hC hCok xok hCS hCW hCT c0' c1' c2'
      go_wp2_with (go_at_call 13; (with_reducible refine (used_off W _ b 1000 x _ u E.out r2 (by omega) HU.out).mono ?_); rintro e w4 ⟨rfl, h4, hb4⟩; have E4 := Lib.hid h4; have B4 := Lib.hid hb4; clear h4 hb4)
      have LS4 := Lib.hid (LS.out.below B4.out)
      obtain ⟨d0, d1, d2⟩ := LS4.out.2 g rfl k C HC.out
      rw [HCS.out] at d0
      rw [HCW.out] at d1
      rw [HCT.out] at d2
      clear E LS B4
      go_still_tail 16, (by kernel_rfl)
      go_wp2_with (go_at_call 12; (with_reducible refine (put_off W _ b 1000 x _ C CS CW CT (E4.out.below (Below.refl _ _).drew) XOK.out HCok.out HCS.out HCW.out HCT.out (by omega) (by omega)).mono ?_); rintro e w5 ⟨rfl, h5, hk5⟩; have E5 := Lib.hid h5; have LS5 := Lib.hid (LsAt.keep (w := w4.drew) (by exact LS4.out) hk5 (fun _ h => h)); obtain ⟨t0, t1, t2⟩ := LS5.out.2 g rfl k C HC.out; rw [HCW.out] at t1; rw [HCT.out] at t2; clear h5 hk5 t0 d0 d1 d2)
      go_loop [8, 9] (fun s t => ∃ (j T : Nat), s = .int .i64 j ∧ t = .int .i64 T ∧ j + T ≤ 32768 ∧ Hid (C.t ≤ T * 2 ^ j)) (fun _ t => (intOf t).toNat)
      case atStart => exact ⟨0, C.t, rfl, congrArg (Value.int .i64) HCT.out.symm, by omega, Lib.hid (by omega)⟩
      case round =>
        obtain ⟨j, T, rfl, rfl, hjT, HJ⟩ := hrel
        by_cases hT : C.w < T
        · have HJ2 := Lib.hid (half_up HJ.out)
          have hT2 : CW < (T : Int) := by have := HCW.out; omega
          have hT3 : 2 ≤ T := by omega
          clear hT
          go_wp2
          go_round
          case rel => exact ⟨j + 1, (T + 1) / 2, by go_num, by go_num, by omega, HJ2⟩
          case measure => simp [intOf]; omega
        · have HJ3 := Lib.hid (show C.t ≤ C.w * 2 ^ j from Nat.le_trans HJ.out (Nat.mul_le_mul_right _ (by omega)))
          have hT2 : decide (CW < (T : Int)) = false := by have := HCW.out; simp; omega
          have xok2 := put_ok XOK.out HCok.out
          have q2 := xok2.2.1
          have hg2 := put_g XOK.out HCok.out
          have m1 := used_more XOK.out HCok.out
          have m2 := used_share XOK.out HCok.out HJ3.out
          have m3 := used_nonneg XOK.out
          have m4 : (x.put C).used ≤ 2000 := by unfold St.used; omega
          have m5 : x.used ≤ 2000 := by unfold St.used; omega
          rw [HU.out] at m5
          obtain ⟨v, hv⟩ : ∃ v, (x.put C).used = v := ⟨_, rfl⟩
          rw [HU.out, hv] at m1 m2
          rw [HU.out] at m3
          rw [hv] at m4
          have HV := Lib.hid hv
          have p1 : decide (v < u) = false := by simp; omega
          have p2 : decide (u + (j : Int) + 2 < v) = false := by simp; omega
          clear hT hv
          go_wp2_with fail
          refine (used_off W _ b 1000 (x.put C) _ v E5.out q2 (by omega) HV.out).mono ?_
          rintro e w6 ⟨rfl, h6, hb6⟩
          have E6 := Lib.hid h6
          have B6 := Lib.hid hb6
          clear h6 hb6
          go_wp2_with fail
          refine (used_off W _ b 1000 (x.put C) _ v E6.out q2 (by omega) HV.out).mono ?_
          rintro e w7 ⟨rfl, h7, hb7⟩
          have E7 := Lib.hid h7
          have LS7 := Lib.hid ((LS5.out.below B6.out).below hb7)
          clear h7 hb7 m1 m2 xok2
          go_wp2
          go_roundw
          case rel => exact ⟨k + 1, by omega, by go_num, by rw [← HX.out]; exact E7.out, LS7.out⟩
          case measure => simp [intOf]; omega
    · obtain rfl : k = L.length := by omega
      go_wp2
      go_ret
      exact ⟨rfl, E.out.out⟩
end Go.Proofs.YtnlfbndemajkaaaDoor.Rg
