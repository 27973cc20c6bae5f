/- LaplBack: the walk. -/
import Derived.Test.YtidbagkkkpfkbaaDoorLpF
import Derived.Test.YtidbagkkkpfkbaaDoorSl0
set_option maxRecDepth 100000
set_option linter.unusedVariables false
namespace Go.Proofs.YtidbagkkkpfkbaaDoor.Lp
open Go.RowKit Go.Proofs.YtidbagkkkpfkbaaDoor.Row Go.Proofs.YtidbagkkkpfkbaaDoor.Rg

theorem laplBack_long (a0 : Option Addr) (n0 c0 : Nat) (f0 : Nat → Int) (W : World) (s0 : Sl .i8 W a0 n0 c0 f0) (h : 100 < n0) :
    Calls Tryd.prog 3 #[.slice a0 n0 c0] W fun e w' => e = .returned (.bool true) ∧ Below W.heap.size W w' := by
  have hm : n0 ≤ maxLen := Nat.le_trans s0.1 s0.2.1
  unfold maxLen at hm
  clear s0
  go_enter Tryd.func3, Tryd.ntmps3
  go_wp2_with fail
  refine (awake_yes _).mono ?_
  rintro e w1 ⟨rfl, h1⟩
  have B1 := Lib.hid h1
  clear h1
  go_wp2_with fail
  refine (awake_yes _).mono ?_
  rintro e w2 ⟨rfl, h2⟩
  have B2 := Lib.hid h2
  clear h2
  go_wp2
  go_ret
  exact ⟨rfl, below_trans B1.out B2.out B1.out.size⟩

/-- A cell of the slice, in a world that goes on. -/
theorem slice_cell {k : IntKind} {W w : World} {g o n c i : Nat} {f : Nat → Int} (h : ∀ i, i < n → W.cell? ⟨g, o + i, none⟩ = some (.int k (f i))) (hb : Below W.heap.size W w) (hi : i < n) : w.cell? ⟨g, o + i, none⟩ = some (.int k (f i)) :=
  (Below.cell hb (block_lt_of_cell (h i hi))).trans (h i hi)

set_option maxHeartbeats 4000000 in
theorem laplBack_walk (a0 : Option Addr) (n0 c0 : Nat) (f0 : Nat → Int) (W : World) (s0 : Sl .i8 W a0 n0 c0 f0) (hw : ∀ i, i < n0 → (Lit.int .i8 (f0 i)).wf = true) :
    Calls Tryd.prog 3 #[.slice a0 n0 c0] W fun e w' => e = .returned (.bool true) ∧ Below W.heap.size W w' := by
  by_cases h100 : 100 < n0
  · exact laplBack_long a0 n0 c0 f0 W s0 h100
  have h100' : decide (100 < (n0 : Int)) = false := by simp; omega
  have hn0 : n0 ≤ 100 := by omega
  have S0 := Lib.hid s0
  have HW := Lib.hid (show ∀ i, i < n0 → -128 ≤ f0 i ∧ f0 i ≤ 127 from fun i hi => by simpa [Lit.wf, IntKind.min, IntKind.max, IntKind.bits, IntKind.signed] using hw i hi)
  obtain ⟨L, hL⟩ : ∃ L, LC f0 n0 = L := ⟨_, rfl⟩
  have HL := Lib.hid hL
  have HOK := Lib.hid (show ∀ C ∈ L, C.ok from hL ▸ LC_ok f0 n0)
  have HLEN := Lib.hid (show L.length = n0 from hL ▸ LC_length f0 n0)
  clear s0 hw hL h100
  go_enter Tryd.func3, Tryd.ntmps3
  go_wp2_with fail
  refine (awake_yes _).mono ?_
  rintro e w1 ⟨rfl, h1⟩
  have B1 := Lib.hid h1
  clear h1
  go_wp2_with fail
  refine (newEnc_yes 1000 _ (by omega) (by omega)).mono ?_
  intro e w2 h
  obtain ⟨b, rfl, h2⟩ := EncOn.new h
  have E2 := Lib.hid (EncOn.from B1.out h2)
  clear h h2 B1
  go_wp2
  go_loopw [5, 6] (fun c i wr => ∃ k K : Nat, k ≤ n0 ∧ i = .int .i64 k ∧ c = .int .i64 K ∧ K ≤ 16 * k ∧ Hid (bud f0 k = K) ∧ Hid (EncOn W b 1000 (St.new.run (L.take k)) wr)) (fun _ i _ => 1000 - (intOf i).toNat)
  case atStart => exact ⟨0, 0, Nat.zero_le _, rfl, rfl, by omega, Lib.hid rfl, E2⟩
  case round =>
    obtain ⟨k, K, hk, rfl, rfl, hK, HK, E⟩ := hrel
    clear E2
    by_cases hlt : k < n0
    · obtain ⟨g, o, rfl, hc⟩ := S0.out.2.2 (by omega)
      have d0 := slice_cell (c := c0) hc (EncOn.bel E.out) hlt
      obtain ⟨y1, y2⟩ := HW.out k hlt
      obtain ⟨t1, t2⟩ := tm_bd f0 k
      obtain ⟨xok, xg⟩ := run_take HOK.out k
      have hC := HL.out ▸ LC_at f0 hlt
      have HX := Lib.hid (show (St.new.run (L.take k)).put (cl (tm f0 k)) = St.new.run (L.take (k + 1)) by rw [take_snoc _ _ _ hC, run_snoc])
      obtain ⟨x, hx⟩ : ∃ x, St.new.run (L.take k) = x := ⟨_, rfl⟩
      rw [hx] at xok xg E HX
      have XOK := Lib.hid xok
      obtain ⟨y, hy⟩ : ∃ y, f0 k = y := ⟨_, rfl⟩
      rw [hy] at y1 y2 d0
      obtain ⟨t, ht⟩ : ∃ t, tm f0 k = t := ⟨_, rfl⟩
      rw [ht] at t1 t2 HX
      have hyt : y.tmod 25 = t := by rw [← ht, ← hy]; rfl
      have z1 : -24 ≤ y.tmod 25 := by omega
      have z2 : y.tmod 25 ≤ 24 := by omega
      have HT := Lib.hid hyt
      obtain ⟨J, hJ⟩ : ∃ J, cC t = J := ⟨_, rfl⟩
      have hJ2 : J ≤ 15 := hJ ▸ cC_le ⟨t1, t2⟩
      have HJ := Lib.hid hJ
      have HN := Lib.hid (show bud f0 (k + 1) = K + J + 1 by show bud f0 k + cC (tm f0 k) + 1 = _; rw [HK.out, ht, hJ])
      clear hc hC hx hy ht xok hJ HK hyt
      go_wp2_with fail
      rw [HT.out]
      with_reducible refine (lput_on W _ b 1000 x t E.out XOK.out ⟨t1, t2⟩ (by omega) (by omega)).mono ?_
      rintro e w3 ⟨rfl, h3⟩
      rw [HX.out] at h3
      have E3 := Lib.hid h3
      clear h3 E
      go_wp2_with fail
      refine (cost_yes t J _ ⟨t1, t2⟩ (congrArg Nat.cast HJ.out)).mono ?_
      rintro e w4 ⟨rfl, h4⟩
      have E4 := Lib.hid (E3.out.below h4)
      clear h4 E3 d0
      go_wp2
      go_roundw
      case rel => exact ⟨k + 1, K + J + 1, by omega, by go_num, by go_num, by omega, HN, E4⟩
      case measure => simp [intOf]; omega
    · obtain rfl : k = n0 := by omega
      have hXX : St.new.run (L.take k) = St.new.run L := by
        have : L.take k = L := List.take_of_length_le (Nat.le_of_eq HLEN.out)
        rw [this]
      obtain ⟨xok, xg⟩ := run_take HOK.out k
      have hfit : Fits (St.new.run (L.take k)) (bud f0 k + 1) := HL.out ▸ fits_all f0 k k (Nat.le_refl _)
      rw [hXX] at xok xg hfit E
      obtain ⟨X, hX⟩ : ∃ X, St.new.run L = X := ⟨_, rfl⟩
      rw [hX] at xok xg hfit E
      have hus := fits_used xok hfit
      rw [HK.out] at hus
      obtain ⟨u, hu⟩ : ∃ u, X.used = u := ⟨_, rfl⟩
      rw [hu] at hus
      have HU := Lib.hid hu
      have utest : decide ((K : Int) + 2 < u) = false := decide_eq_false (by omega)
      have q2 := xok.2.1
      have tl := trim_len X
      have tfit : X.trim.length ≤ 1000 := by omega
      obtain ⟨t, ht⟩ : ∃ t, X.text 1000 = t := ⟨_, rfl⟩
      obtain ⟨tb, htb⟩ : ∃ tb : ByteArray, ⟨t.toArray⟩ = tb := ⟨_, rfl⟩
      have htlen : t.length = 1000 := by rw [← ht]; exact text_length tfit
      have htsz : tb.size = 1000 := by rw [← htb, Lib.size_mk, htlen]
      have HTB := Lib.hid htb
      have HO1 := Lib.hid (show (⟨(X.out 1000).toArray⟩ : ByteArray) = tb by unfold St.out; rw [if_pos tfit, ht, htb])
      have HO2 := Lib.hid (show X.err 1000 = 0 by unfold St.err; rw [if_pos tfit])
      have HBF := Lib.hid (show byteF t = digit X.L X.g by rw [← ht]; exact text_digit X 1000)
      have HIN := Lib.hid (fun j => (hX ▸ in_take HOK.out j : In X.L X.g (St.new.run (L.take j))))
      have HFIT := Lib.hid (show X.L < 4294967296 * 256 ^ X.g by have := xok.2.2; omega)
      have HXX := Lib.hid (show St.new.run (L.take k) = X by rw [hXX, hX])
      clear hXX hX ht htb tl tfit hu hfit hus HK HLEN xok
      go_wp2_with fail
      refine (used_on W _ b 1000 X u E.out q2 (by omega) HU.out).mono ?_
      rintro e w5 ⟨rfl, h5⟩
      have E5 := Lib.hid h5
      clear h5 E
      go_wp2_with fail
      refine (done_on W _ b 1000 X tb 0 E5.out (by omega) HO1.out HO2.out).mono ?_
      rintro e w6 ⟨rfl, h6⟩
      obtain ⟨TE0, hE0, hT0, hB6⟩ := h6
      obtain ⟨TE, hE, hTE⟩ := hE0.tight
      have E6 := Lib.hid hE
      have T6 := Lib.hid (show ∀ i, TE i → i < w6.heap.size from fun i hi => (hTE i hi).2)
      have B6 := Lib.hid hB6
      clear hE0 hT0 hB6 hE hTE E5 HO1 HO2
      go_wp2_with fail
      refine (newDec_as tb t _ HTB.out (by omega)).mono ?_
      rintro e w7 ⟨bd, T, rfl, hD7, hT7, hb7⟩
      rw [HBF.out, dt_first HFIT.out] at hD7
      have HT7 := Lib.hid (show ∀ i, T i → W.heap.size ≤ i ∧ ¬ TE i from fun i hi => by
        have h1 := hT7 i hi
        have h2 := B6.out.size
        exact ⟨by omega, fun hb => by have := T6.out i hb; omega⟩)
      have H7 := Lib.hid (⟨hD7, E6.out.below hb7, below_trans B6.out hb7 B6.out.size⟩ : DecIs w7 bd T t (dtOf X.L X.g St.new) ∧ EncIs w7 b TE 1000 X ∧ Below W.heap.size W w7)
      clear hD7 hT7 hb7 E6 T6 B6 HTB HFIT
      go_wp2
      go_loopw [11] (fun i wr => ∃ j : Nat, j ≤ k ∧ i = .int .i64 j ∧ Hid (DecIs wr bd T t (dtOf X.L X.g (St.new.run (L.take j))) ∧ EncIs wr b TE 1000 X ∧ Below W.heap.size W wr)) (fun i _ => 1000 - (intOf i).toNat)
      case atStart => exact ⟨0, Nat.zero_le _, rfl, H7⟩
      case round =>
        obtain ⟨j, hj, rfl, H⟩ := hrel
        clear H7
        by_cases hjt : j < k
        · obtain ⟨g, o, rfl, hc⟩ := S0.out.2.2 (by omega)
          have HCL := Lib.hid hc
          obtain ⟨t1, t2⟩ := tm_bd f0 j
          obtain ⟨yok, yg⟩ := run_take HOK.out j
          have hC := HL.out ▸ LC_at f0 hjt
          have hS := take_snoc _ _ _ hC
          have hin := HIN.out j
          have hin2 := HIN.out (j + 1)
          rw [hS, run_snoc] at hin2
          obtain ⟨x, hx⟩ : ∃ x, St.new.run (L.take j) = x := ⟨_, rfl⟩
          have HY := Lib.hid (show x.put (cl (tm f0 j)) = St.new.run (L.take (j + 1)) by rw [hS, run_snoc, hx])
          rw [hx] at yok yg hin hin2 H
          have hCok := cl_ok t1 t2
          obtain ⟨i1, i2, i3⟩ := in_step yok hCok hin2
          have hV : lv (dtOf X.L X.g x) = tm f0 j := by
            unfold lv
            have e : fI ((dtOf X.L X.g x).place 32768) = iV (tm f0 j) := fI_eq (iV_lt.2 ⟨t1, t2⟩) i1 i2
            rw [e, vI_iV]
          have DOK := Lib.hid (dtOf_ok yok hin)
          obtain ⟨y, hy⟩ : ∃ y, f0 j = y := ⟨_, rfl⟩
          obtain ⟨y1, y2⟩ := HW.out j hjt
          rw [hy] at y1 y2
          have HYJ := Lib.hid hy
          obtain ⟨v, hv⟩ : ∃ v, tm f0 j = v := ⟨_, rfl⟩
          have htm : y.tmod 25 = v := by rw [← hv, ← hy]; rfl
          rw [hv] at t1 t2 i3 hV HY
          have z1 : -24 ≤ y.tmod 25 := by omega
          have z2 : y.tmod 25 ≤ 24 := by omega
          have hne : (v != y.tmod 25) = false := by rw [htm]; simp
          have HV := Lib.hid hV
          have HI3 := Lib.hid (show (dtOf X.L X.g x).take (byteF t) (cl v) = dtOf X.L X.g (St.new.run (L.take (j + 1))) by rw [HBF.out, i3, HY.out])
          have hgy : (dtOf X.L X.g x).g ≤ 100000 := by show x.g ≤ _; omega
          clear hc hC hS hin hin2 hx hCok i1 i2 i3 hV hy hv htm yok
          go_wp2_with fail
          refine (ltake_as _ bd T t (dtOf X.L X.g x) v H.out.1 DOK.out HV.out hgy (by omega)).mono ?_
          rw [HI3.out]
          rintro e w8 ⟨rfl, h8, hF8⟩
          have H8 := Lib.hid (⟨h8, H.out.2.1.fr hF8 (fun i h1 h2 => (HT7.out i h2).2 h1), H.out.2.2.trans (hF8.below (B := W.heap.size) H.out.2.2.size fun i hi => (HT7.out i hi).1)⟩ : DecIs w8 bd T t (dtOf X.L X.g (St.new.run (L.take (j + 1)))) ∧ EncIs w8 b TE 1000 X ∧ Below W.heap.size W w8)
          have d0 := slice_cell (c := c0) HCL.out H8.out.2.2 hjt
          rw [HYJ.out] at d0
          clear h8 hF8 H
          go_wp2
          go_roundw
          case rel => exact ⟨j + 1, by omega, by go_num, H8⟩
          case measure => simp [intOf]; omega
        · obtain rfl : j = k := by omega
          have hD := H.out.1
          rw [HXX.out] at hD
          have D := Lib.hid hD
          have hin := HIN.out j
          rw [HXX.out] at hin
          obtain ⟨xok, _⟩ := run_take HOK.out j
          rw [HXX.out] at xok
          have DOK := Lib.hid (dtOf_ok xok hin)
          have unn : (u == u) = true := by simp
          clear hD hin xok
          go_wp2_with fail
          refine (decUsed_as _ bd T t (dtOf X.L X.g X) u D.out DOK.out (by show X.g ≤ _; omega) HU.out).mono ?_
          rintro e w8 ⟨rfl, h8⟩
          have E8 := Lib.hid (H.out.2.1.below h8)
          have B8 := Lib.hid (below_trans H.out.2.2 h8 H.out.2.2.size)
          clear h8 D H
          go_wp2_with fail
          refine (encUsed_as _ b TE 1000 X u E8.out q2 (by omega) HU.out).mono ?_
          rintro e w9 ⟨rfl, h9⟩
          have B9 := Lib.hid (below_trans B8.out h9 B8.out.size)
          clear h9 B8 E8
          go_wp2
          go_ret
          exact ⟨rfl, B9.out⟩
end Go.Proofs.YtidbagkkkpfkbaaDoor.Lp
