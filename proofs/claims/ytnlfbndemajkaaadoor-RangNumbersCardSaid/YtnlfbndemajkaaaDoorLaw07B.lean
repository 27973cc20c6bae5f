/- RangZeros: the walk. -/
import Derived.Test.YtnlfbndemajkaaaDoorLaw07A
set_option maxRecDepth 100000
set_option linter.unusedVariables false
namespace Go.Proofs.YtnlfbndemajkaaaDoor.Rg
open Go.RowKit Go.Proofs.YtnlfbndemajkaaaDoor.Row

theorem DecIs.tight {w : World} {b : Nat} {T : Nat → Prop} {s : List UInt8} {d : Dt} (h : DecIs w b T s d) : ∃ T0, DecIs w b T0 s d ∧ ∀ k, T0 k → T k ∧ k < w.heap.size := by
  obtain ⟨h1, tb, h2, h3, h4, h5⟩ := h
  refine ⟨fun k => k = b ∨ k = tb, ⟨.inl rfl, tb, h2, .inr rfl, h4, h5⟩, fun k hk => ?_⟩
  rcases hk with rfl | rfl
  · exact ⟨h1, h4.lt⟩
  · exact ⟨h3, h5.lt⟩

/-- Two decoders, and the cells, of a law that began in w. -/
def Two (w : World) (p q : Value) (s1 s2 : List UInt8) (d : Dt) (a : Option Addr) (L : List Cl) (w' : World) : Prop :=
  ∃ b1 b2 T1 T2, p = .pointer (some ⟨b1, 0, none⟩) ∧ q = .pointer (some ⟨b2, 0, none⟩) ∧ DecIs w' b1 T1 s1 d ∧ DecIs w' b2 T2 s2 d ∧
    (∀ k, T1 k → w.heap.size ≤ k ∧ ¬ T2 k ∧ ¬ Blk a k) ∧ (∀ k, T2 k → w.heap.size ≤ k ∧ ¬ Blk a k) ∧ Below w.heap.size w w' ∧ LsAt w' a L

theorem LsAt.fr {w w' : World} {a : Option Addr} {L : List Cl} {T : Nat → Prop} (h : LsAt w a L) (hF : Fr T w w') (hT : ∀ k, T k → ¬ Blk a k) : LsAt w' a L := by
  refine ⟨h.1, fun g e i C hi => ?_⟩
  obtain ⟨h1, h2, h3⟩ := h.2 g e i C hi
  exact ⟨hF.cell h1 fun ht => hT g ht e, hF.cell h2 fun ht => hT g ht e, hF.cell h3 fun ht => hT g ht e⟩

theorem byteF_zeros (s : List UInt8) (n : Nat) : byteF (s ++ List.replicate n 0) = byteF s := by
  funext i
  unfold byteF
  congr 1
  simp only [List.getD_eq_getElem?_getD]
  by_cases hi : i < s.length
  · rw [List.getElem?_append_left hi]
  · rw [List.getElem?_append_right (by omega), List.getElem?_eq_none (l := s) (by omega), List.getElem?_replicate]
    split <;> rfl

theorem owns_zeros {w : World} {g n : Nat} (h : At w g (Array.replicate n (.int .u8 0)) 5) (hn : n ≤ 1000) : w.ownsRow 0 5 1 (.slice (some ⟨g, 0, none⟩) (List.replicate n (0 : UInt8)).length n) (List.replicate n (0 : UInt8)).length (Lib.byteCells (List.replicate n 0)) := by
  have el : (List.replicate n (0 : UInt8)).length = n := by simp
  rw [el]
  refine ⟨by unfold Lib.byteCells; simp, .inr ⟨g, n, _, rfl, Nat.zero_le _, h, Nat.le_refl _, by unfold maxLen; omega, by simp, ?_⟩⟩
  unfold Lib.byteCells
  simp
theorem conv_zeros {w : World} {g n : Nat} (h : At w g (Array.replicate n (.int .u8 0)) 5) (hn : n ≤ 1000) :
    (convert 42 9 (.slice (some ⟨g, 0, none⟩) n n)).run Tryd.prog w = .ok (.string ⟨(List.replicate n (0 : UInt8)).toArray⟩) w := by
  have := run_string (owns_zeros h hn)
  rwa [show (List.replicate n (0 : UInt8)).length = n by simp] at this
theorem make_zeros (n : Nat) (hn : n ≤ 1000) (w : World) :
    (Instr.makeSlice 42 (.int .u8 (n : Int)) (.int .u8 (n : Int))).run Tryd.prog w = .ok (.slice (some ⟨w.heap.size, 0, none⟩) n n) (w.alloc (.cells (Array.replicate n (.int .u8 0)) 5)) := by
  obtain ⟨i, hi, hz, hs, hb⟩ := info_u8
  have h := run_make (P := Tryd.prog) w 42 5 i (.int .u8 0) Tryd.underlying42 hi hz .u8 .u8 (n : Int) (n : Int) (by omega) (by omega) (by rw [hb]; omega) (by omega)
  have e : madeCells (Value.int .u8 0).cells (((n : Nat) : Int).toNat * i.size) = Array.replicate n (.int .u8 0) := by
    rw [hs, Nat.mul_one, Int.toNat_natCast]
    show madeCells #[.int .u8 0] n = _
    apply Array.ext_getElem?
    intro j
    unfold madeCells
    by_cases hj : j < n
    · simp [hj, Nat.mod_one]
    · simp [hj]
  rw [e] at h
  simpa using h

theorem below_of_drew {w w' : World} (h : Below w.drew.heap.size w.drew w') : Below w.heap.size w w' := ⟨h.os, h.tape, h.output, h.size, h.block⟩
theorem below_of_alloc {w w' : World} {o : Obj} (h : Below (w.alloc o).heap.size (w.alloc o) w') : Below w.heap.size w w' :=
  ((Below.refl _ _).alloc (Nat.le_refl _) _).trans (h.mono (by simp))

/-- The first of the two decoders, made. -/
def OneD (w2 : World) (b : Nat) (T : Nat → Prop) (s : List UInt8) (w3 : World) : Prop := DecIs w3 b T s (Dt.new (byteF s)) ∧ (∀ k, T k → w2.heap.size ≤ k ∧ k < w3.heap.size) ∧ Below w2.heap.size w2 w3
theorem two_of {w w2 w3 w4 : World} {b b' : Nat} {T T' : Nat → Prop} {s s2 : List UInt8} {a : Option Addr} {L : List Cl} (h1 : OneD w2 b T s w3) (hD' : DecIs w4 b' T' s2 (Dt.new (byteF s2))) (hT' : ∀ k, T' k → w3.heap.size ≤ k) (hb : Below w3.heap.size w3 w4)
    (hs : byteF s2 = byteF s) (hw : Below w.heap.size w w2) (hl : LsAt w2 a L) (hk : ∀ k, Blk a k → k < w2.heap.size) : Two w (.pointer (some ⟨b, 0, none⟩)) (.pointer (some ⟨b', 0, none⟩)) s s2 (Dt.new (byteF s)) a L w4 := by
  obtain ⟨h2, h3, h4⟩ := h1
  have e1 := hw.size
  have e2 := h4.size
  refine ⟨b, b', T, T', rfl, rfl, h2.below hb, hs ▸ hD', fun k hk' => ⟨?_, fun ht => ?_, fun hbk => ?_⟩, fun k hk' => ⟨?_, fun hbk => ?_⟩, below_trans (below_trans hw h4 e1) hb (Nat.le_trans e1 e2), (hl.below h4).below hb⟩
  · have := h3 k hk'; omega
  · have := h3 k hk'; have := hT' k ht; omega
  · have := h3 k hk'; have := hk k hbk; omega
  · have := hT' k hk'; omega
  · have := hT' k hk'; have := hk k hbk; omega

set_option maxHeartbeats 4000000 in
theorem rangZeros_walk (B : ByteArray) (a1 : Option Addr) (n1 c1 : Nat) (f1 : Nat → Tr) (n : Nat) (W : World) (hB : B.size ≤ maxLen) (s1 : SlC W a1 n1 c1 f1) (hn : n ≤ 255) :
    Calls Tryd.prog 7 #[.string B, .slice a1 n1 c1, .int .u8 n] W fun e w' => e = .returned (.bool true) ∧ Below W.heap.size W w' := by
  have S1 := Lib.hid s1
  unfold maxLen at hB
  clear s1
  by_cases h500 : 500 < B.size
  · go_enter Tryd.func7, Tryd.ntmps7
    go_wp2_with fail
    refine (awake_yes _).mono ?_
    rintro e w1 ⟨rfl, h1⟩
    have B1 := Lib.hid h1
    clear h1
    go_wp2_with fail
    refine (awake_yes _).mono ?_
    rintro e w2 ⟨rfl, h2⟩
    have B2 := Lib.hid h2
    clear h2
    go_wp2
    go_ret
    exact ⟨rfl, below_trans B1.out B2.out B1.out.size⟩
  · have hB5 : B.size ≤ 500 := by omega
    have h500' : decide (500 < (B.size : Int)) = false := by simp; omega
    obtain ⟨s, hs⟩ : ∃ s : List UInt8, s = B.data.toList := ⟨_, rfl⟩
    have hsB : (⟨s.toArray⟩ : ByteArray) = B := by rw [hs]
    have hsl : s.length ≤ 500 := by rw [hs, ← Lib.size_eq]; exact hB5
    obtain ⟨Z, hZ⟩ : ∃ Z : ByteArray, ⟨(List.replicate n (0 : UInt8)).toArray⟩ = Z := ⟨_, rfl⟩
    obtain ⟨B2, hB2⟩ : ∃ B2 : ByteArray, ⟨(s ++ List.replicate n (0 : UInt8)).toArray⟩ = B2 := ⟨_, rfl⟩
    have hadd : ∀ W, (Op.stringOp .add B Z).run Tryd.prog W = .ok (.string B2) W := fun W => by
      rw [← hsB, ← hZ, ← hB2]
      exact run_string_add_lists W _ _ (by omega) (by simp; omega)
    have hmk := make_zeros n (by omega)
    have HB1 := Lib.hid hsB
    have HB2 := Lib.hid hB2
    have HZ := Lib.hid hZ
    clear hs hsB hB2 hZ h500
    go_enter Tryd.func7, Tryd.ntmps7
    go_wp2_with fail
    refine (awake_yes _).mono ?_
    rintro e w1 ⟨rfl, h1⟩
    have BW1 := Lib.hid h1
    clear h1
    go_wp2_with fail
    obtain ⟨L, hL⟩ : ∃ L, cellsOf f1 n1 = L := ⟨_, rfl⟩
    have HL := Lib.hid (hL ▸ cellsOf_ok f1 n1 : ∀ C ∈ L, C.ok)
    have hlen : L.length ≤ 100 := by rw [← hL, cellsOf_length]; omega
    refine (cells_as a1 n1 c1 f1 _ (S1.out.below BW1.out)).mono ?_
    rw [hL]
    rintro e w2 ⟨a, c, rfl, hC, hb2⟩
    have LS2 := Lib.hid hC.ls
    have BL2 := Lib.hid hC.blk
    have BW2 := Lib.hid (below_trans BW1.out hb2 BW1.out.size)
    clear hC hb2 hL
    go_upto_region 4 with fail
    go_cut [8, 9] (fun p q wx => Two W p q s (s ++ List.replicate n 0) (Dt.new (byteF s)) a L wx)
    case first =>
      have hcv0 : (convert 42 9 (.slice (some ⟨w2.heap.size, 0, none⟩) n n)).run Tryd.prog (w2.alloc (.cells (Array.replicate n (.int .u8 0)) 5)).drew = .ok (.string Z) (w2.alloc (.cells (Array.replicate n (.int .u8 0)) 5)).drew := by
        rw [← HZ.out]; exact conv_zeros (w := (w2.alloc (.cells (Array.replicate n (.int .u8 0)) 5)).drew) (At.new w2 _ _) (by omega)
      go_region_with ((go_at_call 15; first
        | ((with_reducible refine (newDec_as B s _ HB1.out (by omega)).mono ?_); rintro e w3 ⟨b, T, rfl, hD, hT, hb⟩
           have hO : ∃ T0, OneD w2 b T0 s w3 := by
             obtain ⟨T0, h4, h5⟩ := hD.tight
             first
               | exact ⟨T0, h4, fun k hk => ⟨hT k (h5 k hk).1, (h5 k hk).2⟩, below_of_drew hb⟩
               | exact ⟨T0, h4, fun k hk => ⟨by have := hT k (h5 k hk).1; simp at this; omega, (h5 k hk).2⟩, below_of_alloc (below_of_drew hb)⟩
           obtain ⟨T0, hO⟩ := hO
           have O1 := Lib.hid hO
           have hcvA : (convert 42 9 (.slice (some ⟨w3.heap.size, 0, none⟩) n n)).run Tryd.prog (w3.alloc (.cells (Array.replicate n (.int .u8 0)) 5)) = .ok (.string Z) (w3.alloc (.cells (Array.replicate n (.int .u8 0)) 5)) := by
             rw [← HZ.out]; exact conv_zeros (At.new w3 _ _) (by omega)
           have hcvB : ∀ (g : Nat), At w3 g (Array.replicate n (.int .u8 0)) 5 → (convert 42 9 (.slice (some ⟨g, 0, none⟩) n n)).run Tryd.prog w3 = .ok (.string Z) w3 := fun g hg => by rw [← HZ.out]; exact conv_zeros hg (by omega)
           first
             | (have hcvC := hcvB w2.heap.size (At.below (show At (w2.alloc (.cells (Array.replicate n (.int .u8 0)) 5)).drew w2.heap.size (Array.replicate n (.int .u8 0)) 5 from At.new w2 _ _) hb (by simp)); clear hcvB)
             | clear hcvB
           clear hD hT hb hO)
        | ((with_reducible refine (newDec_as B2 (s ++ List.replicate n 0) _ HB2.out (by simp; omega)).mono ?_); rintro e w4 ⟨b', T', rfl, hD', hT', hb'⟩
           have hF : Two W (.pointer (some ⟨b, 0, none⟩)) (.pointer (some ⟨b', 0, none⟩)) s (s ++ List.replicate n 0) (Dt.new (byteF s)) a L w4 := by
             first
               | exact two_of O1.out hD' hT' hb' (byteF_zeros s n) BW2.out LS2.out (fun k hk => (BL2.out k hk).2)
               | exact two_of O1.out hD' (fun k hk => by have := hT' k hk; simp at this; omega) (below_of_alloc hb') (byteF_zeros s n) BW2.out LS2.out (fun k hk => (BL2.out k hk).2)
           have F := Lib.hid hF
           clear hD' hT' hb' hF)))
      all_goals
        go_wp2
        go_meet
        exact F.out
    case rest =>
      obtain ⟨b1, b2, T1, T2, rfl, rfl, hD1, hD2, hT1, hT2, hbw, hls⟩ := hcut
      have H0 := Lib.hid (⟨hD1, hD2, hbw, hls⟩ : DecIs wc b1 T1 s (Dt.new (byteF s)) ∧ DecIs wc b2 T2 (s ++ List.replicate n 0) (Dt.new (byteF s)) ∧ Below W.heap.size W wc ∧ LsAt wc a L)
      have HT1 := Lib.hid hT1
      have HT2 := Lib.hid hT2
      have HBF := Lib.hid (byteF_zeros s n)
      have hsl2 : (s ++ List.replicate n (0 : UInt8)).length ≤ 9223372036854775800 := by simp; omega
      clear hD1 hD2 hbw hls hT1 hT2 LS2 BL2 BW2 BW1 hadd hmk HZ HB2 HB1
      go_wp2
      go_loopw [10] (fun i wr => ∃ (k : Nat) (d : Dt), k ≤ L.length ∧ i = .int .i64 k ∧ d.ok ∧ d.g ≤ 2 * k ∧ DecIs wr b1 T1 s d ∧ DecIs wr b2 T2 (s ++ List.replicate n 0) d ∧ Below W.heap.size W wr ∧ LsAt wr a L) (fun i _ => 100 - (intOf i).toNat)
      case atStart => exact ⟨0, _, Nat.zero_le _, rfl, new_dt _, Nat.zero_le _, H0.out⟩
      case round =>
        obtain ⟨k, d, hk, rfl, hd, hdg, hD1, hD2, hbw, hls⟩ := hrel
        have D1 := Lib.hid hD1
        have D2 := Lib.hid hD2
        have BW := Lib.hid hbw
        have LS := Lib.hid hls
        clear hD1 hD2 hbw hls H0
        by_cases hlt : k < L.length
        · obtain ⟨g, rfl⟩ := LS.out.1 (by omega)
          obtain ⟨C, hC⟩ : ∃ C, L[k]? = some C := ⟨_, List.getElem?_eq_getElem hlt⟩
          obtain ⟨c0', c1', c2'⟩ := LS.out.2 g rfl k C hC
          have hCok : C.ok := HL.out C (List.mem_of_getElem? hC)
          obtain ⟨o1, o2, o3, o4⟩ := id hCok
          have HCok := Lib.hid hCok
          have HC := Lib.hid hC
          have HD := Lib.hid hd
          obtain ⟨p, hp⟩ : ∃ p, d.place C.t = p := ⟨_, rfl⟩
          have hpl : p < C.t := by rw [← hp]; exact place_lt d o1
          have HP := Lib.hid hp
          obtain ⟨CS, hCS⟩ : ∃ z : Int, (C.s : Int) = z := ⟨_, rfl⟩
          obtain ⟨CW, hCW⟩ : ∃ z : Int, (C.w : Int) = z := ⟨_, rfl⟩
          obtain ⟨CT, hCT⟩ : ∃ z : Int, (C.t : Int) = z := ⟨_, rfl⟩
          obtain ⟨P, hPP⟩ : ∃ z : Int, (p : Int) = z := ⟨_, rfl⟩
          have P0 : 0 ≤ P := by omega
          have P1 : P < CT := by omega
          rw [hCS] at c0'
          rw [hCW] at c1'
          rw [hCT] at c2'
          have HCS := Lib.hid hCS
          have HCW := Lib.hid hCW
          have HCT := Lib.hid hCT
          have HPP := Lib.hid hPP
          clear hC hCok hd hp hCS hCW hCT hPP hpl
          go_wp2_with fail
          refine (at_at _ b1 T1 s d CT C.t p D1.out HD.out HCT.out o1 o2 HP.out).mono ?_
          rw [HPP.out]
          rintro e w4 ⟨rfl, h4⟩
          have LS4 := Lib.hid (LS.out.below h4)
          have D14 := Lib.hid (D1.out.below h4)
          have D24 := Lib.hid (D2.out.below h4)
          have BW4 := Lib.hid (below_trans BW.out h4 BW.out.size)
          obtain ⟨d0, d1, d2⟩ := LS4.out.2 g rfl k C HC.out
          rw [HCT.out] at d2
          clear h4 LS D1 D2 BW c0' c1' c2' d0 d1
          go_wp2_with fail
          refine (at_at _ b2 T2 (s ++ List.replicate n 0) d CT C.t p D24.out HD.out HCT.out o1 o2 HP.out).mono ?_
          rw [HPP.out]
          rintro e w5 ⟨rfl, h5⟩
          have LS5 := Lib.hid (LS4.out.below h5)
          have D15 := Lib.hid (D14.out.below h5)
          have D25 := Lib.hid (D24.out.below h5)
          have BW5 := Lib.hid (below_trans BW4.out h5 BW4.out.size)
          obtain ⟨d0', d1', d2'⟩ := LS5.out.2 g rfl k C HC.out
          rw [HCS.out] at d0'
          rw [HCW.out] at d1'
          rw [HCT.out] at d2'
          clear h5 LS4 D14 D24 BW4 d2
          go_wp2_with fail
          go_still_tail 16, (by kernel_rfl)
          go_wp2_with fail
          refine (take_at _ b1 T1 s d C CS CW CT (D15.out.below (Below.refl _ _).drew) HD.out HCok.out HCS.out HCW.out HCT.out (by omega) (by omega)).mono ?_
          rintro e w6 ⟨rfl, h6, hF6⟩
          have D16 := Lib.hid h6
          have D26 := Lib.hid ((D25.out.below (Below.refl _ _).drew).fr hF6 (fun k h2 h1 => (HT1.out k h1).2.1 h2))
          have LS6 := Lib.hid ((LS5.out.below (Below.refl _ _).drew).fr hF6 (fun k h1 => (HT1.out k h1).2.2))
          have BW6 := Lib.hid ((BW5.out.drew).trans (hF6.below (B := W.heap.size) BW5.out.size (fun k h1 => (HT1.out k h1).1)))
          obtain ⟨x0, x1, x2⟩ := LS6.out.2 g rfl k C HC.out
          rw [HCS.out] at x0
          rw [HCW.out] at x1
          rw [HCT.out] at x2
          clear h6 hF6 D15 D25 LS5 BW5 d0' d1' d2'
          go_wp2_with fail
          go_still_tail 16, (by kernel_rfl)
          go_wp2_with fail
          refine (take_at _ b2 T2 (s ++ List.replicate n 0) d C CS CW CT (D26.out.below (Below.refl _ _).drew) HD.out HCok.out HCS.out HCW.out HCT.out (by omega) hsl2).mono ?_
          rw [HBF.out]
          rintro e w7 ⟨rfl, h7, hF7⟩
          have D27 := Lib.hid h7
          have D17 := Lib.hid ((D16.out.below (Below.refl _ _).drew).fr hF7 (fun k h1 h2 => (HT1.out k h1).2.1 h2))
          have LS7 := Lib.hid ((LS6.out.below (Below.refl _ _).drew).fr hF7 (fun k h1 => (HT2.out k h1).2))
          have BW7 := Lib.hid ((BW6.out.drew).trans (hF7.below (B := W.heap.size) BW6.out.size (fun k h1 => (HT2.out k h1).1)))
          clear h7 hF7 D16 D26 LS6 BW6 x0 x1 x2
          have HD7 := Lib.hid (take_dt (f := byteF s) HD.out HCok.out)
          have hg7 := take_g (f := byteF s) HD.out HCok.out
          obtain ⟨d', hd'⟩ : ∃ d', d.take (byteF s) C = d' := ⟨_, rfl⟩
          rw [hd'] at D17 D27 HD7 hg7
          obtain ⟨u, hu⟩ : ∃ u, d'.used = u := ⟨_, rfl⟩
          have HU := Lib.hid hu
          clear hd' hu
          go_wp2_with fail
          refine (decUsed_as _ b1 T1 s d' u D17.out HD7.out (by omega) HU.out).mono ?_
          rintro e w8 ⟨rfl, h8⟩
          have LS8 := Lib.hid (LS7.out.below h8)
          have D18 := Lib.hid (D17.out.below h8)
          have D28 := Lib.hid (D27.out.below h8)
          have BW8 := Lib.hid (below_trans BW7.out h8 BW7.out.size)
          clear h8 LS7 D17 D27 BW7
          go_wp2_with fail
          refine (decUsed_as _ b2 T2 (s ++ List.replicate n 0) d' u D28.out HD7.out (by omega) HU.out).mono ?_
          rintro e w9 ⟨rfl, h9⟩
          have H9 := Lib.hid (⟨D18.out.below h9, D28.out.below h9, below_trans BW8.out h9 BW8.out.size, LS8.out.below h9⟩ : DecIs w9 b1 T1 s d' ∧ DecIs w9 b2 T2 (s ++ List.replicate n 0) d' ∧ Below W.heap.size W w9 ∧ LsAt w9 (some ⟨g, 0, none⟩) L)
          clear h9 LS8 D18 D28 BW8
          go_wp2
          go_roundw
          case rel => exact ⟨k + 1, d', by omega, by go_num, HD7.out, by omega, H9.out⟩
          case measure => simp [intOf]; omega
        · obtain rfl : k = L.length := by omega
          go_wp2
          go_ret
          exact ⟨rfl, BW.out⟩

theorem u8_nat {a : Int} (h : (Lit.int .u8 a).wf = true) : ∃ n : Nat, a = (n : Int) ∧ n ≤ 255 := by
  simp only [Lit.wf, Bool.and_eq_true, decide_eq_true_eq] at h
  have e1 : IntKind.u8.min = 0 := by decide
  have e2 : IntKind.u8.max = 255 := by decide
  rw [e1, e2] at h
  exact ⟨a.toNat, by omega, by omega⟩
theorem rangZeros_any (B : ByteArray) (a1 : Option Addr) (n1 c1 : Nat) (f1 : Nat → Tr) (a2 : Int) (W : World) (w0 : B.size ≤ maxLen) (s1 : SlC W a1 n1 c1 f1) (w2 : (Lit.int .u8 a2).wf = true) :
    Calls Tryd.prog 7 #[.string B, .slice a1 n1 c1, .int .u8 a2] W fun e w' => e = .returned (.bool true) ∧ Below W.heap.size W w' := by
  obtain ⟨n, rfl, hn⟩ := u8_nat w2
  exact rangZeros_walk B a1 n1 c1 f1 n W w0 s1 hn
end Go.Proofs.YtnlfbndemajkaaaDoor.Rg
