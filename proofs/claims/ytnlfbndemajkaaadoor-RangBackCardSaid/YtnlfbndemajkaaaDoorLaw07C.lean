/- RangBack: the walk. -/
import Derived.Test.YtnlfbndemajkaaaDoorRgO
set_option maxRecDepth 100000
set_option linter.unusedVariables false
namespace Go.Proofs.YtnlfbndemajkaaaDoor.Rg
open Go.RowKit Go.Proofs.YtnlfbndemajkaaaDoor.Row

/-- What is used behind the cell number i. -/
def usedAt (L : List Cl) (i : Nat) : Int := (St.new.run (L.take (i + 1))).used
/-- The coder, the cells, and what was used, in a world of a law that began in w. -/
def BackS (w : World) (b : Nat) (a : Option Addr) (L : List Cl) (k : Nat) (v : Value) (w' : World) : Prop :=
  ∃ au cu, v = .slice au k cu ∧ EncOff w b 1000 (St.new.run (L.take k)) (fun i => Blk a i ∨ Blk au i) w' ∧ LsAt w' a L ∧ OwnS w' w.heap.size au k cu (usedAt L) ∧ ∀ i, Blk a i → ¬ Blk au i

set_option maxHeartbeats 4000000 in
theorem rangBack_walk (a0 : Option Addr) (n0 c0 : Nat) (f0 : Nat → Tr) (W : World) (s0 : SlC W a0 n0 c0 f0) :
    Calls Tryd.prog 3 #[.slice a0 n0 c0] W fun e w' => e = .returned (.bool true) ∧ Below W.heap.size W w' := by
  have S0 := Lib.hid s0
  clear s0
  go_enter Tryd.func3, Tryd.ntmps3
  go_wp2_with fail
  refine (awake_yes _).mono ?_
  rintro e w1 ⟨rfl, h1⟩
  have B1 := Lib.hid h1
  clear h1
  go_wp2_with fail
  refine (newEnc_yes 1000 _ (by omega) (by omega)).mono ?_
  intro e w2 h
  obtain ⟨b, rfl, h2⟩ := EncOn.new h
  have E2 := Lib.hid (EncOff.of (EncOn.from B1.out h2) (fun _ => False) (fun _ h => h.elim))
  clear h h2
  go_wp2_with fail
  obtain ⟨L, hL⟩ : ∃ L, cellsOf f0 n0 = L := ⟨_, rfl⟩
  have HL := Lib.hid (hL ▸ cellsOf_ok f0 n0 : ∀ C ∈ L, C.ok)
  have hlen : L.length ≤ 100 := by rw [← hL, cellsOf_length]; omega
  refine (cells_as a0 n0 c0 f0 _ (S0.out.below E2.out.out)).mono ?_
  rw [hL]
  rintro e w3 ⟨a, c, rfl, hC, hB⟩
  have BS3 : Hid (BackS W b a L 0 (.slice none 0 0) w3) := ⟨none, 0, rfl, E2.out.add (C := fun i => Blk a i ∨ Blk none i) hB (fun k hk => .inr (hk.elim (fun h => hC.blk k h) fun h => by cases h)), hC.ls, OwnS.nil _ _ _, fun i _ h => by cases h⟩
  clear hC hB E2 B1 hL
  go_wp2
  go_loopw [6, 7] (fun v i wr => ∃ k : Nat, k ≤ L.length ∧ i = .int .i64 k ∧ BackS W b a L k v wr) (fun _ i _ => 100 - (intOf i).toNat)
  case atStart => exact ⟨0, Nat.zero_le _, rfl, BS3.out⟩
  case round =>
    obtain ⟨k, hk, rfl, au, cu, rfl, hE, hLS, hO, hD⟩ := hrel
    have E := Lib.hid hE
    have LS := Lib.hid hLS
    have O := Lib.hid hO
    have D := Lib.hid hD
    clear hE hLS hO hD BS3
    by_cases hlt : k < L.length
    · obtain ⟨g, rfl⟩ := LS.out.1 (by omega)
      obtain ⟨C, hC⟩ : ∃ C, L[k]? = some C := ⟨_, List.getElem?_eq_getElem hlt⟩
      obtain ⟨d0, d1, d2⟩ := LS.out.2 g rfl k C hC
      have hCok : C.ok := HL.out C (List.mem_of_getElem? hC)
      have HCok := Lib.hid hCok
      have HT := Lib.hid (take_snoc L k C hC)
      obtain ⟨x, hx⟩ : ∃ x, St.new.run (L.take k) = x := ⟨_, rfl⟩
      obtain ⟨xok, xg⟩ := run_take HL.out k
      rw [hx] at xok xg E
      have HX := Lib.hid (show x.put C = St.new.run (L.take (k + 1)) by rw [HT.out, run_snoc, hx])
      have XOK := Lib.hid xok
      have xok2 := put_ok xok hCok
      have q2 := xok2.2.1
      have hg2 := put_g xok hCok
      obtain ⟨u, hu⟩ : ∃ u, (x.put C).used = u := ⟨_, rfl⟩
      have HU := Lib.hid hu
      have HUA := Lib.hid (show usedAt L k = u by unfold usedAt; rw [← HX.out]; exact hu)
      obtain ⟨CS, hCS⟩ : ∃ z : Int, (C.s : Int) = z := ⟨_, rfl⟩
      obtain ⟨CW, hCW⟩ : ∃ z : Int, (C.w : Int) = z := ⟨_, rfl⟩
      obtain ⟨CT, hCT⟩ : ∃ z : Int, (C.t : Int) = z := ⟨_, rfl⟩
      rw [hCS] at d0
      rw [hCW] at d1
      rw [hCT] at d2
      have HCS := Lib.hid hCS
      have HCW := Lib.hid hCW
      have HCT := Lib.hid hCT
      clear hx hu hC hCok xok xok2 hCS hCW hCT
      go_wp2_with fail
      go_still_tail 16, (by kernel_rfl)
      go_wp2_with fail
      refine (put_off W _ b 1000 x _ C CS CW CT (E.out.below (Below.refl _ _).drew) XOK.out HCok.out HCS.out HCW.out HCT.out (by omega) (by omega)).mono ?_
      rintro e w5 ⟨rfl, h5, hk5⟩
      have E5 := Lib.hid h5
      have LS5 := Lib.hid ((LS.out.below (Below.refl _ _).drew).keep hk5 fun _ h => .inl h)
      have O5 := Lib.hid (OwnS.keep (O.out.below (Below.refl _ _).drew) hk5 fun _ h => .inr h)
      clear h5 hk5 d0 d1 d2 E LS O
      go_wp2_with fail
      refine (used_off W _ b 1000 (x.put C) _ u E5.out q2 (by omega) HU.out).mono ?_
      rintro e w6 ⟨rfl, h6, hb6⟩
      have E6 := Lib.hid (h6.below ((Below.refl _ _).alloc (Nat.le_refl _) (.cells #[.int .i64 u] 3)))
      have LS6 := Lib.hid ((LS5.out.below hb6).below ((Below.refl _ _).alloc (Nat.le_refl _) (.cells #[.int .i64 u] 3)))
      have O6 := Lib.hid ((O5.out.below hb6).below ((Below.refl _ _).alloc (Nat.le_refl _) (.cells #[.int .i64 u] 3)))
      have N6 := Lib.hid (show (w6.alloc (.cells #[.int .i64 u] 3)).cell? ⟨w6.heap.size, 0, none⟩ = some (.int .i64 (usedAt L k)) by rw [(At.new w6 _ _).cell, HUA.out]; rfl)
      clear h6 hb6 E5 LS5 O5
      go_wp2_with (at_builtin; refine wpList_append_one rfl _ _ rfl W.heap.size (usedAt L) au k cu rfl O6.out w6.heap.size rfl N6.out (by omega) E6.out.out.size ?_)
      intro g7 c7 w7 hO7 hB7 hgr hat
      have HB7 := Lib.hid (show BackS W b (some ⟨g, 0, none⟩) L (k + 1) (.slice (some ⟨g7, 0, none⟩) (k + 1) c7) w7 by
        have hown : ∀ i, (Value.slice au k cu).ownBlock = some i → Blk au i := fun i hi => by
          rcases O6.out with ⟨rfl, _⟩ | ⟨g', rfl, _⟩
          · cases hi
          · simp only [Value.ownBlock, Option.some.injEq] at hi
            subst hi
            rfl
        refine ⟨_, _, rfl, ?_, LS6.out.grown hgr fun i hi hb => D.out i hb (hown i hi), .inr ⟨g7, rfl, hO7⟩, fun i h1 h2 => ?_⟩
        · rw [← HX.out]
          refine E6.out.grown hgr (fun i hi => ⟨.inr (hown i hi), (OwnS.blk O6.out i (hown i hi)).1⟩) fun i hi => ?_
          rcases hi with hi | hi
          · exact .inl (.inl hi)
          · simp only [Blk, Option.some.injEq, Addr.mk.injEq, and_true] at hi
            subst hi
            rcases hat with e | e
            · exact .inl (.inr e)
            · exact .inr ⟨by simp; omega, hO7.lt⟩
        · simp only [Blk, Option.some.injEq, Addr.mk.injEq, and_true] at h1 h2
          subst h1 h2
          rcases hat with e | e
          · exact D.out g7 rfl e
          · have := E6.out
            obtain ⟨_, _, _, _, h4⟩ := this
            have := h4 g7 (.inl rfl)
            simp at this
            omega)
      clear hO7 hB7 hgr hat E6 LS6 O6 N6
      go_wp2
      go_roundw
      case rel => exact ⟨k + 1, by omega, by go_num, HB7.out⟩
      case measure => simp [intOf]; omega
    · obtain rfl : k = L.length := by omega
      have hXX : St.new.run (L.take L.length) = St.new.run L := by rw [List.take_length]
      obtain ⟨xok, xg⟩ := run_take HL.out L.length
      rw [hXX] at xok xg
      obtain ⟨X, hX⟩ : ∃ X, St.new.run L = X := ⟨_, rfl⟩
      rw [hX] at xok xg
      have E' := Lib.hid (show EncOff W b 1000 X (fun i => Blk a i ∨ Blk au i) wr by rw [← hX, ← hXX]; exact E.out)
      have tl := trim_len X
      have tfit : X.trim.length ≤ 1000 := by omega
      obtain ⟨t, ht⟩ : ∃ t, X.text 1000 = t := ⟨_, rfl⟩
      obtain ⟨tb, htb⟩ : ∃ tb : ByteArray, ⟨t.toArray⟩ = tb := ⟨_, rfl⟩
      have htlen : t.length = 1000 := by rw [← ht]; exact text_length tfit
      have htsz : tb.size = 1000 := by rw [← htb, Lib.size_mk, htlen]
      have HTB := Lib.hid htb
      have HO1 := Lib.hid (show (⟨(X.out 1000).toArray⟩ : ByteArray) = tb by unfold St.out; rw [if_pos tfit, ht, htb])
      have HO2 := Lib.hid (show X.err 1000 = 0 by unfold St.err; rw [if_pos tfit])
      have HBF := Lib.hid (show byteF t = digit X.L X.g by rw [← ht]; exact text_digit X 1000)
      have HIN := Lib.hid (fun j => (hX ▸ in_take HL.out j : In X.L X.g (St.new.run (L.take j))))
      have HFIT := Lib.hid (show X.L < 4294967296 * 256 ^ X.g by have := xok.2.2; omega)
      clear hXX hX ht htb E tl tfit
      go_wp2_with fail
      refine (done_off W _ b 1000 X _ tb 0 E'.out (by omega) HO1.out HO2.out).mono ?_
      rintro e w5 ⟨rfl, h5, hb5⟩
      have LS5 := Lib.hid (LS.out.below hb5)
      have O5 := Lib.hid (O.out.below hb5)
      have BW5 := Lib.hid h5.out
      have HA5 := Lib.hid (show ∀ i, Blk a i ∨ Blk au i → i < w5.heap.size by obtain ⟨_, _, _, _, h⟩ := h5; exact h)
      clear h5 hb5 E' LS O
      go_wp2_with fail
      refine (newDec_as tb t _ HTB.out (by omega)).mono ?_
      rintro e w6 ⟨bd, T, rfl, hD6, hT6, hb6⟩
      rw [HBF.out, dt_first HFIT.out] at hD6
      have HT6 := Lib.hid (show ∀ i, T i → W.heap.size ≤ i ∧ ¬ Blk a i ∧ ¬ Blk au i from fun i hi => by
        have h1 := hT6 i hi
        have h2 := BW5.out.size
        exact ⟨by omega, fun hb => by have := HA5.out i (.inl hb); omega, fun hb => by have := HA5.out i (.inr hb); omega⟩)
      have H6 := Lib.hid (⟨hD6, below_trans BW5.out hb6 BW5.out.size, LS5.out.below hb6, O5.out.below hb6⟩ : DecIs w6 bd T t (dtOf X.L X.g St.new) ∧ Below W.heap.size W w6 ∧ LsAt w6 a L ∧ OwnS w6 W.heap.size au L.length cu (usedAt L))
      clear hD6 hT6 hb6 LS5 O5 BW5 HA5 D HO1 HO2 HTB HFIT
      go_wp2
      go_loopw [11] (fun i wr => ∃ k : Nat, k ≤ L.length ∧ i = .int .i64 k ∧ DecIs wr bd T t (dtOf X.L X.g (St.new.run (L.take k))) ∧ Below W.heap.size W wr ∧ LsAt wr a L ∧ OwnS wr W.heap.size au L.length cu (usedAt L)) (fun i _ => 100 - (intOf i).toNat)
      case atStart => exact ⟨0, Nat.zero_le _, rfl, H6.out⟩
      case round =>
        obtain ⟨k, hk, rfl, hD, hbw, hls, ho⟩ := hrel
        have BW := Lib.hid hbw
        have LS := Lib.hid hls
        have O := Lib.hid ho
        clear hbw hls ho H6
        by_cases hlt : k < L.length
        · obtain ⟨g, rfl⟩ := LS.out.1 (by omega)
          obtain ⟨gu, rfl, hOG⟩ := O.out.pos (by omega)
          obtain ⟨C, hC⟩ : ∃ C, L[k]? = some C := ⟨_, List.getElem?_eq_getElem hlt⟩
          obtain ⟨c0', c1', c2'⟩ := LS.out.2 g rfl k C hC
          have c3' := hOG.cell k hlt
          have hCok : C.ok := HL.out C (List.mem_of_getElem? hC)
          obtain ⟨o1, o2, o3, o4⟩ := id hCok
          have HCok := Lib.hid hCok
          have HC := Lib.hid hC
          have HT := take_snoc L k C hC
          obtain ⟨yok, yg⟩ := run_take HL.out k
          have hin := HIN.out k
          have hin2 := HIN.out (k + 1)
          rw [HT, run_snoc] at hin2
          obtain ⟨y, hy⟩ : ∃ y, St.new.run (L.take k) = y := ⟨_, rfl⟩
          rw [hy] at yok yg hin hin2 hD
          obtain ⟨i1, i2, i3⟩ := in_step yok hCok hin2
          have HY := Lib.hid (show y.put C = St.new.run (L.take (k + 1)) by rw [HT, run_snoc, hy])
          have DOK := Lib.hid (dtOf_ok yok hin)
          have DOK2 := Lib.hid (dtOf_ok (put_ok yok hCok) hin2)
          have hg2 := put_g yok hCok
          have HD := Lib.hid hD
          obtain ⟨p, hp⟩ : ∃ p, (dtOf X.L X.g y).place C.t = p := ⟨_, rfl⟩
          rw [hp] at i1 i2
          have HP := Lib.hid hp
          have HI3 := Lib.hid (show (dtOf X.L X.g y).take (byteF t) C = dtOf X.L X.g (y.put C) by rw [HBF.out]; exact i3)
          obtain ⟨u, hu⟩ : ∃ u, usedAt L k = u := ⟨_, rfl⟩
          have HU := Lib.hid (show (dtOf X.L X.g (y.put C)).used = u by rw [dtOf_used, HY.out]; exact hu)
          rw [hu] at c3'
          obtain ⟨CS, hCS⟩ : ∃ z : Int, (C.s : Int) = z := ⟨_, rfl⟩
          obtain ⟨CW, hCW⟩ : ∃ z : Int, (C.w : Int) = z := ⟨_, rfl⟩
          obtain ⟨CT, hCT⟩ : ∃ z : Int, (C.t : Int) = z := ⟨_, rfl⟩
          obtain ⟨P, hPP⟩ : ∃ z : Int, (p : Int) = z := ⟨_, rfl⟩
          have P1 : decide (P < CS) = false := by simp; omega
          have P2 : decide (CS + CW ≤ P) = false := by simp; omega
          have P3 : 0 ≤ CS ∧ CS ≤ 32768 := by omega
          have P4 : 0 ≤ CW ∧ CW ≤ 32768 := by omega
          have hw : IntKind.i64.wrap (CS + CW) = CS + CW := IntWalk.i64_in _ (by omega)
          rw [hCS] at c0'
          rw [hCW] at c1'
          rw [hCT] at c2'
          have HCS := Lib.hid hCS
          have HCW := Lib.hid hCW
          have HCT := Lib.hid hCT
          have HPP := Lib.hid hPP
          have hgy : (dtOf X.L X.g y).g ≤ 100000 := by show y.g ≤ _; omega
          have hgy2 : (dtOf X.L X.g (y.put C)).g ≤ 1000000000 := by show (y.put C).g ≤ _; omega
          clear hC hCok HT yok yg hin hin2 hy hD hp i1 i2 i3 hu hCS hCW hCT hPP hg2 hOG
          go_wp2_with fail
          refine (at_at _ bd T t (dtOf X.L X.g y) CT C.t p HD.out DOK.out HCT.out o1 o2 HP.out).mono ?_
          rw [HPP.out]
          rintro e w7 ⟨rfl, h7⟩
          have LS7 := Lib.hid (LS.out.below h7)
          have O7 := Lib.hid (O.out.below h7)
          have D7 := Lib.hid (HD.out.below h7)
          have BW7 := Lib.hid (below_trans BW.out h7 BW.out.size)
          have hS : w7.cell? ⟨g, k * 3, none⟩ = some (.int .i64 CS) ∧ w7.cell? ⟨g, k * 3 + 1, none⟩ = some (.int .i64 CW) ∧ w7.cell? ⟨g, k * 3 + 2, none⟩ = some (.int .i64 CT) ∧ w7.cell? ⟨gu, k, none⟩ = some (.int .i64 u) :=
            ⟨(Below.cell h7 (block_lt_of_cell c0')).trans c0', (Below.cell h7 (block_lt_of_cell c1')).trans c1', (Below.cell h7 (block_lt_of_cell c2')).trans c2', (Below.cell h7 (block_lt_of_cell c3')).trans c3'⟩
          have HS := Lib.hid hS
          clear h7 LS O HD BW c0' c1' c2' c3' hS
          go_wp2_with fail
          go_region_held3 (fun w' => w'.cell? ⟨g, k * 3, none⟩ = some (.int .i64 CS) ∧ w'.cell? ⟨g, k * 3 + 1, none⟩ = some (.int .i64 CW) ∧ w'.cell? ⟨g, k * 3 + 2, none⟩ = some (.int .i64 CT) ∧ w'.cell? ⟨gu, k, none⟩ = some (.int .i64 u)) (first | assumption | exact HS.out) (first
            | (go_at_call 17; refine (take_at _ bd T t (dtOf X.L X.g y) C CS CW CT (by exact D7.out) DOK.out HCok.out HCS.out HCW.out HCT.out hgy (by omega)).mono ?_; rw [HI3.out]; rintro e w8 ⟨rfl, h8, hF8⟩
               have D8 := Lib.hid h8
               have BW8 := Lib.hid ((BW7.out.drew).trans (hF8.below (B := W.heap.size) BW7.out.size fun i hi => (HT6.out i hi).1))
               have LS8 := Lib.hid (LsAt.fr (w := w7.drew) (by exact LS7.out) hF8 fun i hi => (HT6.out i hi).2.1)
               have O8 := Lib.hid (show OwnS w8 W.heap.size (some ⟨gu, 0, none⟩) L.length cu (usedAt L) from OwnS.keep (w := w7.drew) (A := Blk (some ⟨gu, 0, none⟩)) (by exact O7.out) (fun i hi => hF8.block i (OwnS.blk O7.out i hi).2 fun ht => (HT6.out i ht).2.2 hi) (fun _ h => h))
               have hS8 : w8.cell? ⟨g, k * 3, none⟩ = some (.int .i64 CS) ∧ w8.cell? ⟨g, k * 3 + 1, none⟩ = some (.int .i64 CW) ∧ w8.cell? ⟨g, k * 3 + 2, none⟩ = some (.int .i64 CT) ∧ w8.cell? ⟨gu, k, none⟩ = some (.int .i64 u) :=
                 ⟨hF8.cell (by exact HS.out.1) fun ht => (HT6.out g ht).2.1 rfl, hF8.cell (by exact HS.out.2.1) fun ht => (HT6.out g ht).2.1 rfl, hF8.cell (by exact HS.out.2.2.1) fun ht => (HT6.out g ht).2.1 rfl, hF8.cell (by exact HS.out.2.2.2) fun ht => (HT6.out gu ht).2.2 rfl⟩
               have HS8 := Lib.hid hS8
               clear h8 hF8)
            | (go_at_call 18; refine (decUsed_as _ bd T t (dtOf X.L X.g (y.put C)) u (by exact D8.out) DOK2.out hgy2 HU.out).mono ?_; rintro e w9 ⟨rfl, h9⟩
               have H9 := Lib.hid (⟨D8.out.below h9, below_trans BW8.out h9 BW8.out.size, LS8.out.below h9, O8.out.below h9⟩ : DecIs w9 bd T t (dtOf X.L X.g (y.put C)) ∧ Below W.heap.size W w9 ∧ LsAt w9 (some ⟨g, 0, none⟩) L ∧ OwnS w9 W.heap.size (some ⟨gu, 0, none⟩) L.length cu (usedAt L))
               have hS9 : w9.cell? ⟨g, k * 3, none⟩ = some (.int .i64 CS) ∧ w9.cell? ⟨g, k * 3 + 1, none⟩ = some (.int .i64 CW) ∧ w9.cell? ⟨g, k * 3 + 2, none⟩ = some (.int .i64 CT) ∧ w9.cell? ⟨gu, k, none⟩ = some (.int .i64 u) :=
                 ⟨(Below.cell h9 (block_lt_of_cell HS8.out.1)).trans HS8.out.1, (Below.cell h9 (block_lt_of_cell HS8.out.2.1)).trans HS8.out.2.1, (Below.cell h9 (block_lt_of_cell HS8.out.2.2.1)).trans HS8.out.2.2.1, (Below.cell h9 (block_lt_of_cell HS8.out.2.2.2)).trans HS8.out.2.2.2⟩
               clear h9))
          all_goals go_wp2
          all_goals go_roundw
          case rel =>
            refine ⟨k + 1, by omega, by go_num, ?_, H9.out.2⟩
            rw [← HY.out]
            exact H9.out.1
          case measure => simp [intOf]; omega
        · obtain rfl : k = L.length := by omega
          clear hD
          go_wp2
          go_ret
          exact ⟨rfl, BW.out⟩
end Go.Proofs.YtnlfbndemajkaaaDoor.Rg
