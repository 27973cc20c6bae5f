/- SpareAlone: the walk. -/
import Derived.Test.YtfcaigggacgfkaaDoorSpI
set_option maxRecDepth 100000
set_option linter.unusedVariables false
namespace Go.Proofs.YtfcaigggacgfkaaDoor.Sp
open Go.RowKit Go.Proofs.YtfcaigggacgfkaaDoor.Row

/-- A row whose number k is a, the others 0. -/
def lone (k : Nat) (a : Int) (i : Nat) : Int := if i = k then a else 0
theorem lone_ok {k : Nat} {a : Int} (h : 0 ≤ a) (h' : a ≤ 20) : okL (lone k a) := fun i _ => by unfold lone; split <;> omega

/-- What stands: the levels' row, the pulses' row. -/
def AlS (W : World) (bx bk : Nat) (X K : Array Value) (w' : World) : Prop := At w' bx X 22 ∧ At w' bk K 22 ∧ Below W.heap.size W w'
theorem AlS.next {W w1 w2 : World} {bx bk : Nat} {X K : Array Value} (h : AlS W bx bk X K w1) (hb : Below w1.heap.size w1 w2) : AlS W bx bk X K w2 :=
  ⟨h.1.below hb h.1.lt, h.2.1.below hb h.2.1.lt, below_trans h.2.2 hb h.2.2.size⟩

set_option maxHeartbeats 2000000 in
theorem spareAlone_nat (b l bits : Nat) (W : World) (hb : b ≤ 255) (hl : l ≤ 255) (hn : bits ≤ 65535) (hT : Lv.Tab W) :
    Calls Tryd.prog 6 #[.int .u8 b, .int .u8 l, .int .u16 bits] W fun e w' => e = .returned (.bool true) ∧ Below W.heap.size W w' := by
  obtain ⟨Z, hZ, hZ0, hz, hi⟩ := zero4
  obtain ⟨k, hk⟩ : ∃ k : Nat, (b : Int) % 4 = k := ⟨b % 4, by omega⟩
  have k4 : k < 4 := by omega
  obtain ⟨m, hm⟩ : ∃ m : Nat, (l : Int) % 20 = m := ⟨l % 20, by omega⟩
  have m20 : m < 20 := by omega
  obtain ⟨n, hnn⟩ : ∃ n : Nat, (bits : Int) % 60 = n := ⟨bits % 60, by omega⟩
  have n60 : n < 60 := by omega
  have HI := Lib.hid hi
  have HTB := Lib.hid hT
  have HZ := Lib.hid hZ
  have HZS := Lib.hid hZ.1
  have HIZ := Lib.hid (hi Z hZ.1)
  have kk0 : (0 : Int) ≤ (k : Int) := by omega
  have kk1 : (k : Int) < 4 := by omega
  clear hZ hZ0 hi hT
  go_enter Tryd.func6, Tryd.ntmps6
  go_wp2_with fail
  refine (awake_yes _ HTB.out).mono ?_
  rintro e w1 ⟨rfl, h1⟩
  have HB1 := Lib.hid h1
  clear h1
  -- the row of levels
  have hX := (HZ.out.set (k := k) (1 + (m : Int)) k4).ext (g := lone k (1 + (m : Int))) fun i _ => rfl
  have HX := Lib.hid hX
  have HIX := Lib.hid (HI.out _ hX.1)
  have A0 := At.new w1 Z 22
  have c0 : (w1.alloc (.cells Z 22)).cell? ⟨w1.heap.size, k, none⟩ = some (.int .i64 0) := HZ.out.cell A0 k k4
  have f0 := A0.frozen k
  have HA1 := Lib.hid (At.new w1 (Z.setIfInBounds k (.int .i64 (1 + (m : Int)))) 22)
  have HB2 := Lib.hid (HB1.out.alloc HB1.out.size (.cells (Z.setIfInBounds k (.int .i64 (1 + (m : Int)))) 22))
  clear A0 hX
  go_wp2_with (refine wpList_load_row rfl 22 _ rfl w1.heap.size rfl _ _ (0, 0) _ HA1.out Tryd.underlying22 rfl HIX.out ?_)
  obtain ⟨X, hX⟩ : ∃ X, Z.setIfInBounds k (.int .i64 (1 + (m : Int))) = X := ⟨_, rfl⟩
  rw [hX] at HX HIX HA1 HB2 ⊢
  obtain ⟨bx, hbx⟩ : ∃ bx, w1.heap.size = bx := ⟨_, rfl⟩
  rw [hbx] at HA1 ⊢
  obtain ⟨w2, hw2⟩ : ∃ w2, w1.alloc (.cells X 22) = w2 := ⟨_, rfl⟩
  rw [hw2] at HA1 HB2 ⊢
  clear hw2 hbx c0 f0 HB1 hX
  obtain ⟨left, hfin⟩ := given_fin (lone k (1 + (m : Int))) (show (0 : Int) ≤ n by omega)
  obtain ⟨g1, g2, g3, g4⟩ := alone hfin k4 (by unfold lone; rw [if_pos rfl]; omega) (fun i _ h => by unfold lone; rw [if_neg h])
  refine (pulses_yes X (lone k (1 + (m : Int))) n _ HX.out (lone_ok (by omega) (by omega)) (by omega) (by omega) (HTB.out.next HB2.out)).mono ?_
  rintro e w3 ⟨⟨K, rfl, hK⟩, h3⟩
  obtain ⟨G, hG⟩ : ∃ G, given (lone k (1 + (m : Int))) n = G := ⟨_, rfl⟩
  rw [hG] at hK hfin g1 g2 g3 g4
  obtain ⟨r, hr⟩ : ∃ r, G k = r := ⟨_, rfl⟩
  have HK : Hid (IsRow 4 (lone k r) K) := Lib.hid (hK.ext fun i hi => by
    unfold lone
    by_cases c : i = k
    · rw [if_pos c, c, hr]
    · rw [if_neg c, g1 i hi c]; rfl)
  rw [hr] at g2 g3 g4
  have HIK := Lib.hid (HI.out K hK.1)
  have H3 := Lib.hid (HA1.out.below h3 HA1.out.lt)
  have HB3 := Lib.hid (below_trans HB2.out h3 HB2.out.size)
  have HLE := Lib.hid (fun j (h : j ≤ r) => P_up (j := j) k4 h g2)
  have HGT := Lib.hid g4
  clear hK h3 HA1 HB2 g1 g4 hr hfin hG
  go_wp2_with (refine wpList_store_row rfl 22 _ _ rfl w3.heap.size K rfl rfl _ _ (At.new w3 Z 22) HIK.out (by rw [HZS.out, HK.out.1]) HK.out.2.1 ?_)
  rw [World.setRow_alloc_new]
  have HS4 := Lib.hid (show AlS W bx w3.heap.size X K (w3.alloc (.cells K 22)) from ⟨H3.out.alloc _, At.new w3 K _, HB3.out.alloc HB3.out.size _⟩)
  obtain ⟨bk, hbk⟩ : ∃ bk, w3.heap.size = bk := ⟨_, rfl⟩
  rw [hbk] at HS4 ⊢
  obtain ⟨w4, hw4⟩ : ∃ w4, w3.alloc (.cells K 22) = w4 := ⟨_, rfl⟩
  rw [hw4] at HS4 ⊢
  clear hbk hw4 H3 HB3
  go_loopw [11, 12] (fun v i w' => ∃ j : Nat, 1 ≤ j ∧ j ≤ 9 ∧ i = .int .i64 j ∧ v = .int .i64 ((min (j - 1) r : Nat) : Int) ∧ Hid (AlS W bx bk X K w')) (fun _ i _ => 9 - (intOf i).toNat)
  case atStart => exact ⟨1, by omega, by omega, rfl, by rw [show min (1 - 1) r = 0 by omega]; rfl, HS4⟩
  case round =>
    obtain ⟨j, hj1, hj9, rfl, rfl, HS⟩ := hrel
    clear HS4
    by_cases hlt : j ≤ 8
    · have hle : (j : Int) ≤ 8 := by omega
      have HSZ := Lib.hid (fun w' (h : Lv.Tab w') s hs => size_as k s w' h k4 hs)
      have HCX := Lib.hid (show Ve.bI (sB k) ((j : Nat) : Int) = P k j from rfl)
      have h1 := HLE.out j
      have h2 := fun h => HGT.out j h hlt
      obtain ⟨x, hx⟩ : ∃ x, P k j = x := ⟨_, rfl⟩
      obtain ⟨s, hs⟩ : ∃ s, sB k = s := ⟨_, rfl⟩
      have HSB := Lib.hid hs
      rw [hx] at HCX h1 h2
      rw [hs] at HCX
      clear hx hs
      by_cases c : j ≤ r
      · have h3 := h1 c
        have d1 : decide ((x : Int) ≤ n) = true := decide_eq_true (by omega)
        clear h1 h2
        go_wp2_with fail
        refine (HSZ.out _ (HTB.out.next HS.out.2.2) s HSB.out).mono ?_
        rintro e w5 ⟨rfl, h5⟩
        have HS5 := Lib.hid (HS.out.next h5)
        clear h5 HS
        go_wp2_with fail
        refine (Ve.bits_as s (j : Int) x _ HCX.out).mono ?_
        rintro e w6 ⟨rfl, h6⟩
        have HS6 := Lib.hid (HS5.out.next h6)
        clear h6 HS5
        go_wp2_with fail
        go_roundw
        case rel => exact ⟨j + 1, by omega, by omega, by go_num, congrArg (Value.int .i64) (by omega), HS6⟩
        case measure => simp [intOf]; omega
      · have h3 := h2 (by omega)
        have d1 : decide ((x : Int) ≤ n) = false := decide_eq_false (by omega)
        clear h1 h2
        go_wp2_with fail
        refine (HSZ.out _ (HTB.out.next HS.out.2.2) s HSB.out).mono ?_
        rintro e w5 ⟨rfl, h5⟩
        have HS5 := Lib.hid (HS.out.next h5)
        clear h5 HS
        go_wp2_with fail
        refine (Ve.bits_as s (j : Int) x _ HCX.out).mono ?_
        rintro e w6 ⟨rfl, h6⟩
        have HS6 := Lib.hid (HS5.out.next h6)
        clear h6 HS5
        go_wp2_with fail
        go_roundw
        case rel => exact ⟨j + 1, by omega, by omega, by go_num, congrArg (Value.int .i64) (by omega), HS6⟩
        case measure => simp [intOf]; omega
    · obtain rfl : j = 9 := by omega
      have er : min (9 - 1) r = r := by omega
      rw [er]
      have hY := (HZ.out.set (k := k) (r : Int) k4).ext (g := lone k r) fun i _ => rfl
      have HIY := Lib.hid (HI.out _ hY.1)
      have A0 := At.new wr Z 22
      have c0 : (wr.alloc (.cells Z 22)).cell? ⟨wr.heap.size, k, none⟩ = some (.int .i64 0) := HZ.out.cell A0 k k4
      have f0 := A0.frozen k
      have HA1 := Lib.hid (At.new wr (Z.setIfInBounds k (.int .i64 (r : Int))) 22)
      have HA2 := Lib.hid (HS.out.2.1.alloc (.cells (Z.setIfInBounds k (.int .i64 (r : Int))) 22))
      have HB2 := Lib.hid (HS.out.2.2.alloc HS.out.2.2.size (.cells (Z.setIfInBounds k (.int .i64 (r : Int))) 22))
      have e0 := no_guard
      have e1 := rows_eq HK.out hY (fun _ _ => rfl) Tryd.underlying22
      clear A0 hY HLE HGT er
      go_wp2_with (first
        | refine wpList_load_row rfl 22 _ rfl bk rfl _ _ (0, 0) _ HA2.out Tryd.underlying22 rfl HIK.out ?_
        | refine wpList_load_row rfl 22 _ rfl wr.heap.size rfl _ _ (0, 0) _ HA1.out Tryd.underlying22 rfl HIY.out ?_)
      go_ret
      exact ⟨rfl, HB2.out⟩

theorem spareAlone_walk (a0 : Int) (w0 : (Lit.int .u8 a0).wf = true) (a1 : Int) (w1 : (Lit.int .u8 a1).wf = true) (a2 : Int) (w2 : (Lit.int .u16 a2).wf = true) (W : World) (hT : Lv.Tab W) :
    Calls Tryd.prog 6 #[.int .u8 a0, .int .u8 a1, .int .u16 a2] W fun e w' => e = .returned (.bool true) ∧ Below W.heap.size W w' := by
  obtain ⟨b, rfl, hb⟩ := u8_bd w0
  obtain ⟨l, rfl, hl⟩ := u8_bd w1
  obtain ⟨n, rfl, hn⟩ := u16_bd w2
  exact spareAlone_nat b l n W hb hl hn hT
end Go.Proofs.YtfcaigggacgfkaaDoor.Sp
