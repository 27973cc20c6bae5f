/- Texts of the walk, one behind the other. -/
import Derived.Test.YtfohinlldchdpaaGreatDoorWholeWayM43
import Derived.Test.YtfohinlldchdpaaGreatDoorWholeWayM41
import Derived.Test.YtfohinlldchdpaaGreatDoorWholeWayM4

section
/- The laws' frames. -/
set_option maxRecDepth 100000
set_option linter.unusedVariables false
namespace Go.Proofs.YtfohinlldchdpaaGreatDoor.En
open Go.RowKit Go.Proofs.YtfohinlldchdpaaGreatDoor.Row Go.Proofs.YtfohinlldchdpaaGreatDoor.Md Go.Proofs.YtfohinlldchdpaaGreatDoor.Tl Go.Proofs.YtfohinlldchdpaaGreatDoor.Sta

/-- A number brought to 16 bits. -/
def smp (x : Int) : Int := (x.tmod 65536 + 65536).tmod 65536 - 32768
theorem smp_parts (x : Int) : ∃ r q : Int, x.tmod 65536 = r ∧ -65536 < r ∧ r < 65536 ∧ (r + 65536).tmod 65536 = q ∧ (r + 65536) % 65536 = q ∧ 0 ≤ q ∧ q < 65536 ∧ smp x = q - 32768 := by
  have h1 := Int.lt_tmod_of_pos x (show (0 : Int) < 65536 by omega)
  have h2 := Int.tmod_lt_of_pos x (show (0 : Int) < 65536 by omega)
  refine ⟨_, _, rfl, by omega, h2, Int.tmod_eq_emod_of_nonneg (by omega), rfl, Int.emod_nonneg _ (by omega), Int.emod_lt_of_pos _ (by omega), ?_⟩
  unfold smp
  rw [Int.tmod_eq_emod_of_nonneg (by omega)]
theorem smp_bd (x : Int) : -32768 ≤ smp x ∧ smp x ≤ 32767 := by
  obtain ⟨_, q, _, _, _, _, _, h1, h2, h⟩ := smp_parts x
  omega
/-- The frames made of rows. -/
def frF (F : Nat → Nat → Int) (i j : Nat) : Int := smp (F i j)
theorem frF_snd (F : Nat → Nat → Int) (i : Nat) : Snd (frF F i) := fun j _ => smp_bd _

theorem Bks.setCell {w : World} {B n c : Nat} {a : Option Addr} {G : Nat → Nat → Int} (h : Bks w B a n c G) {b i : Nat} (v : Value) (hd : ∀ g, (Value.slice a n c).ownBlock = some g → g ≠ b) : Bks (w.setCell ⟨b, i, none⟩ v) B a n c G := by
  obtain ⟨e1, e2 | ⟨g, cap, cur, e, e3, e4, e5⟩⟩ := h
  · exact ⟨e1, .inl e2⟩
  · refine ⟨e1, .inr ⟨g, cap, cur, e, e3, ?_, e5⟩⟩
    have hne : g ≠ b := hd g (by rw [e]; rfl)
    exact At.setCell_other (show At w g cur 32 from e4) hne
/-- The frames so far, and one more that is made. -/
def FrS (w : World) (a : Option Addr) (k c : Nat) (G : Nat → Nat → Int) (b : Nat) (X : Array Value) (w' : World) : Prop :=
  Below w.heap.size w w' ∧ Bks w' w.heap.size a k c G ∧ w.heap.size ≤ b ∧ (∀ g, (Value.slice a k c).ownBlock = some g → g < b) ∧ At w' b X 32
theorem FrS.start {w W : World} {a : Option Addr} {k c : Nat} {G : Nat → Nat → Int} (hb : Below w.heap.size w W) (h : Bks W w.heap.size a k c G) (Z : Array Value) : FrS w a k c G W.heap.size Z (W.alloc (.cells Z 32)) :=
  ⟨hb.alloc hb.size _, h.below ((Below.refl _ _).alloc (Nat.le_refl _) _), hb.size, fun g hg => (h.block g hg).2, At.new _ _ _⟩
theorem FrS.set {w w1 : World} {a : Option Addr} {k c b : Nat} {G : Nat → Nat → Int} {X : Array Value} (h : FrS w a k c G b X w1) (i : Nat) (v : Value) : FrS w a k c G b (X.setIfInBounds i v) (w1.setCell ⟨b, i, none⟩ v) := by
  obtain ⟨h1, h2, h3, h4, h5⟩ := h
  exact ⟨h1.setCell (by dsimp only; omega) _, Bks.setCell h2 v fun g hg => by have := h4 g hg; omega, h3, h4, h5.setCell⟩

set_option maxHeartbeats 2000000 in
theorem frames_as (a0 : Option Addr) (n c0' : Nat) (F : Nat → Nat → Int) (w : World) (hS : SlR w a0 n c0' F) :
    Calls Tryz.prog 11 #[.slice a0 n c0'] w fun e w' => ∃ a c, e = .returned (.slice a (min n 30) c) ∧ Bks w' w.heap.size a (min n 30) c (frF F) ∧ Below w.heap.size w w' := by
  obtain ⟨Z, hZ, _, hz, hi⟩ := zero_b
  have hn : n ≤ 9223372036854775807 := by
    have h1 := hS.1
    have h2 := hS.2.1
    unfold maxLen at h2
    omega
  obtain ⟨N, hN⟩ : ∃ N, min n 30 = N := ⟨_, rfl⟩
  rw [hN]
  have HN := Lib.hid hN
  have HI := Lib.hid hi
  have HZ := Lib.hid hZ
  have HS := Lib.hid hS
  have HB0 := Lib.hid (Below.refl w.heap.size w)
  have HK0 := Lib.hid (Bks.nil w w.heap.size (frF F))
  clear hS hZ hi hN
  go_enter Tryz.func11, Tryz.ntmps11
  go_wp2_with fail
  go_loopw [3, 4] (fun s i w' => ∃ (k c : Nat) (a : Option Addr), k ≤ N ∧ i = .int .i64 k ∧ s = .slice a k c ∧ Hid (Below w.heap.size w w') ∧ Hid (Bks w' w.heap.size a k c (frF F))) (fun _ i _ => N - (intOf i).toNat)
  case atStart => exact ⟨0, 0, none, Nat.zero_le _, rfl, rfl, HB0, HK0⟩
  case round =>
    obtain ⟨k, c, a, hk, rfl, rfl, HB, HK⟩ := hrel
    clear HB0 HK0
    by_cases hkN : k < N
    · have k1 : (k : Int) < n := by have := HN.out; omega
      have k2 : (k : Int) < 30 := by have := HN.out; omega
      have hkn : k < n := by omega
      obtain ⟨bl, o, rfl, hc⟩ := HS.out.2.2 (by omega)
      have HC := Lib.hid hc
      have hF := Lib.hid (FrS.start HB.out HK.out Z)
      have HX := Lib.hid (HZ.out.ext (g := Tl.mix (frF F k) (fun _ => 0) 0) fun i _ => by rw [Tl.mix_0])
      have HL := Lib.hid (show ∀ j, j < 16 → wr.cell? ⟨bl, o + k * 16 + j, none⟩ = some (.int .i64 (F k j)) from fun j hj => (Below.cell HB.out (block_lt_of_cell (HC.out k hkn j hj))).trans (HC.out k hkn j hj))
      have HLT := Lib.hid (block_lt_of_cell (HL.out 0 (by omega)))
      clear hc
      go_wp2_with fail
      have HL1 := Lib.hid (show ∀ j, j < 16 → (wr.alloc (.cells Z 32)).cell? ⟨bl, o + k * 16 + j, none⟩ = some (.int .i64 (F k j)) from fun j hj => (Below.cell ((Below.refl _ _).alloc (Nat.le_refl _) _) (block_lt_of_cell (HL.out j hj))).trans (HL.out j hj))
      revert hF HL1
      generalize World.alloc _ _ = W1
      have hbb : bl ≠ wr.heap.size := by have := HLT.out; omega
      revert hbb
      generalize wr.heap.size = b
      intro hbb hF HL1
      clear HL HLT HB HK
      go_loopw [6] (fun j w' => ∃ (i : Nat) (X : Array Value), i ≤ 16 ∧ j = .int .i64 i ∧ Hid (FrS w a k c (frF F) b X w') ∧ Hid (IsRow 16 (Tl.mix (frF F k) (fun _ => 0) i) X) ∧ Hid (∀ j, j < 16 → w'.cell? ⟨bl, o + k * 16 + j, none⟩ = some (.int .i64 (F k j)))) (fun j _ => 16 - (intOf j).toNat)
      case atStart => exact ⟨0, Z, by omega, rfl, hF, HX, HL1⟩
      case round =>
        obtain ⟨i, X, hi16, rfl, hF2, HX2, HL2⟩ := hrel
        clear hF HX HL1
        by_cases hlt : i < 16
        · have i1 : (i : Int) < 16 := by omega
          have i0 : (0 : Int) ≤ (i : Int) := by omega
          have c0 := HL2.out i hlt
          obtain ⟨x, hx⟩ : ∃ x, F k i = x := ⟨_, rfl⟩
          rw [hx] at c0
          obtain ⟨r, q, e1, b1, b2, e2, e3, b3, b4, e4⟩ := smp_parts x
          have HG := Lib.hid (show frF F k i = q - 32768 by unfold frF; rw [hx]; exact e4)
          have c2 := HX2.out.cell hF2.out.2.2.2.2 i hlt
          have f2 := hF2.out.2.2.2.2.frozen i
          have hix := fun w => run_rx (c := c0') (b := bl) (o := o) hkn w
          clear hx e4 hi16
          go_wp2_with fail
          go_roundw
          case rel => exact ⟨i + 1, _, by omega, by go_num, Lib.hid (hF2.out.set i _), Lib.hid ((HX2.out.set (k := i) _ hlt).ext fun j _ => by rw [← Tl.mix_next _ _ i j, HG.out]), Lib.hid fun j hj => (cell_set_other _ _ _ _ (by dsimp only; omega)).trans (HL2.out j hj)⟩
          case measure => simp [intOf]; omega
        · have i1 : ¬ (i : Int) < 16 := by omega
          obtain rfl : i = 16 := by omega
          have HR := Lib.hid (HX2.out.ext (g := frF F k) fun j hj => Tl.mix_all _ _ 16 j hj)
          have hk3 : k + 1 ≤ 1000000 := by omega
          clear HX2 HL2 hlt hi16
          obtain ⟨q1, q2, q3, q4, q5⟩ := hF2.out
          have HB2 := Lib.hid q1
          have HK2 := Lib.hid q2
          have HA2 := Lib.hid q5
          clear q1 q2 q3 q4 q5 hF2
          go_wp2_with (first
            | refine wpList_load_all (by rfl) 32 _ rfl b rfl HR.out HA2.out Tryz.underlying32 rfl HI.out ?_
            | (refine wpList_slice_one rfl _ rfl rfl HR.out ?_
               replace HK2 := Lib.hid (HK2.out.below ((Below.refl _ _).alloc (Nat.le_refl _) (.cells X 32)))
               replace HB2 := Lib.hid (HB2.out.alloc HB2.out.size (.cells X 32))
               have HX := Lib.hid (At.new wr X 32)
               clear HA2
               revert HK2 HB2 HX
               generalize wr.heap.size = b6
               generalize World.alloc _ _ = W6
               intro HK2 HB2 HX)
            | (refine wpList_append_block rfl _ _ rfl w.heap.size (frF F) a k c rfl HK2.out b6 rfl HX.out HR.out hk3 HB2.out.size ?_
               intro a' c' w7 hB7 hb7 hg7
               have HB7 := Lib.hid (HB2.out.trans hb7)
               have HK7 := Lib.hid hB7
               clear hB7 hb7 hg7 HB2 HK2 HX))
          go_roundw
          case rel => exact ⟨k + 1, _, _, by omega, by go_num, rfl, HB7, HK7⟩
          case measure => simp [intOf]; omega
    · have hkN' : k = N := by omega
      subst hkN'
      have HK3 := HK
      by_cases hkn : k < n
      · have k1 : (k : Int) < n := by omega
        have k2 : ¬ (k : Int) < 30 := by have := HN.out; omega
        go_wp2_with fail
        go_ret
        exact ⟨a, c, rfl, HK.out, HB.out⟩
      · have k1 : ¬ (k : Int) < n := by omega
        go_wp2_with fail
        go_ret
        exact ⟨a, c, rfl, HK.out, HB.out⟩
end Go.Proofs.YtfohinlldchdpaaGreatDoor.En
end
