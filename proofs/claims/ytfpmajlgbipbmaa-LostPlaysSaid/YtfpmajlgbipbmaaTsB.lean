/- TlB without Lift: tilt.each. -/
import Derived.Test.YtfpmajlgbipbmaaTsA
namespace Go.Proofs.Ytfpmajlgbipbmaa.Tl
open Go.RowKit Go.Proofs.Ytfpmajlgbipbmaa.Row
set_option linter.unusedVariables false

/-- The first k numbers g's, the others f's. -/
def mix (g f : Nat → Int) (k i : Nat) : Int := if i < k then g i else f i

theorem mix_0 (g f : Nat → Int) (i : Nat) : mix g f 0 i = f i := by unfold mix; rw [if_neg (by omega)]

theorem mix_all (g f : Nat → Int) (m i : Nat) (h : i < m) : mix g f m i = g i := by unfold mix; rw [if_pos h]

theorem mix_next (g f : Nat → Int) (k i : Nat) : (if i = k then g k else mix g f k i) = mix g f (k + 1) i := by
  unfold mix
  by_cases h : i = k
  · subst h; rw [if_pos rfl, if_pos (by omega)]
  · rw [if_neg h]
    by_cases h2 : i < k
    · rw [if_pos h2, if_pos (by omega)]
    · rw [if_neg h2, if_neg (by omega)]

/-- What holds of the memory while each's row is filled. -/
def EachInv (w w' : World) (Z : Array Value) (g f : Nat → Int) (B k : Nat) : Prop :=
  Below B w w' ∧ At w' (w.heap.size + 1) Z 29 ∧ ∃ X, IsRow 16 (mix g f k) X ∧ At w' w.heap.size X 29

theorem each_start (w : World) (T Z : Array Value) (g f : Nat → Int) (B : Nat) (hB : B ≤ w.heap.size) (hT : IsRow 16 f T) : EachInv w ((w.alloc (.cells T 29)).alloc (.cells Z 29)) Z g f B 0 := by
  refine ⟨((Below.refl _ _).alloc hB _).alloc (by simp; omega) _, ?_, T, hT.ext fun i _ => (mix_0 g f i).symm, (At.new _ _ _).alloc _⟩
  have := At.new (w.alloc (.cells T 29)) Z 29
  simpa using this

/-- All that stood, but block c, is as it was. -/
def Kept (c : Nat) (w w' : World) : Prop := ∀ b, b < w.heap.size → b ≠ c → w'.heap[b]? = w.heap[b]?

theorem Kept.start (c : Nat) (w : World) (o o' : Obj) : Kept c w ((w.alloc o).alloc o') := fun b hb _ => (Below.heap_alloc _ _ _ (by simp; omega)).trans (Below.heap_alloc _ _ _ hb)

theorem Kept.set {c b i : Nat} {w w' : World} {v : Value} (h : Kept c w w') (hb : b = c ∨ w.heap.size ≤ b) : Kept c w (w'.setCell ⟨b, i, none⟩ v) := fun k hk hc => (heap_setCell_other _ _ _ _ (by dsimp only; omega)).trans (h k hk hc)

theorem Kept.row {c b : Nat} {w w' : World} {C : Array Value} (h : Kept c w w') (hb : w.heap.size ≤ b) : Kept c w (w'.setRow b C) := fun k hk hc => (Go.setRow_other _ _ _ _ (by omega)).trans (h k hk hc)

theorem Kept.upd {c : Nat} {w w' w2 : World} {s : Int} (h : Kept c w w') (hU : Upd c w' w2 s) : Kept c w w2 := fun k hk hc => (hU.2.2 k hc).trans (h k hk hc)

theorem Kept.at {c b : Nat} {w w' : World} {A : Array Value} {t : TypeId} (h : Kept c w w') (hA : At w b A t) (hb : b ≠ c) : At w' b A t := (h b hA.lt hb).trans hA

set_option maxRecDepth 100000 in
set_option maxHeartbeats 1000000 in
theorem each_la (T : Array Value) (f : Nat → Int) (last s0 : Int) (c : Nat) (w : World) (hT : IsRow 16 f T) (hs0 : ct22 last = s0) (hC : At w c #[.int .i64 s0] 3) :
    Calls Try.prog 38 #[.agg T, .func (.func 49) #[] #[.pointer (some ⟨c, 0, none⟩)]] w fun e w' => e = .returned (.agg (rowL 16 (laS last f) 16)) ∧ Below c w w' ∧ Kept c w w' := by
  obtain ⟨Z, hZ, hZ0, hz, hi⟩ := zero_block
  have HT := Lib.hid hT
  have HZ := Lib.hid hZ
  have HI := Lib.hid hi
  have hlt := hC.lt
  subst hs0
  have HC0 := Lib.hid ((hC.alloc (.cells T 29)).alloc (.cells Z 29))
  clear hC
  have hstart := each_start w T Z (laS last f) f c (by omega) hT
  have H0 := Lib.hid (((At.new w T 29).alloc (.cells Z 29)))
  clear hT hZ0 hi hZ
  go_enter Try.func38, Try.ntmps38
  go_wp2_with (refine wpList_load_row rfl 29 _ rfl w.heap.size rfl _ _ (0, 0) _ H0.out Try.underlying29 rfl (HI.out _ HT.out.1) ?_)
  clear H0
  go_loopw [8] (fun i w' => ∃ k : Nat, k ≤ 16 ∧ i = .int .i64 k ∧ EachInv w w' Z (laS last f) f c k ∧ At w' c #[.int .i64 (outS last f k)] 3 ∧ Kept c w w') (fun i _ => 16 - (intOf i).toNat)
  case atStart => exact ⟨0, Nat.zero_le _, rfl, hstart, HC0.out, Kept.start c w _ _⟩
  case round =>
    obtain ⟨k, hk, rfl, ⟨hb, h1, X, hX, h0⟩, hcc, hkp⟩ := hrel
    clear hstart
    have H0 := Lib.hid h0
    have H1 := Lib.hid h1
    have HX := Lib.hid hX
    by_cases hk16 : k < 16
    · have hc := HT.out.2.2 k hk16
      obtain ⟨x, hx⟩ : ∃ x, f k = x := ⟨_, rfl⟩
      rw [hx] at hc
      have hr := run_index Try.underlying29 hk16 hc
      have k1 : (k : Int) < 16 := by omega
      have k0 : (0 : Int) ≤ (k : Int) := by omega
      obtain ⟨s, hs⟩ : ∃ s, outS last f k = s := ⟨_, rfl⟩
      obtain ⟨b1, b2⟩ := out_bd last f k
      obtain ⟨p, hp⟩ : ∃ p, ct22 x = p := ⟨_, rfl⟩
      obtain ⟨q, hq⟩ : ∃ q, prt s = q := ⟨_, rfl⟩
      obtain ⟨r, hrr⟩ : ∃ r, ct22 (p + q) = r := ⟨_, rfl⟩
      rw [hs] at b1 b2
      have HP := Lib.hid hp
      have HQ := Lib.hid hq
      have HR := Lib.hid hrr
      have HG := Lib.hid (show laS last f k = r by show ct22 (ct22 (f k) + prt (outS last f k)) = r; rw [hx, hs, hp, hq, hrr])
      have HN := Lib.hid (show outS last f (k + 1) = r by show ct22 (ct22 (f k) + prt (outS last f k)) = r; rw [hx, hs, hp, hq, hrr])
      have HC := Lib.hid (show At wr c #[.int .i64 s] 3 by rw [← hs]; exact hcc)
      clear hs hp hq hrr hcc
      clear h0 h1 hX hc hx
      go_wp2_with (go_at_call 49; (with_reducible refine (layer1_any x s p q r c _ HC.out b1 b2 HP.out HQ.out HR.out).mono ?_); rintro e w1 ⟨rfl, hU⟩; have HU := Lib.hid hU; have c2 := HX.out.cell (hU.at H0.out (by omega)) k hk16; have f2 := (hU.at H0.out (by omega)).frozen k; clear hU)
      go_roundw
      case rel => exact ⟨k + 1, by omega, by go_num, ⟨((hb.trans HU.out.1).setCell (by dsimp only; omega) _), ((HU.out.at H1.out (by omega)).setCell_other (by dsimp only; omega)), _, (HX.out.set (k := k) r hk16).ext fun i _ => by rw [← mix_next _ _ k i, HG.out], At.setCell (HU.out.at H0.out (by omega))⟩, by rw [HN.out]; exact HU.out.2.1.setCell_other (by dsimp only; omega), (hkp.upd HU.out).set (.inr (by omega))⟩
      case measure => simp [intOf]; omega
    · clear h0 h1
      obtain rfl : k = 16 := by omega
      obtain rfl : X = rowL 16 (laS last f) 16 := hX.eq (isRow _ _) fun i hi => mix_all _ _ 16 i hi
      clear hX
      go_wp2_with (first
        | refine wpList_load_row rfl 29 _ rfl w.heap.size rfl _ _ (0, 0) _ H0.out Try.underlying29 rfl (HI.out _ (rowL_size _ _ _)) ?_
        | refine wpList_store_row rfl 29 _ _ rfl (w.heap.size + 1) (rowL 16 (laS last f) 16) rfl rfl _ _ H1.out (HI.out _ (rowL_size _ _ _)) (by rw [HZ.out.1, rowL_size]) (rowL_one _ _ _) ?_)
      exact bodyPost_ret (v := .agg (rowL 16 (laS last f) 16)) (results_cell_row rfl _ _ (w.heap.size + 1) 29 (rowL 16 (laS last f) 16) (0, 0) _ rfl H1.out.setRow Try.underlying29 rfl (HI.out _ (rowL_size _ _ _))) rfl ⟨rfl, below_setRow' hb (by omega) _, hkp.row (by omega)⟩

set_option maxRecDepth 100000 in
set_option maxHeartbeats 1000000 in
theorem each_so (T : Array Value) (f : Nat → Int) (w : World) (hT : IsRow 16 f T) :
    Calls Try.prog 38 #[.agg T, .func (.func 40) #[] #[]] w fun e w' => e = .returned (.agg (rowL 16 (fun k => ct16 (f k)) 16)) ∧ Below w.heap.size w w' := by
  obtain ⟨Z, hZ, hZ0, hz, hi⟩ := zero_block
  have HT := Lib.hid hT
  have HZ := Lib.hid hZ
  have HI := Lib.hid hi
  have hstart := each_start w T Z (fun k => ct16 (f k)) f w.heap.size (by omega) hT
  have H0 := Lib.hid (((At.new w T 29).alloc (.cells Z 29)))
  clear hT hZ0 hi hZ
  go_enter Try.func38, Try.ntmps38
  go_wp2_with (refine wpList_load_row rfl 29 _ rfl w.heap.size rfl _ _ (0, 0) _ H0.out Try.underlying29 rfl (HI.out _ HT.out.1) ?_)
  clear H0
  go_loopw [8] (fun i w' => ∃ k : Nat, k ≤ 16 ∧ i = .int .i64 k ∧ EachInv w w' Z (fun k => ct16 (f k)) f w.heap.size k) (fun i _ => 16 - (intOf i).toNat)
  case atStart => exact ⟨0, Nat.zero_le _, rfl, hstart⟩
  case round =>
    obtain ⟨k, hk, rfl, ⟨hb, h1, X, hX, h0⟩⟩ := hrel
    clear hstart
    have H0 := Lib.hid h0
    have H1 := Lib.hid h1
    have HX := Lib.hid hX
    by_cases hk16 : k < 16
    · have hc := HT.out.2.2 k hk16
      obtain ⟨x, hx⟩ : ∃ x, f k = x := ⟨_, rfl⟩
      rw [hx] at hc
      have hr := run_index Try.underlying29 hk16 hc
      have k1 : (k : Int) < 16 := by omega
      have k0 : (0 : Int) ≤ (k : Int) := by omega
      obtain ⟨r, hrr⟩ : ∃ r, ct16 x = r := ⟨_, rfl⟩
      have HR := Lib.hid hrr
      have HG := Lib.hid (show ct16 (f k) = r by rw [hx, hrr])
      have c2 := HX.out.cell h0 k hk16
      have f2 := h0.frozen k
      clear hrr
      clear h0 h1 hX hc hx
      go_wp2_with (go_at_call 40; (with_reducible refine (sound1_any x r _ HR.out).mono ?_); rintro e w' ⟨rfl, rfl⟩)
      go_roundw
      case rel => exact ⟨k + 1, by omega, by go_num, ⟨hb.setCell (by dsimp only; omega) _, At.setCell_other H1.out (by dsimp only; omega), _, (HX.out.set (k := k) r hk16).ext fun i _ => by rw [← mix_next _ _ k i, HG.out], At.setCell H0.out⟩⟩
      case measure => simp [intOf]; omega
    · clear h0 h1
      obtain rfl : k = 16 := by omega
      obtain rfl : X = rowL 16 (fun k => ct16 (f k)) 16 := hX.eq (isRow _ _) fun i hi => mix_all _ _ 16 i hi
      clear hX
      go_wp2_with (first
        | refine wpList_load_row rfl 29 _ rfl w.heap.size rfl _ _ (0, 0) _ H0.out Try.underlying29 rfl (HI.out _ (rowL_size _ _ _)) ?_
        | refine wpList_store_row rfl 29 _ _ rfl (w.heap.size + 1) (rowL 16 (fun k => ct16 (f k)) 16) rfl rfl _ _ H1.out (HI.out _ (rowL_size _ _ _)) (by rw [HZ.out.1, rowL_size]) (rowL_one _ _ _) ?_)
      exact bodyPost_ret (v := .agg (rowL 16 (fun k => ct16 (f k)) 16)) (results_cell_row rfl _ _ (w.heap.size + 1) 29 (rowL 16 (fun k => ct16 (f k)) 16) (0, 0) _ rfl H1.out.setRow Try.underlying29 rfl (HI.out _ (rowL_size _ _ _))) rfl ⟨rfl, below_setRow' hb (by omega) _⟩
end Go.Proofs.Ytfpmajlgbipbmaa.Tl
