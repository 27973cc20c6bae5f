/- Contracts of prices and Cost. -/
import Derived.Test.YtfcaigggacgfkaaDoorSpB
set_option maxRecDepth 100000
set_option linter.unusedVariables false
namespace Go.Proofs.YtfcaigggacgfkaaDoor.Sp
open Go.RowKit Go.Proofs.YtfcaigggacgfkaaDoor.Row

/-- The prices, band by band. -/
def pf (p : Nat) : Int := pr (p / 8) (p % 8)
theorem pf_at {b k : Nat} (h : k < 8) : pf (b * 8 + k) = pr b k := by
  unfold pf
  rw [show (b * 8 + k) / 8 = b by omega, show (b * 8 + k) % 8 = k by omega]
def upP (n p : Nat) : Int := if p < n then pf p else 0
theorem upP_next (n p : Nat) : (if p = n then pf n else upP n p) = upP (n + 1) p := by
  unfold upP
  by_cases c : p = n
  · rw [if_pos c, if_pos (by omega), c]
  · rw [if_neg c]
    by_cases c2 : p < n
    · rw [if_pos c2, if_pos (by omega)]
    · rw [if_neg c2, if_neg (by omega)]

theorem zero32 : ∃ Z, IsRow 32 (fun _ => 0) Z ∧ (∀ f, rowL 32 f 0 = Z) ∧ (∀ w, (zeroValue 38).run Tryd.prog w = .ok (.agg Z) w) ∧ ∀ A : Array Value, A.size = 32 → (Tryd.prog.info? 38).map (·.size) = some A.size :=
  zero_row (by kernel_rfl)

/-- A row by value, of m numbers. -/
def RetR (m : Nat) (w0 : World) (f : Nat → Int) (e : Ending) (w' : World) : Prop := (∃ T, e = .returned (.agg T) ∧ IsRow m f T) ∧ Below w0.heap.size w0 w'

/-- What stands while prices are written down. -/
def PrS (w w' : World) (Z T : Array Value) : Prop := At w' w.heap.size Z 38 ∧ At w' (w.heap.size + 1) T 38 ∧ Below w.heap.size w w'
theorem PrS.start (w : World) (Z : Array Value) : PrS w ((w.alloc (.cells Z 38)).alloc (.cells Z 38)) Z Z := by
  refine ⟨(At.new w Z _).alloc _, ?_, ((Below.refl _ _).alloc (Nat.le_refl _) _).alloc (by simp) _⟩
  have := At.new (w.alloc (.cells Z 38)) Z 38
  simpa using this
theorem PrS.next {w w1 w2 : World} {Z T : Array Value} (h : PrS w w1 Z T) (hb : Below w1.heap.size w1 w2) : PrS w w2 Z T :=
  ⟨h.1.below hb h.1.lt, h.2.1.below hb h.2.1.lt, below_trans h.2.2 hb h.2.2.size⟩
theorem PrS.set {w w1 : World} {Z T : Array Value} (h : PrS w w1 Z T) (i : Nat) (v : Value) : PrS w (w1.setCell ⟨w.heap.size + 1, i, none⟩ v) Z (T.setIfInBounds i v) :=
  ⟨h.1.setCell_other (by dsimp only; omega), h.2.1.setCell, h.2.2.setCell (by dsimp only; omega) _⟩

set_option maxHeartbeats 400000 in
theorem prices_as (w : World) (hT : Lv.Tab w) :
    Calls Tryd.prog 19 #[] w (RetR 32 w pf) := by
  obtain ⟨Z, hZ, hZ0, hz, hi⟩ := zero32
  have HI := Lib.hid hi
  have HTB := Lib.hid hT
  have HZ := Lib.hid (hZ.ext fun p _ => (show (0 : Int) = upP (0 * 8) p by unfold upP; rw [if_neg (by omega)]))
  have HZS := Lib.hid hZ.1
  have HS := Lib.hid (PrS.start w Z)
  clear hZ hZ0 hi hT
  go_enter Tryd.func19, Tryd.ntmps19
  go_wp2_with fail
  go_loopw [6] (fun i w' => ∃ (b : Nat) (T : Array Value), b ≤ 4 ∧ i = .int .i64 b ∧ Hid (PrS w w' Z T) ∧ Hid (IsRow 32 (upP (b * 8)) T)) (fun i _ => 4 - (intOf i).toNat)
  case atStart => exact ⟨0, Z, by omega, rfl, HS, HZ⟩
  case round =>
    obtain ⟨b, T, hb, rfl, HW, HT⟩ := hrel
    clear HS
    by_cases hlt : b < 4
    · have HC := Lib.hid (fun (k : Nat) w' (h : Below w.heap.size w w') => cost_as b k (P b k) w' (HTB.out.next h) hlt (cI_nat b k))
      have HP0 := Lib.hid (P_zero hlt)
      have HPL := Lib.hid (P_le b)
      go_wp2_with fail
      refine (HC.out 0 _ HW.out.2.2).mono ?_
      rintro e w1 ⟨rfl, h1⟩
      have HW1 := Lib.hid (HW.out.next h1)
      clear h1 HW
      go_wp2_with fail
      go_loopw [3, 11] (fun q i w' => ∃ (k : Nat) (T : Array Value), k ≤ 8 ∧ i = .int .i64 k ∧ q = .int .i64 (P b k) ∧ Hid (PrS w w' Z T) ∧ Hid (IsRow 32 (upP (b * 8 + k)) T)) (fun _ i _ => 8 - (intOf i).toNat)
      case atStart => exact ⟨0, T, by omega, rfl, rfl, HW1, HT⟩
      case round =>
        obtain ⟨k, T1, hk, rfl, rfl, HW, HT1⟩ := hrel
        clear HW1 HT
        by_cases hl8 : k < 8
        · have p1 := HPL.out k
          have p2 := HPL.out (k + 1)
          have HN := Lib.hid (show upP (b * 8 + k) = upP (b * 8 + k) from rfl)
          have HF := Lib.hid (show (P b (k + 1) : Int) - P b k = pf (b * 8 + k) by rw [pf_at hl8]; rfl)
          have HC1 := Lib.hid (HC.out (k + 1))
          obtain ⟨x, hx⟩ : ∃ x, P b k = x := ⟨_, rfl⟩
          obtain ⟨y, hy⟩ : ∃ y, P b (k + 1) = y := ⟨_, rfl⟩
          have HY := Lib.hid hy
          rw [hx] at p1 ⊢
          rw [hy] at p2 HC1
          rw [hx, hy] at HF
          clear hx hy HN
          have k0 : (0 : Int) ≤ (k : Int) := by omega
          have k1 : (k : Int) < 8 := by omega
          have b0 : (0 : Int) ≤ (b : Int) := by omega
          have b1 : (b : Int) < 4 := by omega
          go_wp2_with fail
          refine (HC1.out _ HW.out.2.2).mono ?_
          rintro e w2 ⟨rfl, h2⟩
          have HW2 := Lib.hid (HW.out.next h2)
          clear h2 HW
          have c0 := HT1.out.cell HW2.out.2.1 (b * 8 + k) (by omega)
          have f0 := HW2.out.2.1.frozen (b * 8 + k)
          go_wp2_with fail
          go_roundw
          case rel => exact ⟨k + 1, _, by omega, by go_num, congrArg (Value.int .i64) (by rw [HY.out]), Lib.hid (HW2.out.set _ _), Lib.hid ((HT1.out.set _ (show b * 8 + k < 32 by omega)).ext fun p _ => by rw [HF.out]; exact upP_next (b * 8 + k) p)⟩
          case measure => simp [intOf]; omega
        · obtain rfl : k = 8 := by omega
          go_wp2_with fail
          go_roundw
          case rel => exact ⟨b + 1, T1, by omega, by go_num, HW, Lib.hid (by rw [show (b + 1) * 8 = b * 8 + 8 by omega]; exact HT1.out)⟩
          case measure => simp [intOf]; omega
    · obtain rfl : b = 4 := by omega
      have HT2 := Lib.hid (HT.out.ext (g := pf) fun p hp => by unfold upP; rw [if_pos (by omega)])
      go_wp2_with (first
        | refine wpList_load_row rfl 38 _ rfl (w.heap.size + 1) rfl _ _ (0, 0) _ HW.out.2.1 Tryd.underlying38 rfl (HI.out _ HT2.out.1) ?_
        | refine wpList_store_row rfl 38 _ _ rfl w.heap.size T rfl rfl _ _ HW.out.1 (HI.out _ HT2.out.1) (by rw [HZS.out, HT2.out.1]) HT2.out.2.1 ?_)
      exact bodyPost_ret (v := .agg T) (results_cell_row rfl _ _ w.heap.size 38 T (0, 0) _ rfl HW.out.1.setRow Tryd.underlying38 rfl (HI.out _ HT2.out.1)) rfl ⟨⟨T, rfl, HT2.out⟩, below_setRow' HW.out.2.2 (by omega) _⟩

/-- What all bands' pulses cost: of the first n. -/
def sc (k : Nat → Int) : Nat → Nat
  | 0 => 0
  | n + 1 => sc k n + cI n (k n)
theorem sc_le (k : Nat → Int) : ∀ n, sc k n ≤ n * 33
  | 0 => Nat.zero_le _
  | n + 1 => by have := sc_le k n; have := cI_le n (k n); rw [sc]; omega

theorem costAll_as (T : Array Value) (k : Nat → Int) (w : World) (hR : IsRow 4 k T) (hT : Lv.Tab w) :
    Calls Tryd.prog 11 #[.agg T] w fun e w' => e = .returned (.int .i64 (sc k 4)) ∧ Below w.heap.size w w' := by
  obtain ⟨Z, hZ, hZ0, hz, hi⟩ := zero4
  have HI := Lib.hid (hi T hR.1)
  have HR := Lib.hid hR
  have HTB := Lib.hid hT
  have H0 := Lib.hid (At.new w T 22)
  have HB := Lib.hid ((Below.refl w.heap.size w).alloc (Nat.le_refl _) (.cells T 22))
  clear hZ hZ0 hi hT hR hz
  go_enter Tryd.func11, Tryd.ntmps11
  go_wp2_with (refine wpList_load_row rfl 22 _ rfl w.heap.size rfl _ _ (0, 0) _ H0.out Tryd.underlying22 rfl HI.out ?_)
  clear H0
  go_loopw [3, 7] (fun s i w' => ∃ b : Nat, b ≤ 4 ∧ i = .int .i64 b ∧ s = .int .i64 (sc k b) ∧ Hid (Below w.heap.size w w')) (fun _ i _ => 4 - (intOf i).toNat)
  case atStart => exact ⟨0, by omega, rfl, rfl, HB⟩
  case round =>
    obtain ⟨b, hb, rfl, rfl, HW⟩ := hrel
    clear HB
    by_cases hlt : b < 4
    · have hc := HR.out.2.2 b hlt
      have hs := sc_le k b
      have HN := Lib.hid (show sc k (b + 1) = sc k b + cI b (k b) from rfl)
      have hcl := cI_le b (k b)
      have HC := Lib.hid (cost_as b (k b) (cI b (k b)) wr (HTB.out.next HW.out) hlt rfl)
      obtain ⟨x, hx⟩ : ∃ x, k b = x := ⟨_, rfl⟩
      rw [hx] at hc HN hcl HC
      obtain ⟨s, hse⟩ : ∃ s, sc k b = s := ⟨_, rfl⟩
      obtain ⟨y, hy⟩ : ∃ y, cI b x = y := ⟨_, rfl⟩
      rw [hse] at hs HN ⊢
      rw [hy] at HN HC hcl
      have hr := run_index Tryd.underlying22 hlt hc
      clear hc hx hse hy
      go_wp2_with fail
      refine HC.out.mono ?_
      rintro e w1 ⟨rfl, h1⟩
      have HW1 := Lib.hid (below_trans HW.out h1 HW.out.size)
      clear h1 HW
      go_wp2_with fail
      go_roundw
      case rel => exact ⟨b + 1, by omega, by go_num, congrArg (Value.int .i64) (by rw [HN.out]; omega), HW1⟩
      case measure => simp [intOf]; omega
    · obtain rfl : b = 4 := by omega
      go_wp2_with fail
      go_ret
      exact ⟨rfl, HW.out⟩
end Go.Proofs.YtfcaigggacgfkaaDoor.Sp
