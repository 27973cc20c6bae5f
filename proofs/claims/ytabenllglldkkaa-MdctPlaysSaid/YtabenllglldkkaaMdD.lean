/- Contracts: mdct.windowed. -/
import Derived.Test.YtabenllglldkkaaMdC
namespace Go.Proofs.Ytabenllglldkkaa.Md
open Go.RowKit Go.Proofs.Ytabenllglldkkaa.Ang

theorem IsRow.set {m k : Nat} {f : Nat → Int} {T : Array Value} (h : IsRow m f T) (x : Int) (hk : k < m) : IsRow m (fun i => if i = k then x else f i) (T.setIfInBounds k (.int .i64 x)) := by
  obtain ⟨h1, h2, h3⟩ := h
  refine ⟨by rw [Array.size_setIfInBounds, h1], ?_, fun i hi => ?_⟩
  · rw [Array.all_eq_true] at h2 ⊢
    intro i hi
    rw [Array.size_setIfInBounds] at hi
    by_cases e : k = i
    · subst e; rw [Array.getElem_setIfInBounds_self]; rfl
    · rw [Array.getElem_setIfInBounds_ne hi e]; exact h2 i hi
  · by_cases e : k = i
    · subst e
      show _ = some (Value.int .i64 (if k = k then x else f k))
      rw [if_pos rfl, Array.getElem?_setIfInBounds_self_of_lt (by omega)]
    · show _ = some (Value.int .i64 (if i = k then x else f i))
      rw [if_neg (by omega), Array.getElem?_setIfInBounds_ne e]; exact h3 i hi

theorem shift15_as (x r : Int) (w : World) (h1 : -1099511627776 ≤ x) (h2 : x ≤ 1099511627776) (h : near x = r) :
    Calls Try.prog 24 #[.int .i64 x, .int .i64 15] w fun e w' => e = .returned (.int .i64 r) ∧ w = w' := by
  subst h; exact shift_15 x w h1 h2

/-- The first k numbers of both halves, the others 0. -/
def half (p : Nat → Int) (k i : Nat) : Int := if i % 16 < k then p i else 0
theorem half_0 (p : Nat → Int) (i : Nat) : half p 0 i = 0 := by unfold half; rw [if_neg (by omega)]
theorem half_all (p : Nat → Int) (i : Nat) : half p 16 i = p i := by unfold half; rw [if_pos (by omega)]
theorem half_next (p : Nat → Int) (k i : Nat) (hk : k < 16) (hi : i < 32) : (if i = k + 16 then p (k + 16) else if i = k then p k else half p k i) = half p (k + 1) i := by
  unfold half
  by_cases h1 : i = k + 16
  · subst h1; rw [if_pos rfl, if_pos (by omega)]
  · by_cases h2 : i = k
    · subst h2; rw [if_neg h1, if_pos rfl, if_pos (by omega)]
    · rw [if_neg h1, if_neg h2]
      by_cases h3 : i % 16 < k
      · rw [if_pos h3, if_pos (by omega)]
      · rw [if_neg h3, if_neg (by omega)]

/-- What holds of the memory while windowed's row is filled: at block b stands the window. -/
def WinInv (w w' : World) (T U Z : Array Value) (b : Nat) (p : Nat → Int) (k : Nat) : Prop :=
  Below w.heap.size w w' ∧ At w' w.heap.size T 24 ∧ At w' (w.heap.size + 1) U 24 ∧ At w' (w.heap.size + 1 + 1) Z 35 ∧ At w' b (rowL 32 winS 32) 35 ∧ ∃ X, IsRow 32 (half p k) X ∧ At w' (w.heap.size + 1 + 1 + 1) X 35

theorem win_start (w w1 : World) (T U Z : Array Value) (p : Nat → Int) (hZ : IsRow 32 (fun _ => 0) Z)
    (h : Below (w.heap.size + 1 + 1 + 1 + 1) ((((w.alloc (.cells T 24)).alloc (.cells U 24)).alloc (.cells Z 35)).alloc (.cells Z 35)) w1) :
    WinInv w (w1.alloc (.cells (rowL 32 winS 32) 35)) T U Z w1.heap.size p 0 := by
  have hs := h.size
  have hb : Below w.heap.size w ((((w.alloc (.cells T 24)).alloc (.cells U 24)).alloc (.cells Z 35)).alloc (.cells Z 35)) :=
    ((((Below.refl _ _).alloc (Nat.le_refl _) _).alloc (by simp) _).alloc (by simp; omega) _).alloc (by simp; omega) _
  have hb1 : Below w.heap.size w w1 := hb.trans (h.mono (by omega))
  refine ⟨hb1.alloc hb1.size _, ?_, ?_, ?_, At.new _ _ _, Z, hZ.ext fun i _ => (half_0 p i).symm, ?_⟩
  · exact (((((At.new _ _ _).alloc _).alloc _).alloc _).below h (by omega)).alloc _
  · have := ((At.new (w.alloc (.cells T 24)) U 24).alloc (.cells Z 35)).alloc (.cells Z 35)
    simp only [World.size_alloc] at this
    exact (this.below h (by omega)).alloc _
  · have := (At.new ((w.alloc (.cells T 24)).alloc (.cells U 24)) Z 35).alloc (.cells Z 35)
    simp only [World.size_alloc] at this
    exact (this.below h (by omega)).alloc _
  · have := At.new (((w.alloc (.cells T 24)).alloc (.cells U 24)).alloc (.cells Z 35)) Z 35
    simp only [World.size_alloc] at this
    exact (this.below h (by omega)).alloc _

set_option maxHeartbeats 1000000 in
theorem windowed_any (T U : Array Value) (f g : Nat → Int) (hT : IsRow 16 f T) (hU : IsRow 16 g U) (hf : Le 1048576 f) (hg : Le 1048576 g) (w : World) :
    Calls Try.prog 25 #[.agg T, .agg U] w fun e w' => e = .returned (.agg (rowL 32 (pS f g) 32)) ∧ Below w.heap.size w w' := by
  obtain ⟨Z, hZ, hZ0, hz, hi⟩ := zero_32
  have HT := Lib.hid hT
  have HU := Lib.hid hU
  have HF := Lib.hid hf
  have HG := Lib.hid hg
  have HZ := Lib.hid hZ
  have HI := Lib.hid hi
  have HW := Lib.hid win_any
  obtain ⟨V, hV⟩ : ∃ V, rowL 32 winS 32 = V := ⟨_, rfl⟩
  have hVs : V.size = 32 := by rw [← hV, rowL_size]
  have HV := Lib.hid hV
  have HVs := Lib.hid hVs
  clear hT hU hZ0 hi hf hg hZ hV hVs
  go_enter Try.func25, Try.ntmps25
  go_wp2_with (first
    | (go_at_call 19; refine (win_any _).mono ?_; rintro e w1 ⟨rfl, hw1⟩)
    | refine wpList_store_row rfl 35 _ _ rfl w1.heap.size (rowL 32 winS 32) rfl rfl _ _ (heap_alloc_new _ _) (HI.out _ (rowL_size _ _ _)) (by rw [rowL_size, HZ.out.1]) (rowL_one _ _ _) ?_)
  rw [World.setRow_alloc_new]
  have hbW := win_start w w1 T U Z (pS f g) HZ.out (by simpa using hw1)
  have hbb : w.heap.size + 1 + 1 + 1 + 1 ≤ w1.heap.size := by simpa using hw1.size
  revert hbW hbb
  generalize w1.alloc (.cells (rowL 32 winS 32) 35) = W
  generalize w1.heap.size = b
  intro hbW hbb
  clear hw1
  go_loopw [9] (fun i w' => ∃ k : Nat, k ≤ 16 ∧ i = .int .i64 k ∧ WinInv w w' T U Z b (pS f g) k) (fun i _ => 16 - (intOf i).toNat)
  case atStart => exact ⟨0, Nat.zero_le _, rfl, hbW⟩
  case round =>
    obtain ⟨k, hk, rfl, hinv⟩ := hrel
    clear hbW
    obtain ⟨hb, h0, h1, h2, h4, X, hX, h3⟩ := hinv
    have HX := Lib.hid hX
    have H0 := Lib.hid h0
    have H1 := Lib.hid h1
    have H2 := Lib.hid h2
    have H3 := Lib.hid h3
    have H4 := Lib.hid h4
    by_cases hk16 : k < 16
    · have c0 := HT.out.cell h0 k hk16
      have c4 := (isRow 32 winS).cell h4 k (by omega)
      have c3 := hX.cell h3 k (by omega)
      have f3 := h3.frozen k
      obtain ⟨x, hx⟩ : ∃ x, f k = x := ⟨_, rfl⟩
      obtain ⟨v, hv⟩ : ∃ x, winS k = x := ⟨_, rfl⟩
      obtain ⟨r, hr⟩ : ∃ r, near (x * v) = r := ⟨_, rfl⟩
      obtain ⟨p1, p2⟩ := le_ab (ab_prod (HF.out k hk16) (win_bd k))
      rw [hx] at c0
      rw [hv] at c4
      rw [hx, hv] at p1 p2
      simp only [Int.reduceMul] at p1 p2
      have HR := Lib.hid hr
      have HP := Lib.hid (show pS f g k = r by unfold pS xs2; rw [if_pos hk16, hx, hv, hr])
      have k1 : (k : Int) < 16 := by omega
      have k2 : (k : Int) < 32 := by omega
      have k0 : (0 : Int) ≤ (k : Int) := by omega
      have hs : IntKind.i64.wrap (x * v) = x * v := IntWalk.i64_in _ (by omega)
      clear h0 h1 h2 h3 h4 hx hv hr hX
      go_wp2_with fail
      go_region_held3 (fun w' => w'.cell? ⟨w.heap.size, k, none⟩ = some (.int .i64 x) ∧ w'.cell? ⟨b, k, none⟩ = some (.int .i64 v)) (first | assumption | exact ⟨c0, c4⟩ | exact cells2 ⟨c0, c4⟩ (by dsimp only; omega) (by dsimp only; omega))
        ((go_at_call 24; (with_reducible refine (shift15_as (x * v) r _ (by omega) (by omega) HR.out).mono ?_); rintro e w' ⟨rfl, rfl⟩))
      have B1 : Below w.heap.size w (wr.setCell ⟨w.heap.size + 1 + 1 + 1, k, none⟩ (.int .i64 r)).drew := (hb.setCell (by dsimp only; omega) _).drew
      have G0 : At (wr.setCell ⟨w.heap.size + 1 + 1 + 1, k, none⟩ (.int .i64 r)).drew w.heap.size T 24 := H0.out.setCell_other (by dsimp only; omega)
      have G1 : At (wr.setCell ⟨w.heap.size + 1 + 1 + 1, k, none⟩ (.int .i64 r)).drew (w.heap.size + 1) U 24 := H1.out.setCell_other (by dsimp only; omega)
      have G2 : At (wr.setCell ⟨w.heap.size + 1 + 1 + 1, k, none⟩ (.int .i64 r)).drew (w.heap.size + 1 + 1) Z 35 := H2.out.setCell_other (by dsimp only; omega)
      have G4 : At (wr.setCell ⟨w.heap.size + 1 + 1 + 1, k, none⟩ (.int .i64 r)).drew b (rowL 32 winS 32) 35 := H4.out.setCell_other (by dsimp only; omega)
      have G3 : At (wr.setCell ⟨w.heap.size + 1 + 1 + 1, k, none⟩ (.int .i64 r)).drew (w.heap.size + 1 + 1 + 1) (X.setIfInBounds k (.int .i64 r)) 35 := H3.out.setCell
      have HX1 := Lib.hid (HX.out.set (k := k) r (by omega))
      revert B1 G0 G1 G2 G3 G4
      generalize (wr.setCell ⟨w.heap.size + 1 + 1 + 1, k, none⟩ (.int .i64 r)).drew = W1
      intro B1 G0 G1 G2 G4 G3
      clear c0 c4 c3 f3 hs p1 p2 HR H0 H1 H2 H3 H4 hb
      have H0 := Lib.hid G0
      have H1 := Lib.hid G1
      have H2 := Lib.hid G2
      have H3 := Lib.hid G3
      have H4 := Lib.hid G4
      have c0 := HU.out.cell G1 k hk16
      have c4 := (isRow 32 winS).cell G4 (k + 16) (by omega)
      have c3 := HX1.out.cell G3 (k + 16) (by omega)
      have f3 := G3.frozen (k + 16)
      obtain ⟨y, hy⟩ : ∃ x, g k = x := ⟨_, rfl⟩
      obtain ⟨u, hu⟩ : ∃ x, winS (k + 16) = x := ⟨_, rfl⟩
      obtain ⟨s, hs⟩ : ∃ r, near (y * u) = r := ⟨_, rfl⟩
      obtain ⟨p1, p2⟩ := le_ab (ab_prod (HG.out k hk16) (win_bd (k + 16)))
      rw [hy] at c0
      rw [hu] at c4
      rw [hy, hu] at p1 p2
      simp only [Int.reduceMul] at p1 p2
      have HS := Lib.hid hs
      have HQ := Lib.hid (show pS f g (k + 16) = s by unfold pS xs2; rw [if_neg (by omega), show k + 16 - 16 = k by omega, hy, hu, hs])
      have k3 : (k : Int) + 16 < 32 := by omega
      have k4 : (0 : Int) ≤ (k : Int) + 16 := by omega
      have hm : IntKind.i64.wrap (y * u) = y * u := IntWalk.i64_in _ (by omega)
      have hn : IntKind.i64.wrap ((k : Int) + 16) = (k : Int) + 16 := IntWalk.i64_in _ (by omega)
      have ht : ((k : Int) + 16).toNat = k + 16 := by omega
      clear G0 G1 G2 G3 G4 hy hu hs
      go_wp2_with fail
      go_region_held3 (fun w' => w'.cell? ⟨w.heap.size + 1, k, none⟩ = some (.int .i64 y) ∧ w'.cell? ⟨b, k + 16, none⟩ = some (.int .i64 u)) (first | assumption | exact ⟨c0, c4⟩ | exact cells2 ⟨c0, c4⟩ (by dsimp only; omega) (by dsimp only; omega))
        ((go_at_call 24; (with_reducible refine (shift15_as (y * u) s _ (by omega) (by omega) HS.out).mono ?_); rintro e w' ⟨rfl, rfl⟩))
      clear hn ht
      go_wp2
      go_roundw
      case rel => exact ⟨k + 1, by omega, by go_num, (B1.setCell (by dsimp only; omega) _).drew, H0.out.setCell_other (by dsimp only; omega), H1.out.setCell_other (by dsimp only; omega), H2.out.setCell_other (by dsimp only; omega), H4.out.setCell_other (by dsimp only; omega), _, (HX1.out.set (k := k + 16) s (by omega)).ext fun i hi => by rw [← half_next _ k i hk16 hi, HP.out, HQ.out], H3.out.setCell⟩
      case measure => simp [intOf]; omega
    · clear h0 h1 h2 h3 h4
      obtain rfl : k = 16 := by omega
      obtain rfl : X = rowL 32 (pS f g) 32 := hX.eq (isRow _ _) fun i _ => half_all _ i
      clear hX
      go_wp2_with (first
        | refine wpList_load_row rfl 35 _ rfl (w.heap.size + 1 + 1 + 1) rfl _ _ (0, 0) _ H3.out Try.underlying35 rfl (HI.out _ (rowL_size _ _ _)) ?_
        | refine wpList_store_row rfl 35 _ _ rfl (w.heap.size + 1 + 1) (rowL 32 (pS f g) 32) rfl rfl _ _ H2.out (HI.out _ (rowL_size _ _ _)) (by rw [HZ.out.1, rowL_size]) (rowL_one _ _ _) ?_)
      exact bodyPost_ret (v := .agg (rowL 32 (pS f g) 32)) (results_cell_row rfl _ _ (w.heap.size + 1 + 1) 35 (rowL 32 (pS f g) 32) (0, 0) _ rfl H2.out.setRow Try.underlying35 rfl (HI.out _ (rowL_size _ _ _))) rfl ⟨rfl, below_setRow' hb (by omega) _⟩
end Go.Proofs.Ytabenllglldkkaa.Md
