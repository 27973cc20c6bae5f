/- Contracts of level's Band and Put. -/
import Derived.Test.YtlnmpgbknalagaaDoorLvA
namespace Go.Proofs.YtlnmpgbknalagaaDoor.Lv
open Go.RowKit Go.Proofs.YtlnmpgbknalagaaDoor.Row

/-- A new row of n numbers, f's, is handed back, and all that stood stands. -/
def RetRow (w w' : World) (e : Ending) (n : Nat) (f : Nat → Int) : Prop := ∃ g U, e = .returned (.slice (some ⟨g, 0, none⟩) n n) ∧ w.heap.size ≤ g ∧ IsRow n f U ∧ At w' g U 3 ∧ Below w.heap.size w w'

theorem zero_block : ∃ Z, IsRow 16 (fun _ => 0) Z ∧ (∀ f, rowL 16 f 0 = Z) ∧ (∀ w, (zeroValue 25).run Tryd.prog w = .ok (.agg Z) w) ∧ ∀ A : Array Value, A.size = 16 → (Tryd.prog.info? 25).map (·.size) = some A.size := zero_row (by kernel_rfl)

theorem rowL_is (n : Nat) (f : Nat → Int) : IsRow n (fun _ => 0) (rowL n f 0) := by rw [row_of0]; exact isRow_zero n

/-- 'w[l:h:h]' of a frame that is a variable. -/
theorem run_cut (g l h n : Nat) (hn : h = l + n) (h0 : 0 < n) (h16 : h ≤ 16) (w : World) :
    (Instr.sliceAt 25 (.pointer (some ⟨g, 0, none⟩)) (some (.int .i64 l)) (some (.int .i64 h)) (some (.int .i64 h))).run Tryd.prog w = .ok (.slice (some ⟨g, l, none⟩) n n) w := by
  have hu : Tryd.prog.underlying 25 = some (.array (Tryd.prog.arrayLen 25) (Tryd.prog.elem 25)) := by kernel_rfl
  have hl : Tryd.prog.arrayLen 25 = 16 := by kernel_rfl
  have he : Tryd.prog.elem 25 = 3 := by kernel_rfl
  rw [run_sliceAt_array_lhm w 25 ⟨g, 0, none⟩ hu .i64 .i64 .i64 l h h (by omega) (by omega) (by omega) (by rw [hl]; omega), he, sizeOf_int]
  simp only [Result.andThen_ok, slicedAt, Int.toNat_natCast, Nat.mul_one]
  rw [if_neg (by omega), show h - l = n by omega]
  congr 3
  unfold Addr.add
  by_cases e : l = 0
  · subst e; simp
  · simp [e]

set_option maxHeartbeats 400000 in
theorem band_some (T : Array Value) (f : Nat → Int) (b : Int) (l h n : Nat) (w : World) (hT : IsRow 16 f T) (hTab : Tab w) (hl : lo b = l) (hh : hi b = h) (hn : h = l + n) (h0 : 0 < n) (h16 : h ≤ 16) :
    Calls Tryd.prog 12 #[.agg T, .int .i64 b] w fun e w' => RetRow w w' e n (fun i => f (l + i)) := by
  have A0 := At.new w T 25
  have B0 := (Below.refl w.heap.size w).alloc (Nat.le_refl _) (.cells T 25)
  have HB := hTab.below B0 hTab.lt
  have he : (h : Int) - (l : Int) = (n : Int) := by omega
  have hln : l < h := by omega
  have hml : ¬ h = l := by omega
  have hlh : l ≤ h := by omega
  have hsub : h - l = n := by omega
  have hl16 : l ≤ 16 := by omega
  have HL := Lib.hid hl
  have HH := Lib.hid hh
  have HT := Lib.hid hT
  have HN := Lib.hid hn
  have HA := Lib.hid A0
  have HB0 := Lib.hid B0
  clear hl hh hT hn A0 B0
  go_enter Tryd.func12, Tryd.ntmps12
  go_wp2_with fail
  refine (ends_as b l h _ HB HL.out HH.out).mono ?_
  rintro e w1 ⟨rfl, hw1⟩
  have A1 := Lib.hid (HA.out.below hw1 HA.out.lt)
  have B1 := Lib.hid (below_trans HB0.out hw1 HB0.out.size)
  clear hw1 HB0 HA HB hTab
  have hcut := run_cut w.heap.size l h n HN.out h0 h16
  have nm : n ≤ maxLen := by unfold maxLen; omega
  have A2 := Lib.hid (A1.out.alloc (.cells (rowL n (fun i => f (l + i)) 0) 3))
  have N2 := Lib.hid (At.new w1 (rowL n (fun i => f (l + i)) 0) 3)
  have B2 := Lib.hid (B1.out.alloc B1.out.size (.cells (rowL n (fun i => f (l + i)) 0) 3))
  have RZ := Lib.hid (rowL_is n (fun i => f (l + i)))
  have RS := Lib.hid (Sl.of_part HT.out A2.out l n (by omega) nm)
  have HW := B1.out.size
  go_wp2_with (first
    | (at_make; refine wpList_make_rowL (fun i => f (l + i)) rfl _ _ rfl n _ _ rfl rfl (by omega) ?_)
    | (refine wpList_copy_over rfl (.tmp 17) (.tmp 21) rfl w1.heap.size 0 n n n (some ⟨w.heap.size, l, none⟩) rfl rfl n (fun _ => 0) (fun i => f (l + i)) (rowL n (fun i => f (l + i)) 0) 3 RZ.out N2.out (by omega) h0 RS.out ?_; intro U hU))
  go_ret
  exact ⟨w1.heap.size, U, rfl, HW, hU.ext fun k hk => by unfold over; rw [if_pos (by omega), Nat.sub_zero], N2.out.setRow, below_setRow' B2.out HW U⟩

theorem band_none (T : Array Value) (f : Nat → Int) (b : Int) (w : World) (hTab : Tab w) (hl : lo b = 0) (hh : hi b = 0) :
    Calls Tryd.prog 12 #[.agg T, .int .i64 b] w fun e w' => RetRow w w' e 0 f := by
  have A0 := At.new w T 25
  have B0 := (Below.refl w.heap.size w).alloc (Nat.le_refl _) (.cells T 25)
  have HB := hTab.below B0 hTab.lt
  have HL := Lib.hid hl
  have HH := Lib.hid hh
  have HA := Lib.hid A0
  have HB0 := Lib.hid B0
  clear hl hh A0 B0
  go_enter Tryd.func12, Tryd.ntmps12
  go_wp2_with fail
  refine (ends_as b 0 0 _ HB HL.out HH.out).mono ?_
  rintro e w1 ⟨rfl, hw1⟩
  have A1 := Lib.hid (HA.out.below hw1 HA.out.lt)
  have B1 := Lib.hid (below_trans HB0.out hw1 HB0.out.size)
  clear hw1 HB0 HA HB hTab
  have N2 := Lib.hid (At.new w1 (rowL 0 f 0) 3)
  have B2 := Lib.hid (B1.out.alloc B1.out.size (.cells (rowL 0 f 0) 3))
  have RZ := Lib.hid (isRow 0 f)
  have HW := B1.out.size
  have hsz : (Tryd.prog.info? 3).map (·.size) = some 1 := by kernel_rfl
  go_wp2_with (first
    | (at_make; refine wpList_make_rowL f rfl _ _ rfl 0 _ _ rfl rfl (by omega) ?_)
    | (refine wpList_copy_nothing rfl (.tmp 17) (.tmp 21) 23 23 rfl 3 Tryd.underlying23 hsz _ _ 0 0 0 _ rfl rfl rfl ?_))
  go_ret
  exact ⟨w1.heap.size, _, rfl, HW, RZ.out, N2.out, B2.out⟩

theorem band_any (T : Array Value) (f : Nat → Int) (b : Int) (l h n : Nat) (w : World) (hT : IsRow 16 f T) (hTab : Tab w) (hl : lo b = l) (hh : hi b = h) (hn : h - l = n) :
    Calls Tryd.prog 12 #[.agg T, .int .i64 b] w fun e w' => RetRow w w' e n (fun i => f (l + i)) := by
  rcases band_cases b with ⟨_, h1, h2⟩ | ⟨_, _, h3, h4⟩
  · subst hl hh hn
    rw [h1, h2]
    exact band_none T _ b w hTab h1 h2
  · exact band_some T f b l h n w hT hTab hl hh (by omega) (by omega) (by omega)

/-- A row is handed back by value, and all that stood stands. -/
def RetBlk (m : Nat) (w w' : World) (e : Ending) (h : Nat → Int) : Prop := ∃ U, e = .returned (.agg U) ∧ IsRow m h U ∧ Below w.heap.size w w'

/-- Put: what stands while it works: the frame, the result's row. -/
def PutS (w : World) (T Z : Array Value) (w' : World) : Prop := Below w.heap.size w w' ∧ At w' w.heap.size T 25 ∧ At w' (w.heap.size + 1) Z 25
theorem PutS.start (w : World) (T Z : Array Value) : PutS w T Z ((w.alloc (.cells T 25)).alloc (.cells Z 25)) := by
  refine ⟨((Below.refl _ _).alloc (Nat.le_refl _) _).alloc (by simp) _, (At.new _ _ _).alloc _, ?_⟩
  have := At.new (w.alloc (.cells T 25)) Z 25
  simpa using this
theorem PutS.below {w w1 w2 : World} {T Z : Array Value} (h : PutS w T Z w1) (hb : Below w1.heap.size w1 w2) : PutS w T Z w2 :=
  ⟨below_trans h.1 hb h.1.size, h.2.1.below hb h.2.1.lt, h.2.2.below hb h.2.2.lt⟩
theorem PutS.set {w w1 : World} {T Z U : Array Value} (h : PutS w T Z w1) : PutS w U Z (w1.setRow w.heap.size U) :=
  ⟨below_setRow' h.1 (Nat.le_refl _) _, h.2.1.setRow, h.2.2.setRow_other (by omega)⟩

set_option maxHeartbeats 400000 in
theorem put_other (T : Array Value) (f : Nat → Int) (b : Int) (a : Option Addr) (n c : Nat) (l h d : Nat) (w : World) (hT : IsRow 16 f T) (hTab : Tab w) (hl : lo b = l) (hh : hi b = h) (hd : h - l = d) (hnd : n ≠ d) :
    Calls Tryd.prog 10 #[.agg T, .int .i64 b, .slice a n c] w fun e w' => RetBlk 16 w w' e f := by
  obtain ⟨Z, hZ, _, hz, hi⟩ := zero_block
  have hlh : l ≤ h ∧ h ≤ 16 := by have := band_cases b; omega
  have HT := Lib.hid hT
  have HZ := Lib.hid hZ
  have HI := Lib.hid hi
  have S0 := Lib.hid (PutS.start w T Z)
  have TB := Lib.hid (hTab.below S0.out.1 hTab.lt)
  have HL := Lib.hid hl
  have HH := Lib.hid hh
  have he : (h : Int) - (l : Int) = (d : Int) := by omega
  have hne : ((n : Int) == (d : Int)) = false := by rw [beq_eq_false_iff_ne]; omega
  have hd16 : d ≤ 16 := by omega
  clear hT hi hZ hl hh hd hnd hlh hTab
  go_enter Tryd.func10, Tryd.ntmps10
  go_wp2_with fail
  refine (ends_as b l h _ TB.out HL.out HH.out).mono ?_
  rintro e w1 ⟨rfl, hw1⟩
  have S1 := Lib.hid (S0.out.below hw1)
  clear hw1 S0 TB
  go_wp2_with (first
    | (refine wpList_load_wanted (by rfl) 25 _ rfl w.heap.size rfl _ _ _ _ S1.out.2.1 Tryd.underlying25 (HI.out _ HT.out.1) ?_)
    | (refine wpList_store_row rfl 25 _ _ rfl (w.heap.size + 1) T rfl rfl _ _ S1.out.2.2 (HI.out _ HT.out.1) (by rw [HZ.out.1, HT.out.1]) HT.out.2.1 ?_))
  exact bodyPost_ret (v := .agg T) (results_cell_row rfl _ _ (w.heap.size + 1) 25 T (0, 0) _ rfl S1.out.2.2.setRow Tryd.underlying25 rfl (HI.out _ HT.out.1)) rfl ⟨T, rfl, HT.out, below_setRow' S1.out.1 (by omega) _⟩

set_option maxHeartbeats 400000 in
theorem put_none (T : Array Value) (f : Nat → Int) (b : Int) (a : Option Addr) (c : Nat) (w : World) (hT : IsRow 16 f T) (hTab : Tab w) (hl : lo b = 0) (hh : hi b = 0) :
    Calls Tryd.prog 10 #[.agg T, .int .i64 b, .slice a 0 c] w fun e w' => RetBlk 16 w w' e f := by
  obtain ⟨Z, hZ, _, hz, hi⟩ := zero_block
  have HT := Lib.hid hT
  have HZ := Lib.hid hZ
  have HI := Lib.hid hi
  have S0 := Lib.hid (PutS.start w T Z)
  have TB := Lib.hid (hTab.below S0.out.1 hTab.lt)
  have HL := Lib.hid hl
  have HH := Lib.hid hh
  have hsz : (Tryd.prog.info? 3).map (·.size) = some 1 := by kernel_rfl
  clear hT hi hZ hl hh hTab
  go_enter Tryd.func10, Tryd.ntmps10
  go_wp2_with fail
  refine (ends_as b 0 0 _ TB.out HL.out HH.out).mono ?_
  rintro e w1 ⟨rfl, hw1⟩
  have S1 := Lib.hid (S0.out.below hw1)
  clear hw1 S0 TB
  go_wp2_with (first
    | (refine wpList_copy_nothing rfl (.tmp 23) (.tmp 24) 23 23 rfl 3 Tryd.underlying23 hsz _ _ 0 0 0 _ rfl rfl rfl ?_)
    | (refine wpList_load_wanted (by rfl) 25 _ rfl w.heap.size rfl _ _ _ _ S1.out.2.1 Tryd.underlying25 (HI.out _ HT.out.1) ?_)
    | (refine wpList_store_row rfl 25 _ _ rfl (w.heap.size + 1) T rfl rfl _ _ S1.out.2.2 (HI.out _ HT.out.1) (by rw [HZ.out.1, HT.out.1]) HT.out.2.1 ?_))
  exact bodyPost_ret (v := .agg T) (results_cell_row rfl _ _ (w.heap.size + 1) 25 T (0, 0) _ rfl S1.out.2.2.setRow Tryd.underlying25 rfl (HI.out _ HT.out.1)) rfl ⟨T, rfl, HT.out, below_setRow' S1.out.1 (by omega) _⟩

set_option maxHeartbeats 400000 in
theorem put_some (T : Array Value) (f g : Nat → Int) (b : Int) (a : Option Addr) (n c : Nat) (l h : Nat) (w : World) (hT : IsRow 16 f T) (hTab : Tab w) (hS : Sl .i64 w a n c g) (hl : lo b = l) (hh : hi b = h) (hn : h = l + n) (h0 : 0 < n) (h16 : h ≤ 16) :
    Calls Tryd.prog 10 #[.agg T, .int .i64 b, .slice a n c] w fun e w' => RetBlk 16 w w' e (over f g l n) := by
  obtain ⟨Z, hZ, _, hz, hi⟩ := zero_block
  have HT := Lib.hid hT
  have HZ := Lib.hid hZ
  have HI := Lib.hid hi
  have S0 := Lib.hid (PutS.start w T Z)
  have TB := Lib.hid (hTab.below S0.out.1 hTab.lt)
  have HL := Lib.hid hl
  have HH := Lib.hid hh
  have HS := Lib.hid hS
  have he : (h : Int) - (l : Int) = (n : Int) := by omega
  have hcut := run_cut w.heap.size l h n hn h0 h16
  have HN := Lib.hid hn
  clear hT hi hZ hl hh hn hTab hS
  go_enter Tryd.func10, Tryd.ntmps10
  go_wp2_with fail
  refine (ends_as b l h _ TB.out HL.out HH.out).mono ?_
  rintro e w1 ⟨rfl, hw1⟩
  have S1 := Lib.hid (S0.out.below hw1)
  have HS1 := Lib.hid (HS.out.below S1.out.1)
  clear hw1 S0 TB
  go_wp2_with (first
    | (refine wpList_copy_over rfl (.tmp 23) (.tmp 24) rfl w.heap.size l n n c a rfl rfl 16 f g T 25 HT.out S1.out.2.1 (by have := HN.out; omega) h0 HS1.out ?_; intro U hU; have S2 := Lib.hid (S1.out.set (U := U)); have HU := Lib.hid hU; clear hU)
    | (refine wpList_load_wanted (by rfl) 25 _ rfl w.heap.size rfl _ _ _ _ S2.out.2.1 Tryd.underlying25 (HI.out _ HU.out.1) ?_)
    | (refine wpList_store_row rfl 25 _ _ rfl (w.heap.size + 1) U rfl rfl _ _ S2.out.2.2 (HI.out _ HU.out.1) (by rw [HZ.out.1, HU.out.1]) HU.out.2.1 ?_))
  exact bodyPost_ret (v := .agg U) (results_cell_row rfl _ _ (w.heap.size + 1) 25 U (0, 0) _ rfl S2.out.2.2.setRow Tryd.underlying25 rfl (HI.out _ HU.out.1)) rfl ⟨U, rfl, HU.out, below_setRow' S2.out.1 (by omega) _⟩

/-- What Put hands back. -/
def putF (f g : Nat → Int) (b : Int) (n : Nat) : Nat → Int := if n = hi b - lo b then over f g (lo b) n else f
theorem over_none (f g : Nat → Int) (l : Nat) : over f g l 0 = f := by
  funext i; unfold over; rw [if_neg (by omega)]

theorem put_any (T : Array Value) (f g : Nat → Int) (b : Int) (a : Option Addr) (n c : Nat) (w : World) (hT : IsRow 16 f T) (hTab : Tab w) (hS : Sl .i64 w a n c g) :
    Calls Tryd.prog 10 #[.agg T, .int .i64 b, .slice a n c] w fun e w' => RetBlk 16 w w' e (putF f g b n) := by
  unfold putF
  by_cases hn : n = hi b - lo b
  · rw [if_pos hn]
    rcases band_cases b with ⟨_, h1, h2⟩ | ⟨_, _, h3, h4⟩
    · obtain rfl : n = 0 := by omega
      rw [over_none]
      exact put_none T f b a c w hT hTab h1 h2
    · exact put_some T f g b a n c _ _ w hT hTab hS rfl rfl (by omega) (by omega) (by omega)
  · rw [if_neg hn]
    exact put_other T f b a n c _ _ _ w hT hTab rfl rfl rfl hn
end Go.Proofs.YtlnmpgbknalagaaDoor.Lv
