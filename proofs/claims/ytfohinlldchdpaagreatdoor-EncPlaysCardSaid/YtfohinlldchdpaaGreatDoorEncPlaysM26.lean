/- Texts of the walk, one behind the other. -/
import Derived.Test.YtfohinlldchdpaaGreatDoorEncPlaysM2
import Derived.Test.YtfohinlldchdpaaGreatDoorEncPlaysM20
import Derived.Test.YtfohinlldchdpaaGreatDoorEncPlaysM1

section
/- Contracts of level's held, unsigned, ends, Size and of the document's Size. -/
namespace Go.Proofs.YtfohinlldchdpaaGreatDoor.Lv
open Go.RowKit Go.Proofs.YtfohinlldchdpaaGreatDoor.Row

theorem held_as (x b r : Int) (w : World) (h0 : 0 ≤ b) (h1 : b ≤ 4611686018427387904) (h : hld x b = r) :
    Calls Tryz.prog 61 #[.int .i64 x, .int .i64 b] w fun e w' => e = .returned (.int .i64 r) ∧ w = w' := by
  subst h
  by_cases c1 : x < -b
  · go_enter Tryz.func61, Tryz.ntmps61
    go_wp2
    go_ret
    exact ⟨ret_int (by unfold hld; omega), rfl⟩
  · by_cases c2 : b < x
    · go_enter Tryz.func61, Tryz.ntmps61
      go_wp2
      all_goals
        go_ret
        exact ⟨ret_int (by unfold hld; omega), rfl⟩
    · go_enter Tryz.func61, Tryz.ntmps61
      go_wp2
      all_goals
        go_ret
        exact ⟨ret_int (by unfold hld; omega), rfl⟩

theorem unsigned_as (x r : Int) (w : World) (h0 : -4611686018427387904 ≤ x) (h1 : x ≤ 4611686018427387904) (h : uns x = r) :
    Calls Tryz.prog 60 #[.int .i64 x] w fun e w' => e = .returned (.int .i64 r) ∧ w = w' := by
  subst h
  by_cases c1 : x < 0
  · go_enter Tryz.func60, Tryz.ntmps60
    go_wp2
    go_ret
    exact ⟨ret_int (by unfold uns; omega), rfl⟩
  · go_enter Tryz.func60, Tryz.ntmps60
    go_wp2
    all_goals
      go_ret
      exact ⟨ret_int (by unfold uns; omega), rfl⟩

end Go.Proofs.YtfohinlldchdpaaGreatDoor.Lv
end

section
/- Contract of the document's Size (for levels). -/
set_option maxRecDepth 100000
set_option linter.unusedVariables false
namespace Go.Proofs.YtfohinlldchdpaaGreatDoor.Lv
open Go.RowKit Go.Proofs.YtfohinlldchdpaaGreatDoor.Row

theorem refSize_as (x r : Int) (w : World) (h : sz x = r) :
    Calls Tryz.prog 96 #[.int .i64 x] w fun e w' => e = .returned (.int .i64 r) ∧ w = w' := by
  subst h
  by_cases c1 : x < -1099511627776
  · go_enter Tryz.func96, Tryz.ntmps96
    go_wp2
    go_ret
    exact ⟨ret_int (by unfold sz; rw [if_pos (.inl c1)]), rfl⟩
  · by_cases c2 : 1099511627776 < x
    · go_enter Tryz.func96, Tryz.ntmps96
      go_wp2
      go_ret
      exact ⟨ret_int (by unfold sz; rw [if_pos (.inr c2)]), rfl⟩
    · by_cases c3 : x < 0
      · go_enter Tryz.func96, Tryz.ntmps96
        go_wp2
        go_ret
        exact ⟨ret_int (by unfold sz; rw [if_neg (by omega), if_pos c3]), rfl⟩
      · go_enter Tryz.func96, Tryz.ntmps96
        go_wp2
        go_ret
        exact ⟨ret_int (by unfold sz; rw [if_neg (by omega), if_neg (by omega)]), rfl⟩
end Go.Proofs.YtfohinlldchdpaaGreatDoor.Lv
end

section
/- Contract of level's Put. -/
set_option maxRecDepth 100000
set_option linter.unusedVariables false
namespace Go.Proofs.YtfohinlldchdpaaGreatDoor.Lv
open Go.RowKit Go.Proofs.YtfohinlldchdpaaGreatDoor.Row

/-- A new row of n numbers, f's, is handed back, and all that stood stands. -/
def RetRow (w w' : World) (e : Ending) (n : Nat) (f : Nat → Int) : Prop := ∃ g U, e = .returned (.slice (some ⟨g, 0, none⟩) n n) ∧ w.heap.size ≤ g ∧ IsRow n f U ∧ At w' g U 3 ∧ Below w.heap.size w w'

theorem zero_block : ∃ Z, IsRow 16 (fun _ => 0) Z ∧ (∀ f, rowL 16 f 0 = Z) ∧ (∀ w, (zeroValue 32).run Tryz.prog w = .ok (.agg Z) w) ∧ ∀ A : Array Value, A.size = 16 → (Tryz.prog.info? 32).map (·.size) = some A.size := zero_row (by kernel_rfl)

theorem rowL_is (n : Nat) (f : Nat → Int) : IsRow n (fun _ => 0) (rowL n f 0) := by rw [row_of0]; exact isRow_zero n

/-- 'w[l:h:h]' of a frame that is a variable. -/
theorem run_cut (g l h n : Nat) (hn : h = l + n) (h0 : 0 < n) (h16 : h ≤ 16) (w : World) :
    (Instr.sliceAt 32 (.pointer (some ⟨g, 0, none⟩)) (some (.int .i64 l)) (some (.int .i64 h)) (some (.int .i64 h))).run Tryz.prog w = .ok (.slice (some ⟨g, l, none⟩) n n) w := by
  have hu : Tryz.prog.underlying 32 = some (.array (Tryz.prog.arrayLen 32) (Tryz.prog.elem 32)) := by kernel_rfl
  have hl : Tryz.prog.arrayLen 32 = 16 := by kernel_rfl
  have he : Tryz.prog.elem 32 = 3 := by kernel_rfl
  rw [run_sliceAt_array_lhm w 32 ⟨g, 0, none⟩ hu .i64 .i64 .i64 l h h (by omega) (by omega) (by omega) (by rw [hl]; omega), he, sizeOf_int]
  simp only [Result.andThen_ok, slicedAt, Int.toNat_natCast, Nat.mul_one]
  rw [if_neg (by omega), show h - l = n by omega]
  congr 3
  unfold Addr.add
  by_cases e : l = 0
  · subst e; simp
  · simp [e]

/-- A row is handed back by value, and all that stood stands. -/
def RetBlk (m : Nat) (w w' : World) (e : Ending) (h : Nat → Int) : Prop := ∃ U, e = .returned (.agg U) ∧ IsRow m h U ∧ Below w.heap.size w w'

/-- Put: what stands while it works: the frame, the result's row. -/
def PutS (w : World) (T Z : Array Value) (w' : World) : Prop := Below w.heap.size w w' ∧ At w' w.heap.size T 32 ∧ At w' (w.heap.size + 1) Z 32

theorem PutS.start (w : World) (T Z : Array Value) : PutS w T Z ((w.alloc (.cells T 32)).alloc (.cells Z 32)) := by
  refine ⟨((Below.refl _ _).alloc (Nat.le_refl _) _).alloc (by simp) _, (At.new _ _ _).alloc _, ?_⟩
  have := At.new (w.alloc (.cells T 32)) Z 32
  simpa using this

theorem PutS.below {w w1 w2 : World} {T Z : Array Value} (h : PutS w T Z w1) (hb : Below w1.heap.size w1 w2) : PutS w T Z w2 :=
  ⟨below_trans h.1 hb h.1.size, h.2.1.below hb h.2.1.lt, h.2.2.below hb h.2.2.lt⟩

theorem PutS.set {w w1 : World} {T Z U : Array Value} (h : PutS w T Z w1) : PutS w U Z (w1.setRow w.heap.size U) :=
  ⟨below_setRow' h.1 (Nat.le_refl _) _, h.2.1.setRow, h.2.2.setRow_other (by omega)⟩

set_option maxHeartbeats 400000 in
theorem put_some (T : Array Value) (f g : Nat → Int) (b : Int) (a : Option Addr) (n c : Nat) (l h : Nat) (w : World) (hT : IsRow 16 f T) (hTab : Tab w) (hS : Sl .i64 w a n c g) (hl : lo b = l) (hh : hi b = h) (hn : h = l + n) (h0 : 0 < n) (h16 : h ≤ 16) :
    Calls Tryz.prog 134 #[.agg T, .int .i64 b, .slice a n c] w fun e w' => RetBlk 16 w w' e (over f g l n) := by
  obtain ⟨Z, hZ, _, hz, hi⟩ := zero_block
  have HT := Lib.hid hT
  have HZ := Lib.hid hZ
  have HI := Lib.hid hi
  have S0 := Lib.hid (PutS.start w T Z)
  have TB := Lib.hid (hTab.below S0.out.1 hTab.lt)
  have HL := Lib.hid hl
  have HH := Lib.hid hh
  have HS := Lib.hid hS
  have he : (h : Int) - (l : Int) = (n : Int) := by omega
  have hcut := run_cut w.heap.size l h n hn h0 h16
  have HN := Lib.hid hn
  clear hT hi hZ hl hh hn hTab hS
  go_enter Tryz.func134, Tryz.ntmps134
  go_wp2_with fail
  refine (ends_as b l h _ TB.out HL.out HH.out).mono ?_
  rintro e w1 ⟨rfl, hw1⟩
  have S1 := Lib.hid (S0.out.below hw1)
  have HS1 := Lib.hid (HS.out.below S1.out.1)
  clear hw1 S0 TB
  go_wp2_with (first
    | (refine wpList_copy_over rfl (.tmp 23) (.tmp 24) rfl w.heap.size l n n c a rfl rfl 16 f g T 32 HT.out S1.out.2.1 (by have := HN.out; omega) h0 HS1.out ?_; intro U hU; have S2 := Lib.hid (S1.out.set (U := U)); have HU := Lib.hid hU; clear hU)
    | (refine wpList_load_wanted (by rfl) 32 _ rfl w.heap.size rfl _ _ _ _ S2.out.2.1 Tryz.underlying32 (HI.out _ HU.out.1) ?_)
    | (refine wpList_store_row rfl 32 _ _ rfl (w.heap.size + 1) U rfl rfl _ _ S2.out.2.2 (HI.out _ HU.out.1) (by rw [HZ.out.1, HU.out.1]) HU.out.2.1 ?_))
  exact bodyPost_ret (v := .agg U) (results_cell_row rfl _ _ (w.heap.size + 1) 32 U (0, 0) _ rfl S2.out.2.2.setRow Tryz.underlying32 rfl (HI.out _ HU.out.1)) rfl ⟨U, rfl, HU.out, below_setRow' S2.out.1 (by omega) _⟩

theorem over_none (f g : Nat → Int) (l : Nat) : over f g l 0 = f := by
  funext i; unfold over; rw [if_neg (by omega)]

end Go.Proofs.YtfohinlldchdpaaGreatDoor.Lv
end

section
/- Rows and blocks as values, with the world. -/
set_option maxRecDepth 100000
set_option linter.unusedVariables false
namespace Go.Proofs.YtfohinlldchdpaaGreatDoor.Lv
open Go.RowKit Go.Proofs.YtfohinlldchdpaaGreatDoor.Row

/-- What a new row handed back is, as a value. -/
def RowV (w : World) (n : Nat) (f : Nat → Int) (v : Value) (w' : World) : Prop := ∃ g U, v = .slice (some ⟨g, 0, none⟩) n n ∧ w.heap.size ≤ g ∧ IsRow n f U ∧ At w' g U 3 ∧ Below w.heap.size w w'

theorem RetRow.out {w w' : World} {e : Ending} {n : Nat} {f : Nat → Int} (h : RetRow w w' e n f) : ∃ v, e = .returned v ∧ RowV w n f v w' := by
  obtain ⟨g, U, he, h⟩ := h
  exact ⟨_, he, g, U, rfl, h⟩

def BlkV (w : World) (m : Nat) (h : Nat → Int) (v : Value) (w' : World) : Prop := ∃ U, v = .agg U ∧ IsRow m h U ∧ Below w.heap.size w w'

theorem RetBlk.out {w w' : World} {e : Ending} {m : Nat} {f : Nat → Int} (h : RetBlk m w w' e f) : ∃ v, e = .returned v ∧ BlkV w m f v w' := by
  obtain ⟨U, he, h⟩ := h
  exact ⟨_, he, U, rfl, h⟩

theorem RowV.below {w w' : World} {n : Nat} {f : Nat → Int} {v : Value} (h : RowV w n f v w') : Below w.heap.size w w' := by
  obtain ⟨_, _, _, _, _, _, h⟩ := h; exact h

theorem BlkV.below {w w' : World} {n : Nat} {f : Nat → Int} {v : Value} (h : BlkV w n f v w') : Below w.heap.size w w' := by
  obtain ⟨_, _, _, h⟩ := h; exact h
end Go.Proofs.YtfohinlldchdpaaGreatDoor.Lv
end

section
/- Contracts of level's Band and Put. -/
namespace Go.Proofs.YtfohinlldchdpaaGreatDoor.Lv
open Go.RowKit Go.Proofs.YtfohinlldchdpaaGreatDoor.Row

set_option maxHeartbeats 400000 in
theorem band_some (T : Array Value) (f : Nat → Int) (b : Int) (l h n : Nat) (w : World) (hT : IsRow 16 f T) (hTab : Tab w) (hl : lo b = l) (hh : hi b = h) (hn : h = l + n) (h0 : 0 < n) (h16 : h ≤ 16) :
    Calls Tryz.prog 59 #[.agg T, .int .i64 b] w fun e w' => RetRow w w' e n (fun i => f (l + i)) := by
  have A0 := At.new w T 32
  have B0 := (Below.refl w.heap.size w).alloc (Nat.le_refl _) (.cells T 32)
  have HB := hTab.below B0 hTab.lt
  have he : (h : Int) - (l : Int) = (n : Int) := by omega
  have hln : l < h := by omega
  have hml : ¬ h = l := by omega
  have hlh : l ≤ h := by omega
  have hsub : h - l = n := by omega
  have hl16 : l ≤ 16 := by omega
  have HL := Lib.hid hl
  have HH := Lib.hid hh
  have HT := Lib.hid hT
  have HN := Lib.hid hn
  have HA := Lib.hid A0
  have HB0 := Lib.hid B0
  clear hl hh hT hn A0 B0
  go_enter Tryz.func59, Tryz.ntmps59
  go_wp2_with fail
  refine (ends_as b l h _ HB HL.out HH.out).mono ?_
  rintro e w1 ⟨rfl, hw1⟩
  have A1 := Lib.hid (HA.out.below hw1 HA.out.lt)
  have B1 := Lib.hid (below_trans HB0.out hw1 HB0.out.size)
  clear hw1 HB0 HA HB hTab
  have hcut := run_cut w.heap.size l h n HN.out h0 h16
  have nm : n ≤ maxLen := by unfold maxLen; omega
  have A2 := Lib.hid (A1.out.alloc (.cells (rowL n (fun i => f (l + i)) 0) 3))
  have N2 := Lib.hid (At.new w1 (rowL n (fun i => f (l + i)) 0) 3)
  have B2 := Lib.hid (B1.out.alloc B1.out.size (.cells (rowL n (fun i => f (l + i)) 0) 3))
  have RZ := Lib.hid (rowL_is n (fun i => f (l + i)))
  have RS := Lib.hid (Sl.of_part HT.out A2.out l n (by omega) nm)
  have HW := B1.out.size
  go_wp2_with (first
    | (at_make; refine wpList_make_rowL (fun i => f (l + i)) rfl _ _ rfl n _ _ rfl rfl (by omega) ?_)
    | (refine wpList_copy_over rfl (.tmp 17) (.tmp 21) rfl w1.heap.size 0 n n n (some ⟨w.heap.size, l, none⟩) rfl rfl n (fun _ => 0) (fun i => f (l + i)) (rowL n (fun i => f (l + i)) 0) 3 RZ.out N2.out (by omega) h0 RS.out ?_; intro U hU))
  go_ret
  exact ⟨w1.heap.size, U, rfl, HW, hU.ext fun k hk => by unfold over; rw [if_pos (by omega), Nat.sub_zero], N2.out.setRow, below_setRow' B2.out HW U⟩

theorem band_none (T : Array Value) (f : Nat → Int) (b : Int) (w : World) (hTab : Tab w) (hl : lo b = 0) (hh : hi b = 0) :
    Calls Tryz.prog 59 #[.agg T, .int .i64 b] w fun e w' => RetRow w w' e 0 f := by
  have A0 := At.new w T 32
  have B0 := (Below.refl w.heap.size w).alloc (Nat.le_refl _) (.cells T 32)
  have HB := hTab.below B0 hTab.lt
  have HL := Lib.hid hl
  have HH := Lib.hid hh
  have HA := Lib.hid A0
  have HB0 := Lib.hid B0
  clear hl hh A0 B0
  go_enter Tryz.func59, Tryz.ntmps59
  go_wp2_with fail
  refine (ends_as b 0 0 _ HB HL.out HH.out).mono ?_
  rintro e w1 ⟨rfl, hw1⟩
  have A1 := Lib.hid (HA.out.below hw1 HA.out.lt)
  have B1 := Lib.hid (below_trans HB0.out hw1 HB0.out.size)
  clear hw1 HB0 HA HB hTab
  have N2 := Lib.hid (At.new w1 (rowL 0 f 0) 3)
  have B2 := Lib.hid (B1.out.alloc B1.out.size (.cells (rowL 0 f 0) 3))
  have RZ := Lib.hid (isRow 0 f)
  have HW := B1.out.size
  have hsz : (Tryz.prog.info? 3).map (·.size) = some 1 := by kernel_rfl
  go_wp2_with (first
    | (at_make; refine wpList_make_rowL f rfl _ _ rfl 0 _ _ rfl rfl (by omega) ?_)
    | (refine wpList_copy_nothing rfl (.tmp 17) (.tmp 21) 68 68 rfl 3 Tryz.underlying68 hsz _ _ 0 0 0 _ rfl rfl rfl ?_))
  go_ret
  exact ⟨w1.heap.size, _, rfl, HW, RZ.out, N2.out, B2.out⟩

theorem band_any (T : Array Value) (f : Nat → Int) (b : Int) (l h n : Nat) (w : World) (hT : IsRow 16 f T) (hTab : Tab w) (hl : lo b = l) (hh : hi b = h) (hn : h - l = n) :
    Calls Tryz.prog 59 #[.agg T, .int .i64 b] w fun e w' => RetRow w w' e n (fun i => f (l + i)) := by
  rcases band_cases b with ⟨_, h1, h2⟩ | ⟨_, _, h3, h4⟩
  · subst hl hh hn
    rw [h1, h2]
    exact band_none T _ b w hTab h1 h2
  · exact band_some T f b l h n w hT hTab hl hh (by omega) (by omega) (by omega)

end Go.Proofs.YtfohinlldchdpaaGreatDoor.Lv
end

section
/- Contracts of level's count and Fill. -/
namespace Go.Proofs.YtfohinlldchdpaaGreatDoor.Lv
open Go.RowKit Go.Proofs.YtfohinlldchdpaaGreatDoor.Row

theorem cnt_bad {y : Nat → Int} {n k : Nat} (hk : k < n) (h : ¬ (-8 ≤ y k ∧ y k ≤ 8)) : cnt y n = 0 := by
  unfold cnt
  rw [if_neg]
  intro hh
  exact h ((okY_iff y n).1 hh.2 k hk)
theorem cnt_ok {y : Nat → Int} {n : Nat} (h8 : n ≤ 8) (h : okY y n = true) : cnt y n = sm (fun i => uns (y i)) n := by
  unfold cnt
  rw [if_pos ⟨h8, h⟩]
theorem hld_in {x : Int} (h1 : -8 ≤ x) (h2 : x ≤ 8) : hld x 8 = x := by unfold hld; omega
theorem hld_out {x : Int} (h : ¬ (-8 ≤ x ∧ x ≤ 8)) : (x == hld x 8) = false := by rw [beq_eq_false_iff_ne]; unfold hld; omega

theorem count_none (a : Option Addr) (c : Nat) (w : World) :
    Calls Tryz.prog 186 #[.slice a 0 c] w fun e w' => e = .returned (.int .i64 0) ∧ w = w' := by
  go_enter Tryz.func186, Tryz.ntmps186
  go_wp2
  refine wp_loop_rounds 1 ?_
  rw [rounds_succ]
  go_wp2
  go_ret
  exact ⟨rfl, rfl⟩

set_option maxHeartbeats 400000 in
theorem count_some (b o n c : Nat) (y : Nat → Int) (w : World) (h8 : n ≤ 8) (hc : ∀ i, i < n → w.cell? ⟨b, o + i, none⟩ = some (.int .i64 (y i))) :
    Calls Tryz.prog 186 #[.slice (some ⟨b, o, none⟩) n c] w fun e w' => e = .returned (.int .i64 (cnt y n)) ∧ w = w' := by
  have HC := Lib.hid hc
  clear hc
  go_enter Tryz.func186, Tryz.ntmps186
  go_wp2
  go_loop [3, 11] (fun s i => ∃ k : Nat, k ≤ n ∧ i = .int .i64 k ∧ s = .int .i64 (sm (fun i => uns (y i)) k) ∧ Hid (okY y k = true)) (fun _ i => n - (intOf i).toNat)
  case atStart => exact ⟨0, Nat.zero_le _, rfl, rfl, Lib.hid rfl⟩
  case round =>
    obtain ⟨k, hk, rfl, rfl, HK⟩ := hrel
    obtain ⟨s1, s2⟩ := smu_bd y k HK.out
    have HS := Lib.hid (show sm (fun i => uns (y i)) (k + 1) = sm (fun i => uns (y i)) k + uns (y k) from rfl)
    have HO := Lib.hid (show okY y (k + 1) = (okY y k && decide (-8 ≤ y k ∧ y k ≤ 8)) from rfl)
    by_cases hlt : k < n
    · have c0 := HC.out k hlt
      by_cases hb : -8 ≤ y k ∧ y k ≤ 8
      · obtain ⟨x, hx⟩ : ∃ x, y k = x := ⟨_, rfl⟩
        rw [hx] at c0 hb
        obtain ⟨b1, b2⟩ := hb
        obtain ⟨u, hu⟩ : ∃ u, uns x = u := ⟨_, rfl⟩
        have hub := uns_bd b1 b2
        rw [hu] at hub
        obtain ⟨u1, u2⟩ := hub
        have HU := Lib.hid hu
        have HX := Lib.hid hx
        have HH := Lib.hid (hld_in b1 b2)
        clear hx hu
        generalize sm (fun i => uns (y i)) k = s at *
        go_wp2_with (first
          | (go_at_call 61; (with_reducible refine (held_as x 8 x _ (by omega) (by omega) HH.out).mono ?_); rintro e w' ⟨rfl, rfl⟩)
          | (go_at_call 60; (with_reducible refine (unsigned_as x u _ (by omega) (by omega) HU.out).mono ?_); rintro e w' ⟨rfl, rfl⟩))
        go_round
        case rel => exact ⟨k + 1, by omega, by go_num, by rw [HS.out, HX.out, HU.out], Lib.hid (by rw [HO.out, HK.out, HX.out]; simp; omega)⟩
        case measure => simp [intOf]; omega
      · have HZ := Lib.hid (cnt_bad (y := y) hlt hb)
        obtain ⟨x, hx⟩ : ∃ x, y k = x := ⟨_, rfl⟩
        rw [hx] at c0 hb
        have HX := Lib.hid hx
        obtain ⟨z, hz⟩ : ∃ z, hld x 8 = z := ⟨_, rfl⟩
        have ho := hld_out hb
        rw [hz] at ho
        have HH := Lib.hid hz
        clear hx hz hb
        generalize sm (fun i => uns (y i)) k = s at *
        go_wp2_with (first
          | (go_at_call 61; (with_reducible refine (held_as x 8 z _ (by omega) (by omega) HH.out).mono ?_); rintro e w' ⟨rfl, rfl⟩))
        go_ret
        exact ⟨ret_int HZ.out.symm, rfl⟩
    · obtain rfl : k = n := by omega
      have HE := Lib.hid (cnt_ok h8 HK.out)
      go_wp2
      go_ret
      exact ⟨ret_int HE.out.symm, rfl⟩

theorem count_long (a : Option Addr) (n c : Nat) (w : World) (h : 8 < n) (hm : n ≤ maxLen) :
    Calls Tryz.prog 186 #[.slice a n c] w fun e w' => e = .returned (.int .i64 0) ∧ w = w' := by
  unfold maxLen at hm
  go_enter Tryz.func186, Tryz.ntmps186
  go_wp2
  go_ret
  exact ⟨rfl, rfl⟩

theorem count_any (a : Option Addr) (n c : Nat) (y : Nat → Int) (w : World) (hS : Sl .i64 w a n c y) :
    Calls Tryz.prog 186 #[.slice a n c] w fun e w' => e = .returned (.int .i64 (cnt y n)) ∧ w = w' := by
  by_cases h8 : n ≤ 8
  · by_cases h0 : n = 0
    · subst h0
      exact count_none a c w
    · obtain ⟨b, o, rfl, hc⟩ := hS.2.2 (by omega)
      exact count_some b o n c y w h8 hc
  · have e : cnt y n = 0 := by unfold cnt; rw [if_neg (by omega)]
    rw [e]
    exact count_long a n c w (by omega) (Nat.le_trans hS.1 hS.2.1)
end Go.Proofs.YtfohinlldchdpaaGreatDoor.Lv
end

section
/- Contract of level's Fill. -/
namespace Go.Proofs.YtfohinlldchdpaaGreatDoor.Lv
open Go.RowKit Go.Proofs.YtfohinlldchdpaaGreatDoor.Row

set_option maxHeartbeats 400000 in
theorem fill_off (l : Int) (a : Option Addr) (n c : Nat) (y : Nat → Int) (w : World) (hS : Sl .i64 w a n c y) (hn : n ≤ 1000) (h : l < 1 ∨ 20 < l ∨ cnt y n = 0) :
    Calls Tryz.prog 135 #[.int .i64 l, .slice a n c] w fun e w' => RetRow w w' e n (fl l y n) := by
  have N0 := Lib.hid (At.new w (rowL n (fl l y n) 0) 3)
  have B0 := Lib.hid ((Below.refl w.heap.size w).alloc (Nat.le_refl _) (.cells (rowL n (fl l y n) 0) 3))
  have S0 := Lib.hid (hS.below B0.out)
  have RZ := Lib.hid ((rowL_is n (fl l y n)).ext fun k _ => (fl_off h k).symm)
  obtain ⟨K, hK⟩ : ∃ K, cnt y n = K := ⟨_, rfl⟩
  obtain ⟨k1, k2⟩ := cnt_bd y n
  rw [hK] at k1 k2 h
  have HK := Lib.hid (hK ▸ fun w hS => count_any a n c y w hS : ∀ w, Sl .i64 w a n c y → Calls Tryz.prog 186 #[.slice a n c] w fun e w' => e = .returned (.int .i64 K) ∧ w = w')
  clear hK hS
  by_cases c1 : l < 1
  · clear h
    go_enter Tryz.func135, Tryz.ntmps135
    go_wp2_with (first
      | (at_make; refine wpList_make_rowL (fl l y n) rfl _ _ rfl n _ _ rfl rfl (by omega) ?_)
      | (go_at_call 186; (with_reducible refine (HK.out _ S0.out).mono ?_); rintro e w' ⟨rfl, rfl⟩))
    go_ret
    exact ⟨w.heap.size, _, rfl, Nat.le_refl _, RZ.out, N0.out, B0.out⟩
  · by_cases c2 : 20 < l
    · clear h
      go_enter Tryz.func135, Tryz.ntmps135
      go_wp2_with (first
        | (at_make; refine wpList_make_rowL (fl l y n) rfl _ _ rfl n _ _ rfl rfl (by omega) ?_)
        | (go_at_call 186; (with_reducible refine (HK.out _ S0.out).mono ?_); rintro e w' ⟨rfl, rfl⟩))
      go_ret
      exact ⟨w.heap.size, _, rfl, Nat.le_refl _, RZ.out, N0.out, B0.out⟩
    · obtain rfl : K = 0 := by omega
      clear h
      go_enter Tryz.func135, Tryz.ntmps135
      go_wp2_with (first
        | (at_make; refine wpList_make_rowL (fl l y n) rfl _ _ rfl n _ _ rfl rfl (by omega) ?_)
        | (go_at_call 186; (with_reducible refine (HK.out _ S0.out).mono ?_); rintro e w' ⟨rfl, rfl⟩))
      go_ret
      exact ⟨w.heap.size, _, rfl, Nat.le_refl _, RZ.out, N0.out, B0.out⟩

/-- What holds while the waves are filled in. -/
def FillS (w : World) (n : Nat) (g : Nat → Int) (k : Nat) (w' : World) : Prop := Below w.heap.size w w' ∧ At w' w.heap.size (rowL n g k) 3
theorem FillS.put {w w' : World} {n k : Nat} {g : Nat → Int} (h : FillS w n g k w') (hk : k < n) : FillS w n g (k + 1) (w'.setCell ⟨w.heap.size, k, none⟩ (.int .i64 (g k))) :=
  ⟨h.1.setCell (Nat.le_refl _) _, h.2.put hk⟩
theorem FillS.start (w : World) (n : Nat) (g : Nat → Int) : FillS w n g 0 (w.alloc (.cells (rowL n g 0) 3)) := ⟨(Below.refl _ _).alloc (Nat.le_refl _) _, At.new _ _ _⟩

theorem cnt_pos {y : Nat → Int} {n : Nat} (h : cnt y n ≠ 0) : n ≤ 8 ∧ 0 < n ∧ ∀ i, i < n → -8 ≤ y i ∧ y i ≤ 8 := by
  unfold cnt at h
  by_cases hh : n ≤ 8 ∧ okY y n = true
  · rw [if_pos hh] at h
    refine ⟨hh.1, ?_, (okY_iff y n).1 hh.2⟩
    cases n with
    | zero => exact absurd rfl h
    | succ n => omega
  · rw [if_neg hh] at h; exact absurd rfl h

set_option maxHeartbeats 400000 in
theorem fill_on (l : Int) (b o n c : Nat) (y : Nat → Int) (w : World) (hS : Sl .i64 w (some ⟨b, o, none⟩) n c y) (hc : ∀ i, i < n → w.cell? ⟨b, o + i, none⟩ = some (.int .i64 (y i))) (h : ¬ (l < 1 ∨ 20 < l ∨ cnt y n = 0)) :
    Calls Tryz.prog 135 #[.int .i64 l, .slice (some ⟨b, o, none⟩) n c] w fun e w' => RetRow w w' e n (fl l y n) := by
  obtain ⟨h8, h0, hy⟩ := cnt_pos (y := y) (n := n) (by omega)
  have F0 := Lib.hid (FillS.start w n (fl l y n))
  have S0 := Lib.hid (hS.below F0.out.1)
  have HY := Lib.hid hy
  have HC := Lib.hid hc
  have HF := Lib.hid (fun i => fl_on h i)
  have l1 : 1 ≤ l := by omega
  have l2 : l ≤ 20 := by omega
  obtain ⟨K, hK⟩ : ∃ K, cnt y n = K := ⟨_, rfl⟩
  obtain ⟨k1, k2⟩ := cnt_bd y n
  have hk0 : cnt y n ≠ 0 := by omega
  rw [hK] at k1 k2 HF hk0
  have k3 : 1 ≤ K := by omega
  have k4 : (K == 0) = false := by rw [beq_eq_false_iff_ne]; exact hk0
  have hq0 : ¬ 4 * K = 0 := by omega
  have HK := Lib.hid (hK ▸ fun w hS => count_any (some ⟨b, o, none⟩) n c y w hS : ∀ w, Sl .i64 w (some ⟨b, o, none⟩) n c y → Calls Tryz.prog 186 #[.slice (some ⟨b, o, none⟩) n c] w fun e w' => e = .returned (.int .i64 K) ∧ w = w')
  obtain ⟨p1, p2⟩ := pow_bd (show l.toNat ≤ 20 by omega)
  simp only [Int.reducePow] at p2
  obtain ⟨p, hp⟩ : ∃ p : Int, 2 ^ l.toNat = p := ⟨_, rfl⟩
  have HP := Lib.hid hp
  rw [hp] at p1 p2
  clear hK hS hy hc h k1 hk0
  go_enter Tryz.func135, Tryz.ntmps135
  go_wp2_with (first
    | (at_make; refine wpList_make_rowL (fl l y n) rfl _ _ rfl n _ _ rfl rfl (by omega) ?_)
    | (go_at_call 186; (with_reducible refine (HK.out _ S0.out).mono ?_); rintro e w' ⟨rfl, rfl⟩))
  go_loopw [27] (fun i w' => ∃ k : Nat, k ≤ n ∧ i = .int .i64 k ∧ FillS w n (fl l y n) k w') (fun i _ => n - (intOf i).toNat)
  case atStart => exact ⟨0, Nat.zero_le _, rfl, F0.out⟩
  case round =>
    obtain ⟨k, hk, rfl, hf⟩ := hrel
    have HS := Lib.hid hf
    clear hf
    by_cases hlt : k < n
    · have c0 := (Below.cell HS.out.1 (block_lt_of_cell (HC.out k hlt))).trans (HC.out k hlt)
      have c1 := rowL_cell HS.out.2 k hlt
      have f1 := HS.out.2.frozen k
      obtain ⟨y1, y2⟩ := HY.out k hlt
      have HV := HF.out k
      obtain ⟨x, hx⟩ : ∃ x, y k = x := ⟨_, rfl⟩
      rw [hx] at c0 y1 y2 HV
      obtain ⟨m1, m2⟩ := mul_bd x (3 * p) 8 3145728 y1 y2 (by omega) (by omega)
      simp only [Int.reduceMul, Int.reduceNeg] at m1 m2
      have HR := Lib.hid (show fl l y n k = (x * (3 * p)).tdiv (4 * K) by rw [HV]; unfold flv; rw [HP.out])
      have hq : -25165824 ≤ (x * (3 * p)).tdiv (4 * K) ∧ (x * (3 * p)).tdiv (4 * K) ≤ 25165824 := by
        have e := Int.natAbs_tdiv (x * (3 * p)) (4 * K)
        have : (x * (3 * p)).natAbs.div (4 * K).natAbs ≤ (x * (3 * p)).natAbs := Nat.div_le_self _ _
        omega
      obtain ⟨q1, q2⟩ := hq
      clear hx HV
      go_wp2
      go_roundw
      case rel => exact ⟨k + 1, by omega, by go_num, by rw [← HR.out]; exact HS.out.put hlt⟩
      case measure => simp [intOf]; omega
    · obtain rfl : k = n := by omega
      go_wp2
      go_ret
      exact ⟨w.heap.size, _, rfl, Nat.le_refl _, isRow _ _, HS.out.2, HS.out.1⟩

theorem fill_any (l : Int) (a : Option Addr) (n c : Nat) (y : Nat → Int) (w : World) (hS : Sl .i64 w a n c y) (hn : n ≤ 1000) :
    Calls Tryz.prog 135 #[.int .i64 l, .slice a n c] w fun e w' => RetRow w w' e n (fl l y n) := by
  by_cases h : l < 1 ∨ 20 < l ∨ cnt y n = 0
  · exact fill_off l a n c y w hS hn h
  · obtain ⟨h8, h0, _⟩ := cnt_pos (y := y) (n := n) (by omega)
    obtain ⟨b, o, rfl, hc⟩ := hS.2.2 h0
    exact fill_on l b o n c y w hS hc h
end Go.Proofs.YtfohinlldchdpaaGreatDoor.Lv
end

section
/- Contract of the document's Fill. -/
set_option maxRecDepth 100000
set_option linter.unusedVariables false
namespace Go.Proofs.YtfohinlldchdpaaGreatDoor.Lv
open Go.RowKit Go.Proofs.YtfohinlldchdpaaGreatDoor.Row

theorem FillS.drew {w w' : World} {n k : Nat} {g : Nat → Int} (h : FillS w n g k w') : FillS w n g k w'.drew := ⟨h.1.drew, h.2⟩

theorem sz_uns {x : Int} (h1 : -8 ≤ x) (h2 : x ≤ 8) : sz x = uns x := by unfold sz uns; rw [if_neg (by omega)]; split <;> omega

theorem cell1 {w : World} {a p : Addr} {v x : Value} (h : w.cell? p = some x) (hp : p.block ≠ a.block) : (w.setCell a v).drew.cell? p = some x := (cell_set_other w a p v hp).trans h

set_option maxHeartbeats 400000 in
theorem refFill_some (l : Int) (b o n c : Nat) (y : Nat → Int) (w : World) (hc : ∀ i, i < n → w.cell? ⟨b, o + i, none⟩ = some (.int .i64 (y i))) (hb : b < w.heap.size) (h8 : n ≤ 8) (hy : okY y n = true) (l0 : 0 ≤ l) (l2 : l ≤ 20) :
    Calls Tryz.prog 150 #[.int .i64 l, .slice (some ⟨b, o, none⟩) n c] w fun e w' => RetRow w w' e n (fl l y n) := by
  have HC := Lib.hid hc
  have HY := Lib.hid hy
  have HK := Lib.hid (cnt_ok h8 hy)
  have HZ := Lib.hid (rowL_is n (fl l y n))
  have F0 := Lib.hid (FillS.start w n (fl l y n))
  clear hc hy
  go_enter Tryz.func150, Tryz.ntmps150
  go_wp2
  go_loop [5, 6] (fun s i => ∃ k : Nat, k ≤ n ∧ i = .int .i64 k ∧ s = .int .i64 (sm (fun i => uns (y i)) k)) (fun _ i => n - (intOf i).toNat)
  case atStart => exact ⟨0, Nat.zero_le _, rfl, rfl⟩
  case round =>
    obtain ⟨k, hk, rfl, rfl⟩ := hrel
    have hyk : okY y k = true := (okY_iff y k).2 fun i hi => (okY_iff y n).1 HY.out i (by omega)
    obtain ⟨s1, s2⟩ := smu_bd y k hyk
    clear hyk
    by_cases hlt : k < n
    · have c0 := HC.out k hlt
      have HS := Lib.hid (show sm (fun i => uns (y i)) (k + 1) = sm (fun i => uns (y i)) k + uns (y k) from rfl)
      obtain ⟨b1, b2⟩ := (okY_iff y n).1 HY.out k hlt
      obtain ⟨x, hx⟩ : ∃ x, y k = x := ⟨_, rfl⟩
      rw [hx] at c0 b1 b2 HS
      obtain ⟨u1, u2⟩ := uns_bd b1 b2
      have e := sz_uns b1 b2
      obtain ⟨u, hu⟩ : ∃ u, uns x = u := ⟨_, rfl⟩
      rw [hu] at u1 u2 e HS
      have HU := Lib.hid e
      clear hx hu e
      generalize sm (fun i => uns (y i)) k = s at *
      go_wp2_with (go_at_call 96; (with_reducible refine (refSize_as x u _ HU.out).mono ?_); rintro e w' ⟨rfl, rfl⟩)
      go_round
      case rel => exact ⟨k + 1, by omega, by go_num, by rw [HS.out]⟩
      case measure => simp [intOf]; omega
    · obtain rfl : k = n := by omega
      obtain ⟨K, hK⟩ : ∃ K, sm (fun i => uns (y i)) k = K := ⟨_, rfl⟩
      rw [hK] at s1 s2 HK
      rw [hK]
      clear hK hk hlt
      by_cases hoff : l = 0 ∨ K = 0
      · have HX := Lib.hid (HZ.out.ext fun j _ => (fl_off (l := l) (y := y) (n := k) (by rw [HK.out]; omega) j).symm)
        by_cases hk0 : k = 0
        · subst hk0
          go_wp2_with (at_make; refine wpList_make_rowL (fl l y 0) rfl _ _ rfl 0 _ _ rfl rfl (by omega) ?_)
          refine wp_loop_rounds 1 ?_
          rw [rounds_succ]
          go_wp2
          go_ret
          exact ⟨w.heap.size, _, rfl, Nat.le_refl _, HX.out, F0.out.2, F0.out.1⟩
        · by_cases hK0 : K = 0
          · subst hK0
            clear hoff
            go_wp2_with (at_make; refine wpList_make_rowL (fl l y k) rfl _ _ rfl k _ _ rfl rfl (by omega) ?_)
            refine wp_loop_rounds 1 ?_
            rw [rounds_succ]
            go_wp2
            go_ret
            exact ⟨w.heap.size, _, rfl, Nat.le_refl _, HX.out, F0.out.2, F0.out.1⟩
          · obtain rfl : l = 0 := by omega
            have hKp : 0 < K := by omega
            clear hoff hK0
            go_wp2_with (at_make; refine wpList_make_rowL (fl 0 y k) rfl _ _ rfl k _ _ rfl rfl (by omega) ?_)
            refine wp_loop_rounds 1 ?_
            rw [rounds_succ]
            go_wp2
            go_ret
            exact ⟨w.heap.size, _, rfl, Nat.le_refl _, HX.out, F0.out.2, F0.out.1⟩
      · have hl1 : 0 < l := by omega
        have hKp : 0 < K := by omega
        have hK8 : K ≤ 64 := by omega
        have HF := Lib.hid (fun i => fl_on (l := l) (y := y) (n := k) (by rw [HK.out]; omega) i)
        rw [HK.out] at HF
        have hq0 : ¬ 4 * K = 0 := by omega
        obtain ⟨p1, p2⟩ := pow_bd (show l.toNat ≤ 20 by omega)
        simp only [Int.reducePow] at p2
        obtain ⟨p, hp⟩ : ∃ p : Int, 2 ^ l.toNat = p := ⟨_, rfl⟩
        have HP := Lib.hid hp
        rw [hp] at p1 p2
        clear hoff s1 s2 hp HK
        go_wp2_with (at_make; refine wpList_make_rowL (fl l y k) rfl _ _ rfl k _ _ rfl rfl (by omega) ?_)
        go_loopw [8] (fun i w' => ∃ j : Nat, j ≤ k ∧ i = .int .i64 j ∧ FillS w k (fl l y k) j w') (fun i _ => k - (intOf i).toNat)
        case atStart => exact ⟨0, Nat.zero_le _, rfl, F0.out⟩
        case round =>
          obtain ⟨j, hj, rfl, hf⟩ := hrel
          have HS := Lib.hid hf
          clear hf
          by_cases hlt : j < k
          · have c0 := (Below.cell HS.out.1 (block_lt_of_cell (HC.out j hlt))).trans (HC.out j hlt)
            have c1 := rowL_cell HS.out.2 j hlt
            have f1 := HS.out.2.frozen j
            obtain ⟨y1, y2⟩ := (okY_iff y k).1 HY.out j hlt
            have HV := HF.out j
            obtain ⟨x, hx⟩ : ∃ x, y j = x := ⟨_, rfl⟩
            rw [hx] at c0 y1 y2 HV
            obtain ⟨m1, m2⟩ := mul_bd (x * 3) p 24 1048576 (by omega) (by omega) (by omega) (by omega)
            simp only [Int.reduceMul, Int.reduceNeg] at m1 m2
            have HR := Lib.hid (show fl l y k j = (x * 3 * p).tdiv (4 * K) by rw [HV]; unfold flv; rw [HP.out, Int.mul_assoc])
            have hq : -25165824 ≤ (x * 3 * p).tdiv (4 * K) ∧ (x * 3 * p).tdiv (4 * K) ≤ 25165824 := by
              have e := Int.natAbs_tdiv (x * 3 * p) (4 * K)
              have : (x * 3 * p).natAbs.div (4 * K).natAbs ≤ (x * 3 * p).natAbs := Nat.div_le_self _ _
              omega
            obtain ⟨q1, q2⟩ := hq
            have j1 : (j : Int) < (k : Int) := by omega
            have j0 : (0 : Int) ≤ (j : Int) := by omega
            have hbw : ¬ b = w.heap.size := by omega
            have hw1 : IntKind.i64.wrap (x * 3) = x * 3 := IntWalk.i64_in _ (by omega)
            have hw2 : IntKind.i64.wrap (x * 3 * p) = x * 3 * p := IntWalk.i64_in _ (by omega)
            have hw3 : IntKind.i64.wrap (4 * K) = 4 * K := IntWalk.i64_in _ (by omega)
            have hw4 : IntKind.i64.wrap ((x * 3 * p).tdiv (4 * K)) = (x * 3 * p).tdiv (4 * K) := IntWalk.i64_in _ (by omega)
            have hK0 : ¬ K = 0 := by omega
            have hK1 : (K == 0) = false := by rw [beq_eq_false_iff_ne]; exact hK0
            have hK2 : (4 * K == 0) = false := by rw [beq_eq_false_iff_ne]; exact hq0
            clear hx HV
            go_wp2_with fail
            go_region_held3 (fun w' => w'.cell? ⟨b, o + j, none⟩ = some (.int .i64 x)) (first | assumption | exact c0 | exact cell1 c0 (by dsimp only; omega))
              (first | (go_at_call 99; (with_reducible refine (Ref01.pow_as l p _ (by omega) (by omega) HP.out).mono ?_); rintro e w' ⟨rfl, rfl⟩))
            go_wp2
            go_roundw
            case rel => exact ⟨j + 1, by omega, by go_num, by rw [← HR.out]; exact (HS.out.put hlt).drew⟩
            case measure => simp [intOf]; omega
          · obtain rfl : j = k := by omega
            go_wp2
            go_ret
            exact ⟨w.heap.size, _, rfl, Nat.le_refl _, isRow _ _, HS.out.2, HS.out.1⟩

theorem refFill_none (l : Int) (a : Option Addr) (c : Nat) (y : Nat → Int) (w : World) :
    Calls Tryz.prog 150 #[.int .i64 l, .slice a 0 c] w fun e w' => RetRow w w' e 0 (fl l y 0) := by
  have HX := Lib.hid ((rowL_is 0 (fl l y 0)).ext (g := fl l y 0) fun j hj => absurd hj (Nat.not_lt_zero j))
  have F0 := Lib.hid (FillS.start w 0 (fl l y 0))
  go_enter Tryz.func150, Tryz.ntmps150
  go_wp2
  refine wp_loop_rounds 1 ?_
  rw [rounds_succ]
  go_wp2_with (at_make; refine wpList_make_rowL (fl l y 0) rfl _ _ rfl 0 _ _ rfl rfl (by omega) ?_)
  refine wp_loop_rounds 1 ?_
  rw [rounds_succ]
  go_wp2
  go_ret
  exact ⟨w.heap.size, _, rfl, Nat.le_refl _, HX.out, F0.out.2, F0.out.1⟩

theorem refFill_any (l : Int) (a : Option Addr) (n c : Nat) (y : Nat → Int) (w : World) (hS : Sl .i64 w a n c y) (h8 : n ≤ 8) (hy : okY y n = true) (l0 : 0 ≤ l) (l2 : l ≤ 20) :
    Calls Tryz.prog 150 #[.int .i64 l, .slice a n c] w fun e w' => RetRow w w' e n (fl l y n) := by
  by_cases h0 : n = 0
  · subst h0; exact refFill_none l a c y w
  · obtain ⟨b, o, rfl, hc⟩ := hS.2.2 (by omega)
    exact refFill_some l b o n c y w hc (block_lt_of_cell (hc 0 (by omega))) h8 hy l0 l2
end Go.Proofs.YtfohinlldchdpaaGreatDoor.Lv
end
