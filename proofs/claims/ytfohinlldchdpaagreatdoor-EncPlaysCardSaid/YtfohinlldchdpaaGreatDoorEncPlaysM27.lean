/- Texts of the walk, one behind the other. -/
import Derived.Test.YtfohinlldchdpaaGreatDoorEncPlaysM26
import Derived.Test.YtfohinlldchdpaaGreatDoorEncPlaysM16
import Derived.Test.YtfohinlldchdpaaGreatDoorEncPlaysM1
import Derived.Test.YtfohinlldchdpaaGreatDoorEncPlaysM40

section
/- Contract of level's Levels. -/
namespace Go.Proofs.YtfohinlldchdpaaGreatDoor.Lv
open Go.RowKit Go.Proofs.YtfohinlldchdpaaGreatDoor.Row

theorem zero_4 : ∃ Z, IsRow 4 (fun _ => 0) Z ∧ (∀ f, rowL 4 f 0 = Z) ∧ (∀ w, (zeroValue 23).run Tryz.prog w = .ok (.agg Z) w) ∧ ∀ A : Array Value, A.size = 4 → (Tryz.prog.info? 23).map (·.size) = some A.size := zero_row (by kernel_rfl)

theorem length_as (x r : Int) (w : World) (h1 : -9223372036854775808 ≤ x) (h2 : x ≤ 9223372036854775807) (h : ((Lib.bitLen x.natAbs : Nat) : Int) = r) :
    Calls Tryz.prog 62 #[.int .i64 x] w fun e w' => e = .returned (.int .i64 r) ∧ w = w' := by
  subst h; exact Fix.length_any x w h1 h2

/-- What holds while the levels are found. -/
def LvS (w : World) (T Z : Array Value) (g : Nat → Int) (k : Nat) (w' : World) : Prop :=
  Below w.heap.size w w' ∧ At w' w.heap.size T 32 ∧ At w' (w.heap.size + 1) Z 23 ∧ At w' (w.heap.size + 1 + 1) (rowL 4 g k) 23
theorem LvS.start (w : World) (T Z : Array Value) (g : Nat → Int) (hZ : rowL 4 g 0 = Z) : LvS w T Z g 0 (((w.alloc (.cells T 32)).alloc (.cells Z 23)).alloc (.cells Z 23)) := by
  refine ⟨(((Below.refl _ _).alloc (Nat.le_refl _) _).alloc (by simp) _).alloc (by simp; omega) _, ((At.new _ _ _).alloc _).alloc _, ?_, ?_⟩
  · have := (At.new (w.alloc (.cells T 32)) Z 23).alloc (.cells Z 23)
    simpa using this
  · have := At.new ((w.alloc (.cells T 32)).alloc (.cells Z 23)) Z 23
    rw [hZ]
    simpa using this
theorem LvS.below {w w1 w2 : World} {T Z : Array Value} {g : Nat → Int} {k : Nat} (h : LvS w T Z g k w1) (hb : Below w1.heap.size w1 w2) : LvS w T Z g k w2 :=
  ⟨below_trans h.1 hb h.1.size, h.2.1.below hb h.2.1.lt, h.2.2.1.below hb h.2.2.1.lt, h.2.2.2.below hb h.2.2.2.lt⟩
theorem LvS.put {w w1 : World} {T Z : Array Value} {g : Nat → Int} {k : Nat} (h : LvS w T Z g k w1) (hk : k < 4) : LvS w T Z g (k + 1) (w1.setCell ⟨w.heap.size + 1 + 1, k, none⟩ (.int .i64 (g k))) :=
  ⟨h.1.setCell (by dsimp only; omega) _, h.2.1.setCell_other (by dsimp only; omega), h.2.2.1.setCell_other (by dsimp only; omega), h.2.2.2.put hk⟩

theorem fs_bd (k : Nat) (h : k < 4) : fs k < fs (k + 1) ∧ fs (k + 1) ≤ 16 := by
  have : k = 0 ∨ k = 1 ∨ k = 2 ∨ k = 3 := by omega
  rcases this with rfl | rfl | rfl | rfl <;> decide

set_option maxRecDepth 100000 in
set_option maxHeartbeats 1000000 in
theorem levels_any (T : Array Value) (f : Nat → Int) (w : World) (hT : IsRow 16 f T) (hTab : Tab w) :
    Calls Tryz.prog 22 #[.agg T] w fun e w' => RetBlk 4 w w' e (lvB f) := by
  obtain ⟨Z, hZ, hZ0, hz, hi⟩ := zero_4
  have hI16 : (Tryz.prog.info? 32).map (·.size) = some T.size := by obtain ⟨_, _, _, _, h⟩ := zero_block; exact h T hT.1
  have HT := Lib.hid hT
  have HZ := Lib.hid hZ
  have HI := Lib.hid hi
  have HI16 := Lib.hid hI16
  have S0 := Lib.hid (LvS.start w T Z (lvB f) (hZ0 _))
  clear hT hi hZ hZ0 hI16
  go_enter Tryz.func22, Tryz.ntmps22
  go_wp2
  go_loopw [8] (fun i w' => ∃ k : Nat, k ≤ 4 ∧ i = .int .i64 k ∧ LvS w T Z (lvB f) k w') (fun i _ => 4 - (intOf i).toNat)
  case atStart => exact ⟨0, Nat.zero_le _, rfl, S0.out⟩
  case round =>
    obtain ⟨k, hk, rfl, hs⟩ := hrel
    have HS := Lib.hid hs
    clear hs S0
    by_cases hlt : k < 4
    · obtain ⟨l, hl⟩ : ∃ l, fs k = l := ⟨_, rfl⟩
      obtain ⟨h, hh⟩ : ∃ h, fs (k + 1) = h := ⟨_, rfl⟩
      obtain ⟨n, hn⟩ : ∃ n, h - l = n := ⟨_, rfl⟩
      have hb := fs_bd k hlt
      rw [hl, hh] at hb
      have hn16 : n ≤ 16 := by omega
      have HTab := Lib.hid (hTab.below HS.out.1 hTab.lt)
      have CB := Lib.hid (fun w hTab => band_any T f (k : Int) l h n w HT.out hTab (by rw [lo_nat k hlt]; exact hl) (by rw [hi_nat k hlt]; exact hh) hn)
      have HLV := Lib.hid (show lvB f k = lv (fun i => f (l + i)) n by unfold lvB; rw [hl, hh, hn])
      clear hl hh hn hb
      obtain ⟨p, hp⟩ : ∃ p : Nat → Int, p = fun i => f (l + i) := ⟨_, rfl⟩
      rw [← hp] at CB HLV
      clear hp
      go_wp2_with (refine wpList_load_wanted (by rfl) 32 _ rfl w.heap.size rfl _ _ _ _ HS.out.2.1 Tryz.underlying32 HI16.out ?_)
      refine (CB.out _ HTab.out).mono ?_
      rintro e w2 ⟨g, U, rfl, hg, hU, hA, hw2⟩
      have HS2 := Lib.hid (HS.out.below hw2)
      have HU := Lib.hid hU
      have HA := Lib.hid hA
      clear hg hU hA hw2 HS CB HTab
      go_wp2
      go_loop [5, 15] (fun s i => ∃ j : Nat, j ≤ n ∧ i = .int .i64 j ∧ s = .int .i64 (sm (fun i => sz (p i)) j)) (fun _ i => n - (intOf i).toNat)
      case atStart => exact ⟨0, Nat.zero_le _, rfl, rfl⟩
      case round =>
        obtain ⟨j, hj, rfl, rfl⟩ := hrel
        obtain ⟨s1, s2⟩ := sm_bd (fun i => sz (p i)) 1099511627776 (fun i => sz_bd (p i)) j
        have s3 : sm (fun i => sz (p i)) j ≤ 17592186044416 := by omega
        by_cases hjn : j < n
        · have c0 := HU.out.cell HA.out j hjn
          have HSM := Lib.hid (show sm (fun i => sz (p i)) (j + 1) = sm (fun i => sz (p i)) j + sz (p j) from rfl)
          obtain ⟨x, hx⟩ : ∃ x, p j = x := ⟨_, rfl⟩
          rw [hx] at c0 HSM
          obtain ⟨z1, z2⟩ := sz_bd x
          have e1 := uns_hld x
          obtain ⟨q1, q2⟩ := hld_bd x 1099511627776 (by omega)
          obtain ⟨y, hy⟩ : ∃ y, hld x 1099511627776 = y := ⟨_, rfl⟩
          rw [hy] at e1 q1 q2
          obtain ⟨z, hz⟩ : ∃ z, sz x = z := ⟨_, rfl⟩
          rw [hz] at e1 z1 z2 HSM
          have HY := Lib.hid hy
          have HE := Lib.hid e1
          clear hx hy hz e1 s2
          generalize sm (fun i => sz (p i)) j = s at *
          go_wp2_with (first
            | (go_at_call 61; (with_reducible refine (held_as x 1099511627776 y _ (by omega) (by omega) HY.out).mono ?_); rintro e w' ⟨rfl, rfl⟩)
            | (go_at_call 60; (with_reducible refine (unsigned_as y z _ (by omega) (by omega) HE.out).mono ?_); rintro e w' ⟨rfl, rfl⟩))
          go_round
          case rel => exact ⟨j + 1, by omega, by go_num, by rw [HSM.out]⟩
          case measure => simp [intOf]; omega
        · obtain rfl : j = n := by omega
          obtain ⟨r, hr⟩ : ∃ r : Int, ((Lib.bitLen (sm (fun i => sz (p i)) j).natAbs : Nat) : Int) = r := ⟨_, rfl⟩
          have hr0 : 0 ≤ r := by omega
          have hr1 : r ≤ 64 := by
            have := Lib.bitLen_le (sm (fun i => sz (p i)) j).natAbs 64 (by omega) (by omega)
            omega
          have HV := Lib.hid (show lvB f k = min r 20 by rw [HLV.out]; unfold lv; rw [hr])
          have HR := Lib.hid hr
          clear hr s2
          generalize sm (fun i => sz (p i)) j = s at *
          have c1 := rowL_cell HS2.out.2.2.2 k hlt
          have f1 := HS2.out.2.2.2.frozen k
          go_wp2_with (go_at_call 62; (with_reducible refine (length_as s r _ (by omega) (by omega) HR.out).mono ?_); rintro e w' ⟨rfl, rfl⟩)
          all_goals
            go_roundw
            case rel => exact ⟨k + 1, by omega, by go_num, by have h := HS2.out.put hlt; rw [HV.out] at h; first | exact h | (rw [show min r 20 = r by omega] at h; exact h) | (rw [show min r 20 = 20 by omega] at h; exact h)⟩
            case measure => simp [intOf]; omega
    · obtain rfl : k = 4 := by omega
      have HX := Lib.hid (isRow 4 (lvB f))
      go_wp2_with (first
        | (refine wpList_load_wanted (by rfl) 23 _ rfl (w.heap.size + 1 + 1) rfl _ _ _ _ HS.out.2.2.2 Tryz.underlying23 (HI.out _ HX.out.1) ?_)
        | (refine wpList_store_row rfl 23 _ _ rfl (w.heap.size + 1) (rowL 4 (lvB f) 4) rfl rfl _ _ HS.out.2.2.1 (HI.out _ HX.out.1) (by rw [HZ.out.1, HX.out.1]) HX.out.2.1 ?_))
      exact bodyPost_ret (v := .agg (rowL 4 (lvB f) 4)) (results_cell_row rfl _ _ (w.heap.size + 1) 23 (rowL 4 (lvB f) 4) (0, 0) _ rfl HS.out.2.2.1.setRow Tryz.underlying23 rfl (HI.out _ HX.out.1)) rfl ⟨_, rfl, HX.out, below_setRow' HS.out.1 (by omega) _⟩
end Go.Proofs.YtfohinlldchdpaaGreatDoor.Lv
end

section
/- Contracts of the document's Bounds, Level and Fill (spoolref06). -/
namespace Go.Proofs.YtfohinlldchdpaaGreatDoor.Lv
open Go.RowKit Go.Proofs.YtfohinlldchdpaaGreatDoor.Row

set_option maxHeartbeats 400000 in
theorem bounds_any (b : Nat) (w : World) (h : b < 4) :
    Calls Tryz.prog 42 #[.int .i64 b] w fun e w' => e = .returned (.tuple #[.int .i64 (fs b : Nat), .int .i64 (fs (b + 1) : Nat)]) ∧ Below w.heap.size w w' := by
  have : b = 0 ∨ b = 1 ∨ b = 2 ∨ b = 3 := by omega
  rcases this with rfl | rfl | rfl | rfl
  all_goals
    clear h
    go_enter Tryz.func42, Tryz.ntmps42
    go_wp2
    go_quiet (fail)
    go_wp2
    go_ret2
    exact ⟨rfl, below_drewN ((Below.refl _ _).alloc (Nat.le_refl _) _) _⟩

theorem refLength_as (x r : Int) (w : World) (h1 : 0 ≤ x) (h2 : x ≤ 9223372036854775807) (h : ((Lib.bitLen x.natAbs : Nat) : Int) = r) :
    Calls Tryz.prog 97 #[.int .i64 x] w fun e w' => e = .returned (.int .i64 r) ∧ w = w' := by
  subst h; exact Ref01.length_any x w h1 h2

theorem refLevel_none (a : Option Addr) (c : Nat) (f : Nat → Int) (w : World) :
    Calls Tryz.prog 43 #[.slice a 0 c] w fun e w' => e = .returned (.int .i64 (lv f 0)) ∧ w = w' := by
  have HV := Lib.hid (show lv f 0 = 0 from rfl)
  have HL := Lib.hid (show ((Lib.bitLen (0 : Int).natAbs : Nat) : Int) = 0 from rfl)
  go_enter Tryz.func43, Tryz.ntmps43
  go_wp2
  refine wp_loop_rounds 1 ?_
  rw [rounds_succ]
  go_wp2_with (go_at_call 97; (with_reducible refine (refLength_as 0 0 _ (by omega) (by omega) HL.out).mono ?_); rintro e w' ⟨rfl, rfl⟩)
  go_ret
  exact ⟨ret_int HV.out.symm, rfl⟩

set_option maxHeartbeats 400000 in
theorem refLevel_some (b o n c : Nat) (f : Nat → Int) (w : World) (hn : n ≤ 1000) (hc : ∀ i, i < n → w.cell? ⟨b, o + i, none⟩ = some (.int .i64 (f i))) :
    Calls Tryz.prog 43 #[.slice (some ⟨b, o, none⟩) n c] w fun e w' => e = .returned (.int .i64 (lv f n)) ∧ w = w' := by
  have HC := Lib.hid hc
  clear hc
  go_enter Tryz.func43, Tryz.ntmps43
  go_wp2
  go_loop [3, 4] (fun s i => ∃ k : Nat, k ≤ n ∧ i = .int .i64 k ∧ s = .int .i64 (sm (fun i => sz (f i)) k)) (fun _ i => n - (intOf i).toNat)
  case atStart => exact ⟨0, Nat.zero_le _, rfl, rfl⟩
  case round =>
    obtain ⟨k, hk, rfl, rfl⟩ := hrel
    obtain ⟨s1, s2⟩ := sm_bd (fun i => sz (f i)) 1099511627776 (fun i => sz_bd (f i)) k
    have s3 : sm (fun i => sz (f i)) k ≤ 1099511627776000 := by omega
    by_cases hlt : k < n
    · have c0 := HC.out k hlt
      have HS := Lib.hid (show sm (fun i => sz (f i)) (k + 1) = sm (fun i => sz (f i)) k + sz (f k) from rfl)
      obtain ⟨x, hx⟩ : ∃ x, f k = x := ⟨_, rfl⟩
      rw [hx] at c0 HS
      obtain ⟨z1, z2⟩ := sz_bd x
      obtain ⟨z, hz⟩ : ∃ z, sz x = z := ⟨_, rfl⟩
      rw [hz] at z1 z2 HS
      have HZ := Lib.hid hz
      clear hx hz s2
      generalize sm (fun i => sz (f i)) k = s at *
      go_wp2_with (go_at_call 96; (with_reducible refine (refSize_as x z _ HZ.out).mono ?_); rintro e w' ⟨rfl, rfl⟩)
      go_round
      case rel => exact ⟨k + 1, by omega, by go_num, by rw [HS.out]⟩
      case measure => simp [intOf]; omega
    · obtain rfl : k = n := by omega
      obtain ⟨r, hr⟩ : ∃ r : Int, ((Lib.bitLen (sm (fun i => sz (f i)) k).natAbs : Nat) : Int) = r := ⟨_, rfl⟩
      have hr0 : 0 ≤ r := by omega
      have hr1 : r ≤ 64 := by
        have := Lib.bitLen_le (sm (fun i => sz (f i)) k).natAbs 64 (by omega) (by omega)
        omega
      have HV := Lib.hid (show lv f k = min r 20 by unfold lv; rw [hr])
      have HR := Lib.hid hr
      clear hr s2
      generalize sm (fun i => sz (f i)) k = s at *
      go_wp2_with (go_at_call 97; (with_reducible refine (refLength_as s r _ (by omega) (by omega) HR.out).mono ?_); rintro e w' ⟨rfl, rfl⟩)
      all_goals
        go_ret
        exact ⟨ret_int (by rw [HV.out]; try omega), rfl⟩

theorem refLevel_any (a : Option Addr) (n c : Nat) (f : Nat → Int) (w : World) (hS : Sl .i64 w a n c f) (hn : n ≤ 1000) :
    Calls Tryz.prog 43 #[.slice a n c] w fun e w' => e = .returned (.int .i64 (lv f n)) ∧ w = w' := by
  by_cases h0 : n = 0
  · subst h0; exact refLevel_none a c f w
  · obtain ⟨b, o, rfl, hc⟩ := hS.2.2 (by omega)
    exact refLevel_some b o n c f w hn hc

end Go.Proofs.YtfohinlldchdpaaGreatDoor.Lv
end
