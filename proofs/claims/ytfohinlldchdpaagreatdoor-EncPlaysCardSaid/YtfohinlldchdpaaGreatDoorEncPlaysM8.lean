/- Texts of the walk, one behind the other. -/
import Derived.Test.YtfohinlldchdpaaGreatDoorEncPlaysM1
import Derived.Test.YtfohinlldchdpaaGreatDoorEncPlaysM7
import Derived.Laws.EntriesVeiled

section
/- TlA without Lift: fix.Cut to 22 and 16 bits, part, the closures of Lay and Sound. -/
namespace Go.Proofs.YtfohinlldchdpaaGreatDoor.Tl
open Go.RowKit Go.Proofs.YtfohinlldchdpaaGreatDoor.Row
set_option linter.unusedVariables false

theorem zero_block : ∃ Z, IsRow 16 (fun _ => 0) Z ∧ (∀ f, rowL 16 f 0 = Z) ∧ (∀ w, (zeroValue 32).run Tryz.prog w = .ok (.agg Z) w) ∧ ∀ A : Array Value, A.size = 16 → (Tryz.prog.info? 32).map (·.size) = some A.size := zero_row (by kernel_rfl)

theorem zero_16 : ∃ Z, IsRow 16 (fun _ => 0) Z ∧ (∀ f, rowL 16 f 0 = Z) ∧ (∀ w, (zeroValue 22).run Tryz.prog w = .ok (.agg Z) w) ∧ ∀ A : Array Value, A.size = 16 → (Tryz.prog.info? 22).map (·.size) = some A.size := zero_row (by kernel_rfl)

theorem cut22_as (x p : Int) (w : World) (h : ct22 x = p) :
    Calls Tryz.prog 58 #[.int .i64 x, .int .i64 22] w fun e w' => e = .returned (.int .i64 p) ∧ w = w' := by
  subst h
  by_cases c1 : x < -2097152
  · go_enter Tryz.func58, Tryz.ntmps58
    go_wp2
    go_ret
    exact ⟨ret_int (by unfold ct22; omega), rfl⟩
  · by_cases c2 : 2097151 < x
    · go_enter Tryz.func58, Tryz.ntmps58
      go_wp2
      go_ret
      exact ⟨ret_int (by unfold ct22; omega), rfl⟩
    · have h : ¬ (x ≤ -2097152) ∨ x = -2097152 := by omega
      rcases h with h | rfl
      · go_enter Tryz.func58, Tryz.ntmps58
        go_wp2
        go_ret
        exact ⟨ret_int (by unfold ct22; omega), rfl⟩
      · go_enter Tryz.func58, Tryz.ntmps58
        go_wp2
        go_ret
        exact ⟨ret_int (by decide), rfl⟩

theorem cut16_as (x p : Int) (w : World) (h : ct16 x = p) :
    Calls Tryz.prog 58 #[.int .i64 x, .int .i64 16] w fun e w' => e = .returned (.int .i64 p) ∧ w = w' := by
  subst h
  by_cases c1 : x < -32768
  · go_enter Tryz.func58, Tryz.ntmps58
    go_wp2
    go_ret
    exact ⟨ret_int (by unfold ct16; omega), rfl⟩
  · by_cases c2 : 32767 < x
    · go_enter Tryz.func58, Tryz.ntmps58
      go_wp2
      go_ret
      exact ⟨ret_int (by unfold ct16; omega), rfl⟩
    · have h : ¬ (x ≤ -32768) ∨ x = -32768 := by omega
      rcases h with h | rfl
      · go_enter Tryz.func58, Tryz.ntmps58
        go_wp2
        go_ret
        exact ⟨ret_int (by unfold ct16; omega), rfl⟩
      · go_enter Tryz.func58, Tryz.ntmps58
        go_wp2
        go_ret
        exact ⟨ret_int (by decide), rfl⟩

theorem part_as (x p : Int) (w : World) (h1 : -2097152 ≤ x) (h2 : x ≤ 2097151) (h : prt x = p) :
    Calls Tryz.prog 106 #[.int .i64 x] w fun e w' => e = .returned (.int .i64 p) ∧ w = w' := by
  subst h
  unfold prt
  go_enter Tryz.func106, Tryz.ntmps106
  go_wp2
  go_ret
  exact ⟨rfl, rfl⟩

/-- At block c stands s now, and all else is as it was. -/
def Upd (c : Nat) (w w' : World) (s : Int) : Prop := Below c w w' ∧ At w' c #[.int .i64 s] 3 ∧ ∀ b, b ≠ c → w'.heap[b]? = w.heap[b]?

theorem Upd.at {c b : Nat} {w w' : World} {s : Int} {A : Array Value} {t : TypeId} (h : Upd c w w' s) (hA : At w b A t) (hb : b ≠ c) : At w' b A t := (h.2.2 b hb).trans hA

theorem Upd.of {c : Nat} {w : World} {s r : Int} (hc : At w c #[.int .i64 s] 3) : Upd c w (w.drew.setCell ⟨c, 0, none⟩ (.int .i64 r)) r :=
  ⟨(Below.refl _ _).drew.setCell (show c ≤ c from Nat.le_refl _) _, At.setCell (w := w.drew) hc, fun _ hb => heap_setCell_other w.drew _ _ _ hb⟩

theorem layer1_any (x s p q r : Int) (c : Nat) (w : World) (hc : At w c #[.int .i64 s] 3) (h1 : -2097152 ≤ s) (h2 : s ≤ 2097151) (hp : ct22 x = p) (hq : prt s = q) (hr : ct22 (p + q) = r) :
    Calls Tryz.prog 188 #[.int .i64 x, .pointer (some ⟨c, 0, none⟩)] w fun e w' => e = .returned (.int .i64 r) ∧ Upd c w w' r := by
  have k1 := cell_of_row _ _ 0 _ _ _ hc
  have k2 := hc.frozen 0
  simp only [List.getElem?_toArray, List.getElem?_cons_zero] at k1
  obtain ⟨p1, p2⟩ := ct22_bd x
  obtain ⟨q1, q2⟩ := prt_bd (b := 2097152) (by omega) (show s ≤ 2097152 by omega)
  rw [hp] at p1 p2
  rw [hq] at q1 q2
  have HP := Lib.hid hp
  have HQ := Lib.hid hq
  have HR := Lib.hid hr
  have k3 : w.drew.cell? ⟨c, 0, none⟩ = some (.int .i64 s) := k1
  have k4 : w.drew.frozen? ⟨c, 0, none⟩ = false := k2
  have hs : IntKind.i64.wrap (p + q) = p + q := IntWalk.i64_in _ (by omega)
  have HU := Lib.hid (Upd.of (r := r) hc)
  clear hp hq hr hc
  go_enter Tryz.func188, Tryz.ntmps188
  go_wp2_with fail
  go_region_with (first
    | (go_at_call 58; (with_reducible refine (cut22_as x p _ HP.out).mono ?_); rintro e w' ⟨rfl, rfl⟩)
    | (go_at_call 106; (with_reducible refine (part_as s q _ h1 h2 HQ.out).mono ?_); rintro e w' ⟨rfl, rfl⟩)
    | (go_at_call 58; (with_reducible refine (cut22_as (p + q) r _ HR.out).mono ?_); rintro e w' ⟨rfl, rfl⟩))
  all_goals
    go_wp2
    go_ret
    exact ⟨rfl, HU.out⟩

theorem sound1_any (x p : Int) (w : World) (hp : ct16 x = p) :
    Calls Tryz.prog 142 #[.int .i64 x] w fun e w' => e = .returned (.int .i64 p) ∧ w = w' := by
  have HP := Lib.hid hp
  clear hp
  go_enter Tryz.func142, Tryz.ntmps142
  go_wp2_with (go_at_call 58; (with_reducible refine (cut16_as x p _ HP.out).mono ?_); rintro e w' ⟨rfl, rfl⟩)
  go_ret
  exact ⟨rfl, rfl⟩

theorem layer_any (last s : Int) (w : World) (h : ct22 last = s) :
    Calls Tryz.prog 141 #[.int .i64 last] w fun e w' => e = .returned (.func (.func 188) #[] #[.pointer (some ⟨w.heap.size, 0, none⟩)]) ∧ w' = w.alloc (.cells #[.int .i64 s] 3) := by
  have H := Lib.hid h
  clear h
  have hmf : ∀ (fn : Fn) (first cap : Array Value) (w : World), (Instr.makeFunc fn first cap).run Tryz.prog w = .ok (.func fn first cap) w := fun _ _ _ _ => rfl
  go_enter Tryz.func141, Tryz.ntmps141
  go_wp2_with (go_at_call 58; (with_reducible refine (cut22_as last s _ H.out).mono ?_); rintro e w' ⟨rfl, rfl⟩)
  go_ret
  exact ⟨rfl, rfl⟩
end Go.Proofs.YtfohinlldchdpaaGreatDoor.Tl
end

section
/- TlD: the document's Pow, Cut to 22 and 16 bits. -/
namespace Go.Proofs.YtfohinlldchdpaaGreatDoor.Tl
open Go.RowKit Go.Proofs.YtfohinlldchdpaaGreatDoor.Row
set_option linter.unusedVariables false

theorem pow_bd {k m : Nat} (h : k ≤ m) : (1 : Int) ≤ 2 ^ k ∧ (2 : Int) ^ k ≤ 2 ^ m := by
  have h1 : 1 ≤ 2 ^ k := Nat.one_le_two_pow
  have h2 : 2 ^ k ≤ 2 ^ m := Nat.pow_le_pow_right (by omega) h
  exact ⟨by exact_mod_cast h1, by exact_mod_cast h2⟩

theorem pow_any (n : Int) (w : World) (h1 : 0 ≤ n) (h2 : n ≤ 62) :
    Calls Tryz.prog 99 #[.int .i64 n] w fun e w' => e = .returned (.int .i64 (2 ^ n.toNat)) ∧ w = w' := by
  go_enter Tryz.func99, Tryz.ntmps99
  go_wp2
  go_loop [3, 4] (fun p i => ∃ k : Nat, (k : Int) ≤ n ∧ i = .int .i64 k ∧ p = .int .i64 (2 ^ k)) (fun _ i => n.toNat - (intOf i).toNat)
  case atStart => exact ⟨0, by omega, rfl, rfl⟩
  case round =>
    obtain ⟨k, hk, rfl, rfl⟩ := hrel
    by_cases hlt : (k : Int) < n
    · obtain ⟨hp, hq⟩ := pow_bd (show k ≤ 61 by omega)
      simp only [Int.reducePow] at hq
      go_wp2
      go_round
      case rel => exact ⟨k + 1, by omega, by go_num, by rw [Int.pow_succ, Int.mul_comm]⟩
      case measure => simp [intOf]; omega
    · go_wp2
      go_ret
      exact ⟨ret_int (by rw [show n.toNat = k by omega]), rfl⟩

theorem pow_as (n p : Int) (w : World) (h1 : 0 ≤ n) (h2 : n ≤ 62) (h : 2 ^ n.toNat = p) :
    Calls Tryz.prog 99 #[.int .i64 n] w fun e w' => e = .returned (.int .i64 p) ∧ w = w' := by
  subst h; exact pow_any n w h1 h2

theorem refCut22 (x p : Int) (w : World) (h : ct22 x = p) :
    Calls Tryz.prog 54 #[.int .i64 x, .int .i64 22] w fun e w' => e = .returned (.int .i64 p) ∧ w = w' := by
  subst h
  by_cases c1 : x < -2097152
  · go_enter Tryz.func54, Tryz.ntmps54
    go_wp2_with (go_at_call 99; (with_reducible refine (pow_as 21 2097152 _ (by omega) (by omega) (by decide)).mono ?_); rintro e w' ⟨rfl, rfl⟩)
    go_ret
    exact ⟨ret_int (by unfold ct22; omega), rfl⟩
  · by_cases c2 : 2097151 < x
    · go_enter Tryz.func54, Tryz.ntmps54
      go_wp2_with (go_at_call 99; (with_reducible refine (pow_as 21 2097152 _ (by omega) (by omega) (by decide)).mono ?_); rintro e w' ⟨rfl, rfl⟩)
      go_ret
      exact ⟨ret_int (by unfold ct22; omega), rfl⟩
    · go_enter Tryz.func54, Tryz.ntmps54
      go_wp2_with (go_at_call 99; (with_reducible refine (pow_as 21 2097152 _ (by omega) (by omega) (by decide)).mono ?_); rintro e w' ⟨rfl, rfl⟩)
      go_ret
      exact ⟨ret_int (by unfold ct22; omega), rfl⟩

theorem refCut16 (x p : Int) (w : World) (h : ct16 x = p) :
    Calls Tryz.prog 54 #[.int .i64 x, .int .i64 16] w fun e w' => e = .returned (.int .i64 p) ∧ w = w' := by
  subst h
  by_cases c1 : x < -32768
  · go_enter Tryz.func54, Tryz.ntmps54
    go_wp2_with (go_at_call 99; (with_reducible refine (pow_as 15 32768 _ (by omega) (by omega) (by decide)).mono ?_); rintro e w' ⟨rfl, rfl⟩)
    go_ret
    exact ⟨ret_int (by unfold ct16; omega), rfl⟩
  · by_cases c2 : 32767 < x
    · go_enter Tryz.func54, Tryz.ntmps54
      go_wp2_with (go_at_call 99; (with_reducible refine (pow_as 15 32768 _ (by omega) (by omega) (by decide)).mono ?_); rintro e w' ⟨rfl, rfl⟩)
      go_ret
      exact ⟨ret_int (by unfold ct16; omega), rfl⟩
    · go_enter Tryz.func54, Tryz.ntmps54
      go_wp2_with (go_at_call 99; (with_reducible refine (pow_as 15 32768 _ (by omega) (by omega) (by decide)).mono ?_); rintro e w' ⟨rfl, rfl⟩)
      go_ret
      exact ⟨ret_int (by unfold ct16; omega), rfl⟩
end Go.Proofs.YtfohinlldchdpaaGreatDoor.Tl
end

section
/- TlE without Lift: the document's Lay. -/
namespace Go.Proofs.YtfohinlldchdpaaGreatDoor.Tl
open Go.RowKit Go.Proofs.YtfohinlldchdpaaGreatDoor.Row
set_option linter.unusedVariables false

theorem rowL_cell_next {w : World} {b m n : Nat} {f : Nat → Int} {t : TypeId} (h : At w b (rowL m f n) t) (k : Nat) (hk : k < m) (r : Int) : (w.setCell ⟨b, k, none⟩ (.int .i64 r)).cell? ⟨b, k, none⟩ = some (.int .i64 r) := by
  have h2 : At (w.setCell ⟨b, k, none⟩ (.int .i64 r)) b _ t := h.setCell (i := k) (v := .int .i64 r)
  rw [cell_of_row _ _ k _ _ _ h2, Array.getElem?_setIfInBounds_self_of_lt (by rw [rowL_size]; exact hk)]

/-- What holds of the memory while the document's row is filled. -/
def RefInv (w w' : World) (T Z : Array Value) (g : Nat → Int) (k : Nat) : Prop :=
  Below w.heap.size w w' ∧ At w' w.heap.size T 22 ∧ At w' (w.heap.size + 1) Z 22 ∧ At w' (w.heap.size + 1 + 1) (rowL 16 g k) 22

theorem ref_start (w : World) (T Z : Array Value) (g : Nat → Int) (h : rowL 16 g 0 = Z) : RefInv w (((w.alloc (.cells T 22)).alloc (.cells Z 22)).alloc (.cells Z 22)) T Z g 0 := by
  refine ⟨(((Below.refl _ _).alloc (Nat.le_refl _) _).alloc (by simp) _).alloc (by simp; omega) _, ((At.new _ _ _).alloc _).alloc _, ?_, ?_⟩
  · have := (At.new (w.alloc (.cells T 22)) Z 22).alloc (.cells Z 22)
    simpa using this
  · have := At.new ((w.alloc (.cells T 22)).alloc (.cells Z 22)) Z 22
    rw [h]
    simpa using this

set_option maxRecDepth 100000 in
set_option maxHeartbeats 1000000 in
theorem refLay_any (last : Int) (T : Array Value) (f : Nat → Int) (w : World) (hT : IsRow 16 f T) :
    Calls Tryz.prog 152 #[.int .i64 last, .agg T] w fun e w' => e = .returned (.tuple #[.agg (rowL 16 (laS last f) 16), .int .i64 (laS last f 15)]) ∧ Below w.heap.size w w' := by
  obtain ⟨Z, hZ, hZ0, hz, hi⟩ := zero_16
  have HT := Lib.hid hT
  have HZ := Lib.hid hZ
  have HI := Lib.hid hi
  have hstart := ref_start w T Z (laS last f) (hZ0 _)
  obtain ⟨s0, hs0⟩ : ∃ s, outS last f 0 = s := ⟨_, rfl⟩
  have HS0 := Lib.hid hs0
  have HL := Lib.hid (show ct22 last = s0 from hs0)
  clear hT hZ0 hi hZ hs0
  go_enter Tryz.func152, Tryz.ntmps152
  go_wp2_with (go_at_call 54; (with_reducible refine (refCut22 last s0 _ HL.out).mono ?_); rintro e w' ⟨rfl, rfl⟩)
  go_loopw [0, 7] (fun l i w' => ∃ k : Nat, k ≤ 16 ∧ i = .int .i64 k ∧ l = .int .i64 (outS last f k) ∧ RefInv w w' T Z (laS last f) k) (fun _ i _ => 16 - (intOf i).toNat)
  case atStart => exact ⟨0, Nat.zero_le _, rfl, by rw [HS0.out], hstart⟩
  case round =>
    obtain ⟨k, hk, rfl, rfl, hb, h0, h1, h2⟩ := hrel
    clear hstart
    have H0 := Lib.hid h0
    have H1 := Lib.hid h1
    have H2 := Lib.hid h2
    obtain ⟨b1, b2⟩ := out_bd last f k
    by_cases hk16 : k < 16
    · obtain ⟨s, hs⟩ : ∃ s, outS last f k = s := ⟨_, rfl⟩
      rw [hs] at b1 b2
      have c0 := HT.out.cell h0 k hk16
      have c2 := rowL_cell h2 k hk16
      have f2 := h2.frozen k
      obtain ⟨x, hx⟩ : ∃ x, f k = x := ⟨_, rfl⟩
      rw [hx] at c0
      obtain ⟨p, hp⟩ : ∃ p, ct22 x = p := ⟨_, rfl⟩
      obtain ⟨q, hq⟩ : ∃ q, prt s = q := ⟨_, rfl⟩
      obtain ⟨r, hr⟩ : ∃ r, ct22 (p + q) = r := ⟨_, rfl⟩
      obtain ⟨p1, p2⟩ := ct22_bd x
      obtain ⟨q1, q2⟩ := prt_bd (b := 2097152) (by omega) (show s ≤ 2097152 by omega)
      rw [hp] at p1 p2
      rw [hq] at q1 q2
      have HG := Lib.hid (show laS last f k = r by show ct22 (ct22 (f k) + prt (outS last f k)) = r; rw [hx, hs, hp, hq, hr])
      have HN := Lib.hid (show outS last f (k + 1) = r by show ct22 (ct22 (f k) + prt (outS last f k)) = r; rw [hx, hs, hp, hq, hr])
      have HP := Lib.hid hp
      have HR := Lib.hid hr
      have k1 : (k : Int) < 16 := by omega
      have hd : (27853 * s).tdiv 32768 = q := hq
      rw [hs]
      clear h0 h1 h2 hx hp hr hs hq
      go_wp2_with (first | (go_at_call 54; (with_reducible refine (refCut22 x p _ HP.out).mono ?_); rintro e w' ⟨rfl, rfl⟩) | (go_at_call 54; (with_reducible refine (refCut22 (p + q) r _ HR.out).mono ?_); rintro e w' ⟨rfl, rfl⟩; have c3 := rowL_cell_next H2.out k hk16 r))
      go_roundw
      case rel => exact ⟨k + 1, by omega, by go_num, by rw [HN.out], hb.setCell (by dsimp only; omega) _, H0.out.setCell_other (by dsimp only; omega), H1.out.setCell_other (by dsimp only; omega), by first | (rw [← HG.out] ; exact H2.out.put hk16) | (have := H2.out.put hk16; rw [HG.out, ← HR.out] at this; exact this)⟩
      case measure => simp [intOf]; omega
    · clear h0 h1 h2
      obtain rfl : k = 16 := by omega
      go_wp2_with (first
        | refine wpList_load_row rfl 22 _ rfl (w.heap.size + 1 + 1) rfl _ _ (0, 0) _ H2.out Tryz.underlying22 rfl (HI.out _ (rowL_size _ _ _)) ?_
        | refine wpList_store_row rfl 22 _ _ rfl (w.heap.size + 1) (rowL 16 (laS last f) 16) rfl rfl _ _ H1.out (HI.out _ (rowL_size _ _ _)) (by rw [HZ.out.1, rowL_size]) (rowL_one _ _ _) ?_)
      exact bodyPost_ret (v := .tuple #[.agg (rowL 16 (laS last f) 16), .int .i64 (laS last f 15)]) (results_row_int rfl _ _ (w.heap.size + 1) (rowL 16 (laS last f) 16) _ _ rfl rfl H1.out.setRow Tryz.underlying22 (HI.out _ (rowL_size _ _ _))) rfl ⟨rfl, below_setRow' hb (by omega) _⟩
end Go.Proofs.YtfohinlldchdpaaGreatDoor.Tl
end

section
/- TlE: the document's Lift. -/
namespace Go.Proofs.YtfohinlldchdpaaGreatDoor.Tl
open Go.RowKit Go.Proofs.YtfohinlldchdpaaGreatDoor.Row
set_option linter.unusedVariables false

set_option maxRecDepth 100000 in
set_option maxHeartbeats 1000000 in
theorem refLift_any (last : Int) (T : Array Value) (f : Nat → Int) (w : World) (hT : IsRow 16 f T) :
    Calls Tryz.prog 39 #[.int .i64 last, .agg T] w fun e w' => e = .returned (.tuple #[.agg (rowL 16 (liS last f) 16), .int .i64 (ct22 (f 15))]) ∧ Below w.heap.size w w' := by
  obtain ⟨Z, hZ, hZ0, hz, hi⟩ := zero_16
  have HT := Lib.hid hT
  have HZ := Lib.hid hZ
  have HI := Lib.hid hi
  have hstart := ref_start w T Z (liS last f) (hZ0 _)
  obtain ⟨s0, hs0⟩ : ∃ s, ahS last f 0 = s := ⟨_, rfl⟩
  have HS0 := Lib.hid hs0
  have HL := Lib.hid (show ct22 last = s0 from hs0)
  clear hT hZ0 hi hZ hs0
  go_enter Tryz.func39, Tryz.ntmps39
  go_wp2_with (go_at_call 54; (with_reducible refine (refCut22 last s0 _ HL.out).mono ?_); rintro e w' ⟨rfl, rfl⟩)
  go_loopw [0, 7] (fun l i w' => ∃ k : Nat, k ≤ 16 ∧ i = .int .i64 k ∧ l = .int .i64 (ahS last f k) ∧ RefInv w w' T Z (liS last f) k) (fun _ i _ => 16 - (intOf i).toNat)
  case atStart => exact ⟨0, Nat.zero_le _, rfl, by rw [HS0.out], hstart⟩
  case round =>
    obtain ⟨k, hk, rfl, rfl, hb, h0, h1, h2⟩ := hrel
    clear hstart
    have H0 := Lib.hid h0
    have H1 := Lib.hid h1
    have H2 := Lib.hid h2
    obtain ⟨b1, b2⟩ := ah_bd last f k
    by_cases hk16 : k < 16
    · obtain ⟨s, hs⟩ : ∃ s, ahS last f k = s := ⟨_, rfl⟩
      rw [hs] at b1 b2
      have c0 := HT.out.cell h0 k hk16
      have c2 := rowL_cell h2 k hk16
      have f2 := h2.frozen k
      obtain ⟨x, hx⟩ : ∃ x, f k = x := ⟨_, rfl⟩
      rw [hx] at c0
      obtain ⟨p, hp⟩ : ∃ p, ct22 x = p := ⟨_, rfl⟩
      obtain ⟨q, hq⟩ : ∃ q, prt s = q := ⟨_, rfl⟩
      obtain ⟨r, hr⟩ : ∃ r, p - q = r := ⟨_, rfl⟩
      obtain ⟨p1, p2⟩ := ct22_bd x
      obtain ⟨q1, q2⟩ := prt_bd (b := 2097152) (by omega) (show s ≤ 2097152 by omega)
      rw [hp] at p1 p2
      rw [hq] at q1 q2
      have HG := Lib.hid (show liS last f k = r by unfold liS; rw [hx, hs, hp, hq, hr])
      have HN := Lib.hid (show ahS last f (k + 1) = p by show ct22 (f k) = p; rw [hx, hp])
      have HP := Lib.hid hp
      have HR := Lib.hid hr
      have k1 : (k : Int) < 16 := by omega
      have hd : (27853 * s).tdiv 32768 = q := hq
      rw [hs]
      clear h0 h1 h2 hx hp hr hs hq
      go_wp2_with (go_at_call 54; (with_reducible refine (refCut22 x p _ HP.out).mono ?_); rintro e w' ⟨rfl, rfl⟩)
      go_roundw
      case rel => exact ⟨k + 1, by omega, by go_num, by rw [HN.out], hb.setCell (by dsimp only; omega) _, H0.out.setCell_other (by dsimp only; omega), H1.out.setCell_other (by dsimp only; omega), by first | (rw [← HG.out] ; exact H2.out.put hk16) | (have := H2.out.put hk16; rw [HG.out, ← HR.out] at this; exact this)⟩
      case measure => simp [intOf]; omega
    · clear h0 h1 h2
      obtain rfl : k = 16 := by omega
      go_wp2_with (first
        | refine wpList_load_row rfl 22 _ rfl (w.heap.size + 1 + 1) rfl _ _ (0, 0) _ H2.out Tryz.underlying22 rfl (HI.out _ (rowL_size _ _ _)) ?_
        | refine wpList_store_row rfl 22 _ _ rfl (w.heap.size + 1) (rowL 16 (liS last f) 16) rfl rfl _ _ H1.out (HI.out _ (rowL_size _ _ _)) (by rw [HZ.out.1, rowL_size]) (rowL_one _ _ _) ?_)
      exact bodyPost_ret (v := .tuple #[.agg (rowL 16 (liS last f) 16), .int .i64 (ct22 (f 15))]) (results_row_int rfl _ _ (w.heap.size + 1) (rowL 16 (liS last f) 16) _ _ rfl rfl H1.out.setRow Tryz.underlying22 (HI.out _ (rowL_size _ _ _))) rfl ⟨rfl, below_setRow' hb (by omega) _⟩
end Go.Proofs.YtfohinlldchdpaaGreatDoor.Tl
end

section
/- TlB without Lift: tilt.each. -/
namespace Go.Proofs.YtfohinlldchdpaaGreatDoor.Tl
open Go.RowKit Go.Proofs.YtfohinlldchdpaaGreatDoor.Row
set_option linter.unusedVariables false

/-- The first k numbers g's, the others f's. -/
def mix (g f : Nat → Int) (k i : Nat) : Int := if i < k then g i else f i

theorem mix_0 (g f : Nat → Int) (i : Nat) : mix g f 0 i = f i := by unfold mix; rw [if_neg (by omega)]

theorem mix_all (g f : Nat → Int) (m i : Nat) (h : i < m) : mix g f m i = g i := by unfold mix; rw [if_pos h]

theorem mix_next (g f : Nat → Int) (k i : Nat) : (if i = k then g k else mix g f k i) = mix g f (k + 1) i := by
  unfold mix
  by_cases h : i = k
  · subst h; rw [if_pos rfl, if_pos (by omega)]
  · rw [if_neg h]
    by_cases h2 : i < k
    · rw [if_pos h2, if_pos (by omega)]
    · rw [if_neg h2, if_neg (by omega)]

/-- What holds of the memory while each's row is filled. -/
def EachInv (w w' : World) (Z : Array Value) (g f : Nat → Int) (B k : Nat) : Prop :=
  Below B w w' ∧ At w' (w.heap.size + 1) Z 32 ∧ ∃ X, IsRow 16 (mix g f k) X ∧ At w' w.heap.size X 32

theorem each_start (w : World) (T Z : Array Value) (g f : Nat → Int) (B : Nat) (hB : B ≤ w.heap.size) (hT : IsRow 16 f T) : EachInv w ((w.alloc (.cells T 32)).alloc (.cells Z 32)) Z g f B 0 := by
  refine ⟨((Below.refl _ _).alloc hB _).alloc (by simp; omega) _, ?_, T, hT.ext fun i _ => (mix_0 g f i).symm, (At.new _ _ _).alloc _⟩
  have := At.new (w.alloc (.cells T 32)) Z 32
  simpa using this

/-- All that stood, but block c, is as it was. -/
def Kept (c : Nat) (w w' : World) : Prop := ∀ b, b < w.heap.size → b ≠ c → w'.heap[b]? = w.heap[b]?

theorem Kept.start (c : Nat) (w : World) (o o' : Obj) : Kept c w ((w.alloc o).alloc o') := fun b hb _ => (Below.heap_alloc _ _ _ (by simp; omega)).trans (Below.heap_alloc _ _ _ hb)

theorem Kept.set {c b i : Nat} {w w' : World} {v : Value} (h : Kept c w w') (hb : b = c ∨ w.heap.size ≤ b) : Kept c w (w'.setCell ⟨b, i, none⟩ v) := fun k hk hc => (heap_setCell_other _ _ _ _ (by dsimp only; omega)).trans (h k hk hc)

theorem Kept.row {c b : Nat} {w w' : World} {C : Array Value} (h : Kept c w w') (hb : w.heap.size ≤ b) : Kept c w (w'.setRow b C) := fun k hk hc => (Go.setRow_other _ _ _ _ (by omega)).trans (h k hk hc)

theorem Kept.upd {c : Nat} {w w' w2 : World} {s : Int} (h : Kept c w w') (hU : Upd c w' w2 s) : Kept c w w2 := fun k hk hc => (hU.2.2 k hc).trans (h k hk hc)

theorem Kept.at {c b : Nat} {w w' : World} {A : Array Value} {t : TypeId} (h : Kept c w w') (hA : At w b A t) (hb : b ≠ c) : At w' b A t := (h b hA.lt hb).trans hA

set_option maxRecDepth 100000 in
set_option maxHeartbeats 1000000 in
theorem each_la (T : Array Value) (f : Nat → Int) (last s0 : Int) (c : Nat) (w : World) (hT : IsRow 16 f T) (hs0 : ct22 last = s0) (hC : At w c #[.int .i64 s0] 3) :
    Calls Tryz.prog 56 #[.agg T, .func (.func 188) #[] #[.pointer (some ⟨c, 0, none⟩)]] w fun e w' => e = .returned (.agg (rowL 16 (laS last f) 16)) ∧ Below c w w' ∧ Kept c w w' := by
  obtain ⟨Z, hZ, hZ0, hz, hi⟩ := zero_block
  have HT := Lib.hid hT
  have HZ := Lib.hid hZ
  have HI := Lib.hid hi
  have hlt := hC.lt
  subst hs0
  have HC0 := Lib.hid ((hC.alloc (.cells T 32)).alloc (.cells Z 32))
  clear hC
  have hstart := each_start w T Z (laS last f) f c (by omega) hT
  have H0 := Lib.hid (((At.new w T 32).alloc (.cells Z 32)))
  clear hT hZ0 hi hZ
  go_enter Tryz.func56, Tryz.ntmps56
  go_wp2_with (refine wpList_load_row rfl 32 _ rfl w.heap.size rfl _ _ (0, 0) _ H0.out Tryz.underlying32 rfl (HI.out _ HT.out.1) ?_)
  clear H0
  go_loopw [8] (fun i w' => ∃ k : Nat, k ≤ 16 ∧ i = .int .i64 k ∧ EachInv w w' Z (laS last f) f c k ∧ At w' c #[.int .i64 (outS last f k)] 3 ∧ Kept c w w') (fun i _ => 16 - (intOf i).toNat)
  case atStart => exact ⟨0, Nat.zero_le _, rfl, hstart, HC0.out, Kept.start c w _ _⟩
  case round =>
    obtain ⟨k, hk, rfl, ⟨hb, h1, X, hX, h0⟩, hcc, hkp⟩ := hrel
    clear hstart
    have H0 := Lib.hid h0
    have H1 := Lib.hid h1
    have HX := Lib.hid hX
    by_cases hk16 : k < 16
    · have hc := HT.out.2.2 k hk16
      obtain ⟨x, hx⟩ : ∃ x, f k = x := ⟨_, rfl⟩
      rw [hx] at hc
      have hr := run_index Tryz.underlying32 hk16 hc
      have k1 : (k : Int) < 16 := by omega
      have k0 : (0 : Int) ≤ (k : Int) := by omega
      obtain ⟨s, hs⟩ : ∃ s, outS last f k = s := ⟨_, rfl⟩
      obtain ⟨b1, b2⟩ := out_bd last f k
      obtain ⟨p, hp⟩ : ∃ p, ct22 x = p := ⟨_, rfl⟩
      obtain ⟨q, hq⟩ : ∃ q, prt s = q := ⟨_, rfl⟩
      obtain ⟨r, hrr⟩ : ∃ r, ct22 (p + q) = r := ⟨_, rfl⟩
      rw [hs] at b1 b2
      have HP := Lib.hid hp
      have HQ := Lib.hid hq
      have HR := Lib.hid hrr
      have HG := Lib.hid (show laS last f k = r by show ct22 (ct22 (f k) + prt (outS last f k)) = r; rw [hx, hs, hp, hq, hrr])
      have HN := Lib.hid (show outS last f (k + 1) = r by show ct22 (ct22 (f k) + prt (outS last f k)) = r; rw [hx, hs, hp, hq, hrr])
      have HC := Lib.hid (show At wr c #[.int .i64 s] 3 by rw [← hs]; exact hcc)
      clear hs hp hq hrr hcc
      clear h0 h1 hX hc hx
      go_wp2_with (go_at_call 188; (with_reducible refine (layer1_any x s p q r c _ HC.out b1 b2 HP.out HQ.out HR.out).mono ?_); rintro e w1 ⟨rfl, hU⟩; have HU := Lib.hid hU; have c2 := HX.out.cell (hU.at H0.out (by omega)) k hk16; have f2 := (hU.at H0.out (by omega)).frozen k; clear hU)
      go_roundw
      case rel => exact ⟨k + 1, by omega, by go_num, ⟨((hb.trans HU.out.1).setCell (by dsimp only; omega) _), ((HU.out.at H1.out (by omega)).setCell_other (by dsimp only; omega)), _, (HX.out.set (k := k) r hk16).ext fun i _ => by rw [← mix_next _ _ k i, HG.out], At.setCell (HU.out.at H0.out (by omega))⟩, by rw [HN.out]; exact HU.out.2.1.setCell_other (by dsimp only; omega), (hkp.upd HU.out).set (.inr (by omega))⟩
      case measure => simp [intOf]; omega
    · clear h0 h1
      obtain rfl : k = 16 := by omega
      obtain rfl : X = rowL 16 (laS last f) 16 := hX.eq (isRow _ _) fun i hi => mix_all _ _ 16 i hi
      clear hX
      go_wp2_with (first
        | refine wpList_load_row rfl 32 _ rfl w.heap.size rfl _ _ (0, 0) _ H0.out Tryz.underlying32 rfl (HI.out _ (rowL_size _ _ _)) ?_
        | refine wpList_store_row rfl 32 _ _ rfl (w.heap.size + 1) (rowL 16 (laS last f) 16) rfl rfl _ _ H1.out (HI.out _ (rowL_size _ _ _)) (by rw [HZ.out.1, rowL_size]) (rowL_one _ _ _) ?_)
      exact bodyPost_ret (v := .agg (rowL 16 (laS last f) 16)) (results_cell_row rfl _ _ (w.heap.size + 1) 32 (rowL 16 (laS last f) 16) (0, 0) _ rfl H1.out.setRow Tryz.underlying32 rfl (HI.out _ (rowL_size _ _ _))) rfl ⟨rfl, below_setRow' hb (by omega) _, hkp.row (by omega)⟩

set_option maxRecDepth 100000 in
set_option maxHeartbeats 1000000 in
theorem each_so (T : Array Value) (f : Nat → Int) (w : World) (hT : IsRow 16 f T) :
    Calls Tryz.prog 56 #[.agg T, .func (.func 142) #[] #[]] w fun e w' => e = .returned (.agg (rowL 16 (fun k => ct16 (f k)) 16)) ∧ Below w.heap.size w w' := by
  obtain ⟨Z, hZ, hZ0, hz, hi⟩ := zero_block
  have HT := Lib.hid hT
  have HZ := Lib.hid hZ
  have HI := Lib.hid hi
  have hstart := each_start w T Z (fun k => ct16 (f k)) f w.heap.size (by omega) hT
  have H0 := Lib.hid (((At.new w T 32).alloc (.cells Z 32)))
  clear hT hZ0 hi hZ
  go_enter Tryz.func56, Tryz.ntmps56
  go_wp2_with (refine wpList_load_row rfl 32 _ rfl w.heap.size rfl _ _ (0, 0) _ H0.out Tryz.underlying32 rfl (HI.out _ HT.out.1) ?_)
  clear H0
  go_loopw [8] (fun i w' => ∃ k : Nat, k ≤ 16 ∧ i = .int .i64 k ∧ EachInv w w' Z (fun k => ct16 (f k)) f w.heap.size k) (fun i _ => 16 - (intOf i).toNat)
  case atStart => exact ⟨0, Nat.zero_le _, rfl, hstart⟩
  case round =>
    obtain ⟨k, hk, rfl, ⟨hb, h1, X, hX, h0⟩⟩ := hrel
    clear hstart
    have H0 := Lib.hid h0
    have H1 := Lib.hid h1
    have HX := Lib.hid hX
    by_cases hk16 : k < 16
    · have hc := HT.out.2.2 k hk16
      obtain ⟨x, hx⟩ : ∃ x, f k = x := ⟨_, rfl⟩
      rw [hx] at hc
      have hr := run_index Tryz.underlying32 hk16 hc
      have k1 : (k : Int) < 16 := by omega
      have k0 : (0 : Int) ≤ (k : Int) := by omega
      obtain ⟨r, hrr⟩ : ∃ r, ct16 x = r := ⟨_, rfl⟩
      have HR := Lib.hid hrr
      have HG := Lib.hid (show ct16 (f k) = r by rw [hx, hrr])
      have c2 := HX.out.cell h0 k hk16
      have f2 := h0.frozen k
      clear hrr
      clear h0 h1 hX hc hx
      go_wp2_with (go_at_call 142; (with_reducible refine (sound1_any x r _ HR.out).mono ?_); rintro e w' ⟨rfl, rfl⟩)
      go_roundw
      case rel => exact ⟨k + 1, by omega, by go_num, ⟨hb.setCell (by dsimp only; omega) _, At.setCell_other H1.out (by dsimp only; omega), _, (HX.out.set (k := k) r hk16).ext fun i _ => by rw [← mix_next _ _ k i, HG.out], At.setCell H0.out⟩⟩
      case measure => simp [intOf]; omega
    · clear h0 h1
      obtain rfl : k = 16 := by omega
      obtain rfl : X = rowL 16 (fun k => ct16 (f k)) 16 := hX.eq (isRow _ _) fun i hi => mix_all _ _ 16 i hi
      clear hX
      go_wp2_with (first
        | refine wpList_load_row rfl 32 _ rfl w.heap.size rfl _ _ (0, 0) _ H0.out Tryz.underlying32 rfl (HI.out _ (rowL_size _ _ _)) ?_
        | refine wpList_store_row rfl 32 _ _ rfl (w.heap.size + 1) (rowL 16 (fun k => ct16 (f k)) 16) rfl rfl _ _ H1.out (HI.out _ (rowL_size _ _ _)) (by rw [HZ.out.1, rowL_size]) (rowL_one _ _ _) ?_)
      exact bodyPost_ret (v := .agg (rowL 16 (fun k => ct16 (f k)) 16)) (results_cell_row rfl _ _ (w.heap.size + 1) 32 (rowL 16 (fun k => ct16 (f k)) 16) (0, 0) _ rfl H1.out.setRow Tryz.underlying32 rfl (HI.out _ (rowL_size _ _ _))) rfl ⟨rfl, below_setRow' hb (by omega) _⟩
end Go.Proofs.YtfohinlldchdpaaGreatDoor.Tl
end

section
/- TlC without Lift: tilt.Lay, tilt.Sound. -/
namespace Go.Proofs.YtfohinlldchdpaaGreatDoor.Tl
open Go.RowKit Go.Proofs.YtfohinlldchdpaaGreatDoor.Row
set_option linter.unusedVariables false

theorem enter_each (args : Array Value) (w : World) : (callFunc 56 args).run Tryz.prog w = .ok (.enter 56 args) w := run_enter Tryz.func56 (by kernel_rfl) rfl args w

theorem enter_layer (args : Array Value) (w : World) : (callFunc 141 args).run Tryz.prog w = .ok (.enter 141 args) w := run_enter Tryz.func141 (by kernel_rfl) rfl args w

theorem enter_cut (args : Array Value) (w : World) : (callFunc 58 args).run Tryz.prog w = .ok (.enter 58 args) w := run_enter Tryz.func58 (by kernel_rfl) rfl args w

set_option maxRecDepth 100000 in
set_option maxHeartbeats 1000000 in
theorem sound_any (T : Array Value) (f : Nat → Int) (w : World) (hT : IsRow 16 f T) :
    Calls Tryz.prog 91 #[.agg T] w fun e w' => e = .returned (.agg (rowL 16 (fun k => ct16 (f k)) 16)) ∧ Below w.heap.size w w' := by
  obtain ⟨Z, hZ, hZ0, hz, hi⟩ := zero_block
  have HT := Lib.hid hT
  have HZ := Lib.hid hZ
  have HI := Lib.hid hi
  have H0 := Lib.hid ((At.new w T 32).alloc (.cells Z 32))
  have h1 := At.new (w.alloc (.cells T 32)) Z 32
  rw [World.size_alloc] at h1
  have H1 := Lib.hid h1
  have HB := Lib.hid (((Below.refl w.heap.size w).alloc (Nat.le_refl _) (.cells T 32)).alloc (by simp) (.cells Z 32))
  clear hT hZ0 hi hZ h1
  go_enter Tryz.func91, Tryz.ntmps91
  go_wp2_with (refine wpList_load_row rfl 32 _ rfl w.heap.size rfl _ _ (0, 0) _ H0.out Tryz.underlying32 rfl (HI.out _ HT.out.1) ?_)
  refine (each_so T f _ HT.out).mono ?_
  rintro e w1 ⟨rfl, hw1⟩
  have G1 := Lib.hid (H1.out.below hw1 H1.out.lt)
  have GB := Lib.hid (below_trans HB.out hw1 HB.out.size)
  clear H0 H1 HB hw1
  go_wp2_with (refine wpList_store_row rfl 32 _ _ rfl (w.heap.size + 1) (rowL 16 (fun k => ct16 (f k)) 16) rfl rfl _ _ G1.out (HI.out _ (rowL_size _ _ _)) (by rw [HZ.out.1, rowL_size]) (rowL_one _ _ _) ?_)
  exact bodyPost_ret (v := .agg (rowL 16 (fun k => ct16 (f k)) 16)) (results_cell_row rfl _ _ (w.heap.size + 1) 32 (rowL 16 (fun k => ct16 (f k)) 16) (0, 0) _ rfl G1.out.setRow Tryz.underlying32 rfl (HI.out _ (rowL_size _ _ _))) rfl ⟨rfl, below_setRow' GB.out (by omega) _⟩

/-- What holds while Lift works: its frame, the result's row. -/
def LiS (w : World) (T : Array Value) (w' : World) : Prop := Below w.heap.size w w' ∧ w.heap.size + 1 + 1 ≤ w'.heap.size ∧ At w' w.heap.size T 32 ∧ ∃ A : Array Value, A.size = 16 ∧ At w' (w.heap.size + 1) A 32

theorem LiS.start (w : World) (T Z : Array Value) (hZ : Z.size = 16) : LiS w T ((w.alloc (.cells T 32)).alloc (.cells Z 32)) := by
  refine ⟨((Below.refl _ _).alloc (Nat.le_refl _) _).alloc (by simp) _, by simp, (At.new _ _ _).alloc _, Z, hZ, ?_⟩
  have := At.new (w.alloc (.cells T 32)) Z 32
  simpa using this

theorem LiS.drew {w w' : World} {T : Array Value} (h : LiS w T w') : LiS w T w'.drew := ⟨h.1.drew, h.2⟩

theorem LiS.below {w w1 w2 : World} {T : Array Value} {B : Nat} (h : LiS w T w1) (hb : Below B w1 w2) (hB : w.heap.size + 1 + 1 ≤ B) : LiS w T w2 := by
  obtain ⟨h0, h1, h2, A, hA, h3⟩ := h
  have := hb.size
  exact ⟨h0.trans (hb.mono (by omega)), by omega, h2.below hb (by omega), A, hA, h3.below hb (by omega)⟩

theorem LiS.alloc {w w1 : World} {T : Array Value} (h : LiS w T w1) (o : Obj) : LiS w T (w1.alloc o) := by
  obtain ⟨h0, h1, h2, A, hA, h3⟩ := h
  exact ⟨h0.alloc (by omega) _, by simp; omega, h2.alloc _, A, hA, h3.alloc _⟩

theorem LiS.set {w w1 : World} {T R : Array Value} (h : LiS w T w1) (hR : R.size = 16) : LiS w T (w1.setRow (w.heap.size + 1) R) := by
  obtain ⟨h0, h1, h2, A, hA, h3⟩ := h
  exact ⟨below_setRow' h0 (by omega) _, by rw [size_setRow]; exact h1, h2.setRow_other (by omega), R, hR, h3.setRow⟩

theorem LiS.setb {w w1 : World} {T R : Array Value} {b : Nat} (h : LiS w T w1) (hb : w.heap.size + 1 + 1 ≤ b) : LiS w T (w1.setRow b R) := by
  obtain ⟨h0, h1, h2, A, hA, h3⟩ := h
  exact ⟨below_setRow' h0 (by omega) _, by rw [size_setRow]; exact h1, h2.setRow_other (by omega), A, hA, h3.setRow_other (by omega)⟩

set_option maxRecDepth 100000 in
set_option maxHeartbeats 1000000 in
theorem lay_any (last : Int) (T : Array Value) (f : Nat → Int) (w : World) (hT : IsRow 16 f T) :
    Calls Tryz.prog 89 #[.int .i64 last, .agg T] w fun e w' => e = .returned (.tuple #[.agg (rowL 16 (laS last f) 16), .int .i64 (laS last f 15)]) ∧ Below w.heap.size w w' := by
  obtain ⟨Z, hZ, hZ0, hz, hi⟩ := zero_block
  have HT := Lib.hid hT
  have HZ := Lib.hid hZ
  have HI := Lib.hid hi
  have HS := Lib.hid (LiS.start w T Z hZ.1)
  obtain ⟨p, hp⟩ : ∃ p, laS last f 15 = p := ⟨_, rfl⟩
  obtain ⟨s, hs⟩ : ∃ s, ct22 last = s := ⟨_, rfl⟩
  obtain ⟨R, hR⟩ : ∃ R, rowL 16 (laS last f) 16 = R := ⟨_, rfl⟩
  have RR := Lib.hid (show IsRow 16 (laS last f) R by rw [← hR]; exact isRow _ _)
  have CE := Lib.hid (fun c w h => each_la T f last s c w hT hs h)
  rw [hR] at CE
  rw [hp, hR]
  have HP := Lib.hid hp
  have HL := Lib.hid hs
  clear hT hZ0 hi hZ hp hs hR
  go_enter Tryz.func89, Tryz.ntmps89
  go_wp2_with fail
  revert HS
  generalize (w.alloc (.cells T 32)).alloc (.cells Z 32) = W
  intro HS
  have hge := HS.out.2.1
  refine Code.wp_mono (Q := fun e a' w' => e = .normal ∧ ∃ (b : Nat) (u : Value), LiS w T w' ∧ w.heap.size + 1 + 1 ≤ b ∧ At w' b R 32 ∧
    a' = ⟨#[.int .i64 last, .agg T, undef, .pointer (some ⟨w.heap.size, 0, none⟩), .pointer (some ⟨w.heap.size + 1, 0, none⟩), .int .i64 0, .pointer (some ⟨b, 0, none⟩), .agg T, .int .i64 last, u, .agg R, undef, undef, undef], []⟩) ?_ ?_
  rotate_left
  · refine mv_startS (LiS w T) HS.out.drew fun hS => ?_
    refine mv_yield (i := 0) (d := 7) (.agg T) rfl rfl (by kernel_rfl) (by kernel_rfl) (by kernel_rfl) hS (y_loadS (by rfl) rfl rfl (fun _ h => h.2.2.1) Tryz.underlying32 (HI.out _ HT.out.1)) ?_
    simp only [Act.put, List.setIfInBounds_toArray, List.set_cons_zero, List.set_cons_succ]
    refine mv_yield (i := 1) (d := 8) (.int .i64 last) rfl rfl (by kernel_rfl) (by kernel_rfl) (by kernel_rfl) hS (y_run (by rfl) fun _ => by rfl) ?_
    simp only [Act.put, List.setIfInBounds_toArray, List.set_cons_zero, List.set_cons_succ]
    refine mv_ready [2, 4] (by kernel_rfl) (by simp) (ar_callP (d := 9) #[.int .i64 last] rfl rfl (by rfl) rfl enter_layer (by kernel_rfl) (layer_any last s _ HL.out) (fun w' h => by rw [h]; exact hS.alloc _) ?_ (ar_alloc (d := 6) rfl rfl (by rfl) rfl hz (hS.alloc _) ?_ AllReadyH.nil))
    · rintro w1 h1 hS1
      clear hS
      simp only [Act.put, List.setIfInBounds_toArray, List.set_cons_zero, List.set_cons_succ]
      have hc : At w1 W.drew.heap.size #[.int .i64 s] 3 := by rw [h1]; exact At.new _ _ _
      have hlt := hc.lt
      clear h1
      refine mv_ready [3, 4] (by kernel_rfl) (by simp) (ar_callP (d := 10) #[.agg T, .func (.func 188) #[] #[.pointer (some ⟨W.drew.heap.size, 0, none⟩)]] rfl rfl (by rfl) rfl enter_each (by kernel_rfl) (CE.out _ _ hc) (fun w' h => hS1.below h.1 hge) ?_ (ar_alloc (d := 6) rfl rfl (by rfl) rfl hz (hS1.alloc _) ?_ AllReadyH.nil))
      · rintro w2 _ hS2
        clear hS1 hc
        simp only [Act.put, List.setIfInBounds_toArray, List.set_cons_zero, List.set_cons_succ]
        refine mv_ready [4] (by kernel_rfl) (by simp) (ar_alloc (d := 6) rfl rfl (by rfl) rfl hz (hS2.alloc _) (fun hS3 => ?_) AllReadyH.nil)
        simp only [Act.put, List.setIfInBounds_toArray, List.set_cons_zero, List.set_cons_succ]
        have hb := hS2.2.1
        have a1 := At.new w2 Z 32
        refine mv_ready [5] (by kernel_rfl) (by simp) (ar_store w2.heap.size R Z rfl rfl (by rfl) rfl rfl rfl a1 (by rw [HZ.out.1, RR.out.1]) RR.out.2.1 (HI.out _ RR.out.1) (hS3.setb hb) (fun hS4 => ?_) AllReadyH.nil)
        exact mv_done (by kernel_rfl) ⟨rfl, w2.heap.size, _, hS4, hb, a1.setRow, rfl⟩
      · intro hS2
        simp only [Act.put, List.setIfInBounds_toArray, List.set_cons_zero, List.set_cons_succ]
        have hb := hS1.2.1
        have a1 := At.new w1 Z 32
        refine mv_ready [3] (by kernel_rfl) (by simp) (ar_callP (d := 10) #[.agg T, .func (.func 188) #[] #[.pointer (some ⟨W.drew.heap.size, 0, none⟩)]] rfl rfl (by rfl) rfl enter_each (by kernel_rfl) (CE.out _ _ (hc.alloc _)) (fun w' h => hS2.below h.1 hge) ?_ AllReadyH.nil)
        rintro w3 h3 hS3
        simp only [Act.put, List.setIfInBounds_toArray, List.set_cons_zero, List.set_cons_succ]
        have a2 := h3.2.at a1 (by omega)
        refine mv_ready [5] (by kernel_rfl) (by simp) (ar_store w1.heap.size R Z rfl rfl (by rfl) rfl rfl rfl a2 (by rw [HZ.out.1, RR.out.1]) RR.out.2.1 (HI.out _ RR.out.1) (hS3.setb hb) (fun hS4 => ?_) AllReadyH.nil)
        exact mv_done (by kernel_rfl) ⟨rfl, w1.heap.size, _, hS4, hb, a2.setRow, rfl⟩
    · intro hS1
      simp only [Act.put, List.setIfInBounds_toArray, List.set_cons_zero, List.set_cons_succ]
      have a1 := At.new W.drew Z 32
      have l1 : W.drew.heap.size < (W.drew.alloc (.cells Z 32)).heap.size := a1.lt
      refine mv_ready [2] (by kernel_rfl) (by simp) (ar_callP (d := 9) #[.int .i64 last] rfl rfl (by rfl) rfl enter_layer (by kernel_rfl) (layer_any last s _ HL.out) (fun w' h => by rw [h]; exact hS1.alloc _) ?_ AllReadyH.nil)
      rintro w2 h2 hS2
      simp only [Act.put, List.setIfInBounds_toArray, List.set_cons_zero, List.set_cons_succ]
      have hc : At w2 (W.drew.alloc (.cells Z 32)).heap.size #[.int .i64 s] 3 := by rw [h2]; exact At.new _ _ _
      have a2 : At w2 W.drew.heap.size Z 32 := by rw [h2]; exact a1.alloc _
      have hg2 : w.heap.size + 1 + 1 ≤ (W.drew.alloc (.cells Z 32)).heap.size := Nat.le_trans hge (Nat.le_of_lt l1)
      clear h2
      refine mv_ready [3] (by kernel_rfl) (by simp) (ar_callP (d := 10) #[.agg T, .func (.func 188) #[] #[.pointer (some ⟨(W.drew.alloc (.cells Z 32)).heap.size, 0, none⟩)]] rfl rfl (by rfl) rfl enter_each (by kernel_rfl) (CE.out _ _ hc) (fun w' h => hS2.below h.1 hg2) ?_ AllReadyH.nil)
      rintro w3 h3 hS3
      simp only [Act.put, List.setIfInBounds_toArray, List.set_cons_zero, List.set_cons_succ]
      have a3 := a2.below h3.1 l1
      refine mv_ready [5] (by kernel_rfl) (by simp) (ar_store W.drew.heap.size R Z rfl rfl (by rfl) rfl rfl rfl a3 (by rw [HZ.out.1, RR.out.1]) RR.out.2.1 (HI.out _ RR.out.1) (hS3.setb hge) (fun hS4 => ?_) AllReadyH.nil)
      exact mv_done (by kernel_rfl) ⟨rfl, W.drew.heap.size, _, hS4, hge, a3.setRow, rfl⟩
  · rintro e a' w1 ⟨rfl, b, u, hS0, hb, a1, rfl⟩
    clear hge HS
    have HS := Lib.hid hS0
    have A1 := Lib.hid a1
    clear hS0 a1
    go_wp2_with fail
    refine mv_startS (fun w' => LiS w T w' ∧ At w' b R 32) ⟨HS.out.drew, A1.out⟩ fun hS => ?_
    refine mv_yield (i := 0) (d := 11) (.agg R) rfl rfl (by kernel_rfl) (by kernel_rfl) (by kernel_rfl) hS (y_loadS (by rfl) rfl rfl (fun _ h => h.2) Tryz.underlying32 (HI.out _ RR.out.1)) ?_
    simp only [Act.put, List.setIfInBounds_toArray, List.set_cons_zero, List.set_cons_succ]
    refine mv_yield (i := 1) (d := 12) (.pointer (some ⟨b, 15, none⟩)) rfl rfl (by kernel_rfl) (by kernel_rfl) (by kernel_rfl) hS (y_at (m := 16) (k := 15) (by rfl) rfl rfl rfl Tryz.underlying32 rfl (by omega)) ?_
    simp only [Act.put, List.setIfInBounds_toArray, List.set_cons_zero, List.set_cons_succ]
    refine mv_yield (i := 2) (d := 13) (.int .i64 p) rfl rfl (by kernel_rfl) (by kernel_rfl) (by kernel_rfl) hS (y_cellS (by rfl) rfl rfl (fun _ h => by rw [← HP.out]; exact RR.out.cell h.2 15 (by omega))) ?_
    simp only [Act.put, List.setIfInBounds_toArray, List.set_cons_zero, List.set_cons_succ]
    obtain ⟨⟨b0, b1, b2, A, hA, b3⟩, b4⟩ := hS
    refine mv_ready [3] (by kernel_rfl) (by simp) (ar_store (w.heap.size + 1) R A rfl rfl (by rfl) rfl rfl rfl b3 (by rw [hA, RR.out.1]) RR.out.2.1 (HI.out _ RR.out.1) ⟨LiS.set ⟨b0, b1, b2, A, hA, b3⟩ RR.out.1, b4.setRow_other (by omega)⟩ (fun hS => ?_) AllReadyH.nil)
    have G1 := Lib.hid (b3.setRow (C := R))
    have GB := Lib.hid hS.1.1
    clear b0 b1 b2 b3 b4
    refine mv_yield (i := 4) (d := 5) (.int .i64 p) rfl rfl (by kernel_rfl) (by kernel_rfl) (by kernel_rfl) hS (y_run (by rfl) fun _ => by rfl) ?_
    simp only [Act.put, List.setIfInBounds_toArray, List.set_cons_zero, List.set_cons_succ]
    clear hS
    refine mv_done (by kernel_rfl) ?_
    go_wp2
    exact bodyPost_ret (v := .tuple #[.agg R, .int .i64 p]) (results_row_int rfl _ _ (w.heap.size + 1) R _ _ rfl rfl G1.out Tryz.underlying32 (HI.out _ RR.out.1)) rfl ⟨rfl, GB.out⟩
end Go.Proofs.YtfohinlldchdpaaGreatDoor.Tl
end

section
/- TlA, TlB, TlC: tilt.Lift. -/
namespace Go.Proofs.YtfohinlldchdpaaGreatDoor.Tl
open Go.RowKit Go.Proofs.YtfohinlldchdpaaGreatDoor.Row
set_option linter.unusedVariables false

theorem lifter1_any (x s p q r : Int) (c : Nat) (w : World) (hc : At w c #[.int .i64 s] 3) (h1 : -2097152 ≤ s) (h2 : s ≤ 2097151) (hp : ct22 x = p) (hq : prt s = q) (hr : p - q = r) :
    Calls Tryz.prog 105 #[.int .i64 x, .pointer (some ⟨c, 0, none⟩)] w fun e w' => e = .returned (.int .i64 r) ∧ w' = w.setCell ⟨c, 0, none⟩ (.int .i64 p) := by
  have k1 := cell_of_row _ _ 0 _ _ _ hc
  have k2 := hc.frozen 0
  simp only [List.getElem?_toArray, List.getElem?_cons_zero] at k1
  obtain ⟨p1, p2⟩ := ct22_bd x
  obtain ⟨q1, q2⟩ := prt_bd (b := 2097152) (by omega) (show s ≤ 2097152 by omega)
  rw [hp] at p1 p2
  rw [hq] at q1 q2
  have HP := Lib.hid hp
  have HQ := Lib.hid hq
  have HR := Lib.hid hr
  clear hp hq hr hc
  go_enter Tryz.func105, Tryz.ntmps105
  go_wp2_with (first
    | (go_at_call 58; (with_reducible refine (cut22_as x p _ HP.out).mono ?_); rintro e w' ⟨rfl, rfl⟩)
    | (go_at_call 106; (with_reducible refine (part_as s q _ h1 h2 HQ.out).mono ?_); rintro e w' ⟨rfl, rfl⟩))
  go_ret
  exact ⟨ret_int HR.out, rfl⟩

theorem lifter_any (last s : Int) (w : World) (h : ct22 last = s) :
    Calls Tryz.prog 57 #[.int .i64 last] w fun e w' => e = .returned (.func (.func 105) #[] #[.pointer (some ⟨w.heap.size, 0, none⟩)]) ∧ w' = w.alloc (.cells #[.int .i64 s] 3) := by
  have H := Lib.hid h
  clear h
  have hmf : ∀ (fn : Fn) (first cap : Array Value) (w : World), (Instr.makeFunc fn first cap).run Tryz.prog w = .ok (.func fn first cap) w := fun _ _ _ _ => rfl
  go_enter Tryz.func57, Tryz.ntmps57
  go_wp2_with (go_at_call 58; (with_reducible refine (cut22_as last s _ H.out).mono ?_); rintro e w' ⟨rfl, rfl⟩)
  go_ret
  exact ⟨rfl, rfl⟩

set_option maxRecDepth 100000 in
set_option maxHeartbeats 1000000 in
theorem each_li (T : Array Value) (f : Nat → Int) (last s0 : Int) (c : Nat) (w : World) (hT : IsRow 16 f T) (hs0 : ct22 last = s0) (hC : At w c #[.int .i64 s0] 3) :
    Calls Tryz.prog 56 #[.agg T, .func (.func 105) #[] #[.pointer (some ⟨c, 0, none⟩)]] w fun e w' => e = .returned (.agg (rowL 16 (liS last f) 16)) ∧ Below c w w' ∧ Kept c w w' := by
  obtain ⟨Z, hZ, hZ0, hz, hi⟩ := zero_block
  have HT := Lib.hid hT
  have HZ := Lib.hid hZ
  have HI := Lib.hid hi
  have hlt := hC.lt
  subst hs0
  have HC0 := Lib.hid ((hC.alloc (.cells T 32)).alloc (.cells Z 32))
  clear hC
  have hstart := each_start w T Z (liS last f) f c (by omega) hT
  have H0 := Lib.hid (((At.new w T 32).alloc (.cells Z 32)))
  clear hT hZ0 hi hZ
  go_enter Tryz.func56, Tryz.ntmps56
  go_wp2_with (refine wpList_load_row rfl 32 _ rfl w.heap.size rfl _ _ (0, 0) _ H0.out Tryz.underlying32 rfl (HI.out _ HT.out.1) ?_)
  clear H0
  go_loopw [8] (fun i w' => ∃ k : Nat, k ≤ 16 ∧ i = .int .i64 k ∧ EachInv w w' Z (liS last f) f c k ∧ At w' c #[.int .i64 (ahS last f k)] 3 ∧ Kept c w w') (fun i _ => 16 - (intOf i).toNat)
  case atStart => exact ⟨0, Nat.zero_le _, rfl, hstart, HC0.out, Kept.start c w _ _⟩
  case round =>
    obtain ⟨k, hk, rfl, ⟨hb, h1, X, hX, h0⟩, hcc, hkp⟩ := hrel
    clear hstart
    have H0 := Lib.hid h0
    have H1 := Lib.hid h1
    have HX := Lib.hid hX
    by_cases hk16 : k < 16
    · have hc := HT.out.2.2 k hk16
      obtain ⟨x, hx⟩ : ∃ x, f k = x := ⟨_, rfl⟩
      rw [hx] at hc
      have hr := run_index Tryz.underlying32 hk16 hc
      have k1 : (k : Int) < 16 := by omega
      have k0 : (0 : Int) ≤ (k : Int) := by omega
      obtain ⟨s, hs⟩ : ∃ s, ahS last f k = s := ⟨_, rfl⟩
      obtain ⟨b1, b2⟩ := ah_bd last f k
      obtain ⟨p, hp⟩ : ∃ p, ct22 x = p := ⟨_, rfl⟩
      obtain ⟨q, hq⟩ : ∃ q, prt s = q := ⟨_, rfl⟩
      obtain ⟨r, hrr⟩ : ∃ r, p - q = r := ⟨_, rfl⟩
      rw [hs] at b1 b2
      have HP := Lib.hid hp
      have HQ := Lib.hid hq
      have HR := Lib.hid hrr
      have HG := Lib.hid (show liS last f k = r by unfold liS; rw [hx, hs, hp, hq, hrr])
      have HN := Lib.hid (show ahS last f (k + 1) = p by show ct22 (f k) = p; rw [hx, hp])
      have HC := Lib.hid (show At wr c #[.int .i64 s] 3 by rw [← hs]; exact hcc)
      have c2 := HX.out.cell (show At (wr.setCell ⟨c, 0, none⟩ (.int .i64 p)) w.heap.size X 32 from h0.setCell_other (by dsimp only; omega)) k hk16
      have f2 := (show At (wr.setCell ⟨c, 0, none⟩ (.int .i64 p)) w.heap.size X 32 from h0.setCell_other (by dsimp only; omega)).frozen k
      clear hs hp hq hrr hcc
      clear h0 h1 hX hc hx
      go_wp2_with (go_at_call 105; (with_reducible refine (lifter1_any x s p q r c _ HC.out b1 b2 HP.out HQ.out HR.out).mono ?_); rintro e w' ⟨rfl, rfl⟩)
      go_roundw
      case rel => exact ⟨k + 1, by omega, by go_num, ⟨((hb.setCell (by dsimp only; omega) _).setCell (by dsimp only; omega) _), (At.setCell_other (At.setCell_other H1.out (by dsimp only; omega)) (by dsimp only; omega)), _, (HX.out.set (k := k) r hk16).ext fun i _ => by rw [← mix_next _ _ k i, HG.out], At.setCell (At.setCell_other H0.out (by dsimp only; omega))⟩, by rw [HN.out]; exact (At.setCell_other (At.setCell HC.out) (by dsimp only; omega)), (hkp.set (.inl rfl)).set (.inr (by omega))⟩
      case measure => simp [intOf]; omega
    · clear h0 h1
      obtain rfl : k = 16 := by omega
      obtain rfl : X = rowL 16 (liS last f) 16 := hX.eq (isRow _ _) fun i hi => mix_all _ _ 16 i hi
      clear hX
      go_wp2_with (first
        | refine wpList_load_row rfl 32 _ rfl w.heap.size rfl _ _ (0, 0) _ H0.out Tryz.underlying32 rfl (HI.out _ (rowL_size _ _ _)) ?_
        | refine wpList_store_row rfl 32 _ _ rfl (w.heap.size + 1) (rowL 16 (liS last f) 16) rfl rfl _ _ H1.out (HI.out _ (rowL_size _ _ _)) (by rw [HZ.out.1, rowL_size]) (rowL_one _ _ _) ?_)
      exact bodyPost_ret (v := .agg (rowL 16 (liS last f) 16)) (results_cell_row rfl _ _ (w.heap.size + 1) 32 (rowL 16 (liS last f) 16) (0, 0) _ rfl H1.out.setRow Tryz.underlying32 rfl (HI.out _ (rowL_size _ _ _))) rfl ⟨rfl, below_setRow' hb (by omega) _, hkp.row (by omega)⟩

theorem enter_lifter (args : Array Value) (w : World) : (callFunc 57 args).run Tryz.prog w = .ok (.enter 57 args) w := run_enter Tryz.func57 (by kernel_rfl) rfl args w

set_option maxRecDepth 100000 in
set_option maxHeartbeats 1000000 in
theorem lift_any (last : Int) (T : Array Value) (f : Nat → Int) (w : World) (hT : IsRow 16 f T) :
    Calls Tryz.prog 21 #[.int .i64 last, .agg T] w fun e w' => e = .returned (.tuple #[.agg (rowL 16 (liS last f) 16), .int .i64 (ct22 (f 15))]) ∧ Below w.heap.size w w' := by
  obtain ⟨Z, hZ, hZ0, hz, hi⟩ := zero_block
  have HT := Lib.hid hT
  have HZ := Lib.hid hZ
  have HI := Lib.hid hi
  have HS := Lib.hid (LiS.start w T Z hZ.1)
  obtain ⟨x, hx⟩ : ∃ x, f 15 = x := ⟨_, rfl⟩
  obtain ⟨p, hp⟩ : ∃ p, ct22 x = p := ⟨_, rfl⟩
  obtain ⟨s, hs⟩ : ∃ s, ct22 last = s := ⟨_, rfl⟩
  obtain ⟨R, hR⟩ : ∃ R, rowL 16 (liS last f) 16 = R := ⟨_, rfl⟩
  have RR := Lib.hid (show IsRow 16 (liS last f) R by rw [← hR]; exact isRow _ _)
  have CE := Lib.hid (fun c w h => each_li T f last s c w hT hs h)
  rw [hR] at CE
  rw [hx, hp, hR]
  have HP := Lib.hid hp
  have HL := Lib.hid hs
  have HX := Lib.hid hx
  clear hT hZ0 hi hZ hx hp hs hR
  go_enter Tryz.func21, Tryz.ntmps21
  go_wp2_with fail
  revert HS
  generalize (w.alloc (.cells T 32)).alloc (.cells Z 32) = W
  intro HS
  refine mv_startS (LiS w T) HS.out.drew fun hS => ?_
  refine mv_yield (i := 0) (d := 6) (.agg T) rfl rfl (by kernel_rfl) (by kernel_rfl) (by kernel_rfl) hS (y_loadS (by rfl) rfl rfl (fun _ h => h.2.2.1) Tryz.underlying32 (HI.out _ HT.out.1)) ?_
  simp only [Act.put, List.setIfInBounds_toArray, List.set_cons_zero, List.set_cons_succ]
  refine mv_yield (i := 1) (d := 7) (.int .i64 last) rfl rfl (by kernel_rfl) (by kernel_rfl) (by kernel_rfl) hS (y_run (by rfl) fun _ => by rfl) ?_
  simp only [Act.put, List.setIfInBounds_toArray, List.set_cons_zero, List.set_cons_succ]
  refine mv_yield (i := 4) (d := 10) (.pointer (some ⟨w.heap.size, 15, none⟩)) rfl rfl (by kernel_rfl) (by kernel_rfl) (by kernel_rfl) hS (y_at (m := 16) (k := 15) (by rfl) rfl rfl rfl Tryz.underlying32 rfl (by omega)) ?_
  simp only [Act.put, List.setIfInBounds_toArray, List.set_cons_zero, List.set_cons_succ]
  refine mv_yield (i := 5) (d := 11) (.int .i64 x) rfl rfl (by kernel_rfl) (by kernel_rfl) (by kernel_rfl) hS (y_cellS (by rfl) rfl rfl (fun _ h => by rw [← HX.out]; exact HT.out.cell h.2.2.1 15 (by omega))) ?_
  simp only [Act.put, List.setIfInBounds_toArray, List.set_cons_zero, List.set_cons_succ]
  refine mv_ready [2] (by kernel_rfl) (by simp) (ar_callP (d := 8) #[.int .i64 last] rfl rfl (by rfl) rfl enter_lifter (by kernel_rfl) (lifter_any last s _ HL.out) (fun w' h => by rw [h]; exact hS.alloc _) ?_ AllReadyH.nil)
  rintro w1 h1 hS1
  clear hS
  simp only [Act.put, List.setIfInBounds_toArray, List.set_cons_zero, List.set_cons_succ]
  have hc : At w1 W.drew.heap.size #[.int .i64 s] 3 := by rw [h1]; exact At.new _ _ _
  have hge := HS.out.2.1
  clear h1
  refine mv_ready [3] (by kernel_rfl) (by simp) (ar_callP (d := 9) #[.agg T, .func (.func 105) #[] #[.pointer (some ⟨W.drew.heap.size, 0, none⟩)]] rfl rfl (by rfl) rfl enter_each (by kernel_rfl) (CE.out _ _ hc) (fun w' h => hS1.below h.1 hge) ?_ AllReadyH.nil)
  rintro w2 _ hS2
  clear hS1 hc
  simp only [Act.put, List.setIfInBounds_toArray, List.set_cons_zero, List.set_cons_succ]
  refine mv_ready [6] (by kernel_rfl) (by simp) (ar_callP (d := 12) #[.int .i64 x, .int .i64 22] rfl rfl (by rfl) rfl enter_cut (by kernel_rfl) (cut22_as x p _ HP.out) (fun w' h => by rw [← h]; exact hS2) ?_ AllReadyH.nil)
  rintro w3 _ hS
  clear hS2
  simp only [Act.put, List.setIfInBounds_toArray, List.set_cons_zero, List.set_cons_succ]
  obtain ⟨b0, b1, b2, A, hA, b3⟩ := hS
  refine mv_ready [7] (by kernel_rfl) (by simp) (ar_store (w.heap.size + 1) R A rfl rfl (by rfl) rfl rfl rfl b3 (by rw [hA, RR.out.1]) RR.out.2.1 (HI.out _ RR.out.1) (LiS.set ⟨b0, b1, b2, A, hA, b3⟩ RR.out.1) (fun hS => ?_) AllReadyH.nil)
  have G1 := Lib.hid (b3.setRow (C := R))
  have GB := Lib.hid hS.1
  clear b0 b1 b2 b3
  refine mv_yield (i := 8) (d := 5) (.int .i64 p) rfl rfl (by kernel_rfl) (by kernel_rfl) (by kernel_rfl) hS (y_run (by rfl) fun _ => by rfl) ?_
  simp only [Act.put, List.setIfInBounds_toArray, List.set_cons_zero, List.set_cons_succ]
  clear hS
  refine mv_done (by kernel_rfl) ?_
  go_wp2
  exact bodyPost_ret (v := .tuple #[.agg R, .int .i64 p]) (results_row_int rfl _ _ (w.heap.size + 1) R _ _ rfl rfl G1.out Tryz.underlying32 (HI.out _ RR.out.1)) rfl ⟨rfl, GB.out⟩
end Go.Proofs.YtfohinlldchdpaaGreatDoor.Tl
end
