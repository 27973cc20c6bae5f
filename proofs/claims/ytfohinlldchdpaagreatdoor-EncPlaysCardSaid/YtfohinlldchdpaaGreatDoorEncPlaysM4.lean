/- Texts of the walk, one behind the other. -/
import Derived.Test.YtfohinlldchdpaaGreatDoorEncPlaysM1
import Derived.Test.YtfohinlldchdpaaGreatDoorEncPlaysM3

section
/- AngA beside Row: within, half, Shift, cosines. -/
namespace Go.Proofs.YtfohinlldchdpaaGreatDoor.Ang
open Go.RowKit Go.Proofs.YtfohinlldchdpaaGreatDoor.Row
set_option linter.unusedVariables false

theorem within_yes (x b : Int) (w : World) (hb0 : 0 ≤ b) (hb1 : b ≤ 4611686018427387904) (h1 : -b ≤ x) (h2 : x ≤ b) :
    Calls Tryz.prog 111 #[.int .i64 x, .int .i64 b] w fun e w' => e = .returned (.bool true) ∧ w = w' := by
  go_enter Tryz.func111, Tryz.ntmps111
  go_wp2
  go_ret
  exact ⟨rfl, rfl⟩

theorem half_15 (x : Int) (w : World) (h1 : -9000000000000000000 ≤ x) (h2 : x ≤ 9000000000000000000) :
    Calls Tryz.prog 112 #[.int .i64 x, .int .i64 15] w fun e w' => e = .returned (.int .i64 ((x + 16384) / 32768)) ∧ w = w' := by
  go_enter Tryz.func112, Tryz.ntmps112
  go_wp2
  go_ret
  exact ⟨rfl, rfl⟩

theorem shift_15 (x : Int) (w : World) (h1 : -1099511627776 ≤ x) (h2 : x ≤ 1099511627776) :
    Calls Tryz.prog 68 #[.int .i64 x, .int .i64 15] w fun e w' => e = .returned (.int .i64 (near x)) ∧ w = w' := by
  go_enter Tryz.func68, Tryz.ntmps68
  go_wp2_with (first
    | (go_at_call 111; refine (within_yes _ _ _ (by omega) (by omega) (by omega) (by omega)).mono ?_; rintro e w' ⟨rfl, rfl⟩)
    | (go_at_call 112; refine (half_15 _ _ (by omega) (by omega)).mono ?_; rintro e w' ⟨rfl, rfl⟩))
  go_ret
  exact ⟨rfl, rfl⟩

theorem fineAngle_any (u : Int) (w : World) (h0 : 0 ≤ u) (h1 : u ≤ 16) :
    Calls Tryz.prog 210 #[.int .i64 u] w fun e w' => e = .returned (.tuple #[.int .i64 (xS u), .int .i64 (yS u)]) ∧ w = w' := by
  obtain ⟨⟨x0, x1⟩, _⟩ := fineB u h0 h1
  obtain ⟨p0, p1⟩ := mulB _ _ x0 x1 x0 x1
  unfold yS
  unfold xS at *
  go_enter Tryz.func210, Tryz.ntmps210
  go_wp2
  go_ret2
  exact ⟨rfl, rfl⟩

theorem fineCos_any (u : Int) (w : World) (h0 : 0 ≤ u) (h1 : u ≤ 16) :
    Calls Tryz.prog 191 #[.int .i64 u] w fun e w' => e = .returned (.int .i64 (fcS u)) ∧ w = w' := by
  obtain ⟨⟨x0, x1⟩, ⟨y0, y1⟩, ⟨q0, q1⟩, ⟨c0, c1⟩, ⟨s0, s1⟩⟩ := fineB u h0 h1
  obtain ⟨p0, p1⟩ := mulB _ _ y0 y1 y0 y1
  obtain ⟨p2, p3⟩ := mulB _ _ q0 q1 y0 y1
  obtain ⟨p4, p5⟩ := mulB _ _ q0 q1 q0 q1
  have HC := Lib.hid (show fcS u = _ from rfl)
  unfold qS at *
  clear c0 c1 s0 s1
  go_enter Tryz.func191, Tryz.ntmps191
  go_wp2_with (go_at_call 210; refine (fineAngle_any u _ h0 h1).mono ?_; rintro e w' ⟨rfl, rfl⟩)
  go_ret
  exact ⟨rfl, rfl⟩

theorem fineSin_any (u : Int) (w : World) (h0 : 0 ≤ u) (h1 : u ≤ 16) :
    Calls Tryz.prog 192 #[.int .i64 u] w fun e w' => e = .returned (.int .i64 (fsS u)) ∧ w = w' := by
  obtain ⟨⟨x0, x1⟩, ⟨y0, y1⟩, ⟨q0, q1⟩, ⟨c0, c1⟩, ⟨s0, s1⟩⟩ := fineB u h0 h1
  obtain ⟨p0, p1⟩ := mulB _ _ y0 y1 y0 y1
  obtain ⟨p2, p3⟩ := mulB _ _ q0 q1 y0 y1
  obtain ⟨p4, p5⟩ := mulB _ _ x0 x1 y0 y1
  obtain ⟨p6, p7⟩ := mulB _ _ x0 x1 q0 q1
  obtain ⟨p8, p9⟩ := mulB (xS u) (qS u * yS u / 1073741824) x0 x1 (by omega) (by omega)
  unfold qS at *
  clear c0 c1 s0 s1
  go_enter Tryz.func192, Tryz.ntmps192
  go_wp2_with (go_at_call 210; refine (fineAngle_any u _ h0 h1).mono ?_; rintro e w' ⟨rfl, rfl⟩)
  go_ret
  exact ⟨rfl, rfl⟩

theorem quarter_any (u : Int) (w : World) (h0 : 0 ≤ u) (h1 : u ≤ 32) :
    Calls Tryz.prog 156 #[.int .i64 u] w fun e w' => e = .returned (.int .i64 (quS u)) ∧ w = w' := by
  by_cases h : u ≤ 16
  · obtain ⟨_, _, _, ⟨c0, c1⟩, _⟩ := fineB u h0 h
    rw [show quS u = near (fcS u) by unfold quS; rw [if_pos h]]
    go_enter Tryz.func156, Tryz.ntmps156
    go_wp2_with (first
      | (go_at_call 191; refine (fineCos_any _ _ (by omega) (by omega)).mono ?_; rintro e w' ⟨rfl, rfl⟩)
      | (go_at_call 68; refine (shift_15 _ _ (by omega) (by omega)).mono ?_; rintro e w' ⟨rfl, rfl⟩))
    go_ret
    exact ⟨rfl, rfl⟩
  · obtain ⟨_, _, _, _, ⟨c0, c1⟩⟩ := fineB (32 - u) (by omega) (by omega)
    rw [show quS u = near (fsS (32 - u)) by unfold quS; rw [if_neg h]]
    go_enter Tryz.func156, Tryz.ntmps156
    go_wp2_with (first
      | (go_at_call 192; refine (fineSin_any _ _ (by omega) (by omega)).mono ?_; rintro e w' ⟨rfl, rfl⟩)
      | (go_at_call 68; refine (shift_15 _ _ (by omega) (by omega)).mono ?_; rintro e w' ⟨rfl, rfl⟩))
    go_ret
    exact ⟨rfl, rfl⟩

theorem and7 (n : Int) : bits .and .i64 n 127 = n % 128 := by
  have e : ((BitVec.ofInt 64 n) &&& (BitVec.ofInt 64 127)).toNat = (n % 128).toNat := by
    rw [BitVec.toNat_and, BitVec.toNat_ofInt, BitVec.toNat_ofInt]
    have h2 : ((127 : Int) % ((2 ^ 64 : Nat) : Int)).toNat = 2 ^ 7 - 1 := by decide +kernel
    rw [h2, Nat.and_two_pow_sub_one_eq_mod]
    have h3 : ((2 ^ 64 : Nat) : Int) = 18446744073709551616 := by decide +kernel
    rw [h3]
    omega
  show IntKind.i64.wrap ((((BitVec.ofInt 64 n) &&& (BitVec.ofInt 64 127)).toNat : Nat) : Int) = _
  rw [e, IntKind.wrap_i64]
  omega

theorem qu_bd (u : Int) (h0 : 0 ≤ u) (h1 : u ≤ 32) : -32768 ≤ quS u ∧ quS u ≤ 32768 := by
  have h : ∀ k : Fin 33, -32768 ≤ quS k.val ∧ quS k.val ≤ 32768 := by decide +kernel
  have := h ⟨u.toNat, by omega⟩
  simpa [show (u.toNat : Int) = u by omega] using this

theorem cos_any (u : Int) (w : World) :
    Calls Tryz.prog 110 #[.int .i64 u] w fun e w' => e = .returned (.int .i64 (cosS u)) ∧ w = w' := by
  have HA := and7 u
  obtain ⟨v, hv⟩ : ∃ v, u % 128 = v := ⟨_, rfl⟩
  have v0 : 0 ≤ v := by omega
  have v1 : v < 128 := by omega
  rw [hv] at HA
  have hc : cosS u = c0 v := by unfold cosS; rw [hv]
  rw [hc]
  clear hc hv
  by_cases h1 : 64 < v
  · by_cases h2 : 32 < 128 - v
    · obtain ⟨b1, b2⟩ := qu_bd (64 - (128 - v)) (by omega) (by omega)
      have HC := Lib.hid (show c0 v = -quS (64 - (128 - v)) by unfold c0; rw [if_pos h1, if_pos h2])
      go_enter Tryz.func110, Tryz.ntmps110
      go_wp2_with (go_at_call 156; refine (quarter_any _ _ (by omega) (by omega)).mono ?_; rintro e w' ⟨rfl, rfl⟩)
      go_ret
      exact ⟨ret_int HC.out.symm, rfl⟩
    · have HC := Lib.hid (show c0 v = quS (128 - v) by unfold c0; rw [if_pos h1, if_neg h2])
      go_enter Tryz.func110, Tryz.ntmps110
      go_wp2_with (go_at_call 156; refine (quarter_any _ _ (by omega) (by omega)).mono ?_; rintro e w' ⟨rfl, rfl⟩)
      go_ret
      exact ⟨ret_int HC.out.symm, rfl⟩
  · by_cases h2 : 32 < v
    · obtain ⟨b1, b2⟩ := qu_bd (64 - v) (by omega) (by omega)
      have HC := Lib.hid (show c0 v = -quS (64 - v) by unfold c0; rw [if_neg h1, if_pos h2])
      go_enter Tryz.func110, Tryz.ntmps110
      go_wp2_with (go_at_call 156; refine (quarter_any _ _ (by omega) (by omega)).mono ?_; rintro e w' ⟨rfl, rfl⟩)
      go_ret
      exact ⟨ret_int HC.out.symm, rfl⟩
    · have HC := Lib.hid (show c0 v = quS v by unfold c0; rw [if_neg h1, if_neg h2])
      go_enter Tryz.func110, Tryz.ntmps110
      go_wp2_with (go_at_call 156; refine (quarter_any _ _ (by omega) (by omega)).mono ?_; rintro e w' ⟨rfl, rfl⟩)
      go_ret
      exact ⟨ret_int HC.out.symm, rfl⟩

theorem tmod_bd (a b : Int) (h : 0 < b) : -b < a.tmod b ∧ a.tmod b < b := by
  have h1 := Int.tmod_lt_of_pos a h
  have h2 := Int.tmod_lt_of_pos (-a) h
  rw [Int.neg_tmod] at h2
  omega

theorem tmod128 (u : Int) : (u.tmod 128 - 32) % 128 = (u - 32) % 128 := by
  have := Int.tmod_add_mul_tdiv u 128
  omega

theorem sin_any (u : Int) (w : World) :
    Calls Tryz.prog 155 #[.int .i64 u] w fun e w' => e = .returned (.int .i64 (sinS u)) ∧ w = w' := by
  obtain ⟨b1, b2⟩ := tmod_bd u 128 (by omega)
  have HS := Lib.hid (show cosS (u.tmod 128 - 32) = sinS u from cosS_eq (tmod128 u))
  go_enter Tryz.func155, Tryz.ntmps155
  go_wp2_with (go_at_call 110; refine (cos_any _ _).mono ?_; rintro e w' ⟨rfl, rfl⟩)
  go_ret
  exact ⟨ret_int HS.out, rfl⟩

theorem cos_as (u c : Int) (w : World) (h : cosS u = c) :
    Calls Tryz.prog 110 #[.int .i64 u] w fun e w' => e = .returned (.int .i64 c) ∧ w = w' := by
  subst h; exact cos_any u w

theorem sin_as (u c : Int) (w : World) (h : sinS u = c) :
    Calls Tryz.prog 155 #[.int .i64 u] w fun e w' => e = .returned (.int .i64 c) ∧ w = w' := by
  subst h; exact sin_any u w
end Go.Proofs.YtfohinlldchdpaaGreatDoor.Ang
end

section
/- AngB beside Row: the window and the table of cosines. -/
namespace Go.Proofs.YtfohinlldchdpaaGreatDoor.Ang
open Go.RowKit Go.Proofs.YtfohinlldchdpaaGreatDoor.Row
set_option linter.unusedVariables false

theorem winL_zero : rowL 32 winS 0 = #[.int .i64 0, .int .i64 0, .int .i64 0, .int .i64 0, .int .i64 0, .int .i64 0, .int .i64 0, .int .i64 0, .int .i64 0, .int .i64 0, .int .i64 0, .int .i64 0, .int .i64 0, .int .i64 0, .int .i64 0, .int .i64 0, .int .i64 0, .int .i64 0, .int .i64 0, .int .i64 0, .int .i64 0, .int .i64 0, .int .i64 0, .int .i64 0, .int .i64 0, .int .i64 0, .int .i64 0, .int .i64 0, .int .i64 0, .int .i64 0, .int .i64 0, .int .i64 0] := by rw [row_of0]; kernel_rfl

theorem win_size (n : Nat) : (Tryz.prog.info? 109).map (·.size) = some (rowL 32 winS n).size := by rw [rowL_size]; kernel_rfl

/-- What holds of the memory while the row is filled. -/
def WindowInv (w w' : World) (k : Nat) : Prop :=
  Below w.heap.size w w' ∧ w'.heap[w.heap.size]? = some (.cells (rowL 32 winS 0) 109 (0, 0)) ∧ w'.heap[w.heap.size + 1]? = some (.cells (rowL 32 winS k) 109 (0, 0))

set_option maxRecDepth 100000 in
set_option maxHeartbeats 1000000 in
theorem win_any (w : World) :
    Calls Tryz.prog 109 #[] w fun e w' => e = .returned (.agg (rowL 32 winS 32)) ∧ Below w.heap.size w w' := by
  have hstart : WindowInv w ((w.alloc (.cells (rowL 32 winS 0) 109)).alloc (.cells (rowL 32 winS 0) 109)) 0 :=
    ⟨((Below.refl _ _).alloc (Nat.le_refl _) _).alloc (by simp) _, heap_alloc2_old _ _ _, heap_alloc2_new _ _ _⟩
  rw [winL_zero] at hstart
  go_enter Tryz.func109, Tryz.ntmps109
  go_wp2
  go_loopw [2, 3] (fun _ i w' => ∃ k : Nat, k ≤ 32 ∧ i = .int .i64 k ∧ WindowInv w w' k) (fun _ i _ => 32 - (intOf i).toNat)
  case atStart => exact ⟨0, Nat.zero_le _, rfl, hstart⟩
  case round =>
    obtain ⟨k, hk, rfl, hinv⟩ := hrel
    clear hstart
    obtain ⟨hb, h0, h1⟩ := hinv
    have H0 := Lib.hid h0
    have H1 := Lib.hid h1
    by_cases hk16 : k < 32
    · have hc := (cell_of_row _ _ k _ _ _ h1).trans (rowL_get 32 winS k k hk16)
      have hf := frozen_of_row _ _ k _ _ h1
      clear h0 h1
      go_wp2_with (go_at_call 155; (with_reducible refine (sin_as _ (winS k) _ rfl).mono ?_); rintro e w' ⟨rfl, rfl⟩)
      go_roundw
      case rel => exact ⟨k + 1, by omega, by go_num, hb.setCell (by simp) _, (heap_setCell_other _ _ _ _ (by simp)).trans H0.out, by rw [← rowL_next 32 winS k hk16]; exact heap_setCell_same _ _ _ _ _ _ H1.out⟩
      case measure => simp [intOf]; omega
    · clear h0 h1
      obtain rfl : k = 32 := by omega
      go_wp2_with (first
        | refine wpList_load_row rfl 109 _ rfl (w.heap.size + 1) rfl _ _ (0, 0) _ H1.out Tryz.underlying109 rfl (win_size 32) ?_
        | refine wpList_store_row rfl 109 _ _ rfl w.heap.size (rowL 32 winS 32) rfl rfl _ _ H0.out (win_size 32) (by rw [rowL_size, rowL_size]) (rowL_one 32 winS 32) ?_)
      exact bodyPost_ret (v := .agg (rowL 32 winS 32)) (results_cell_row rfl _ _ w.heap.size 109 (rowL 32 winS 32) (0, 0) _ rfl (setRow_heap _ _ _ _ _ _ H0.out) Tryz.underlying109 rfl (win_size 32)) rfl ⟨rfl, below_setRow hb _⟩

def tabS (n : Nat) : Int := cosS n

theorem tab_info : (Tryz.prog.info? 111).map (·.zero) = some (some (.agg (Array.replicate 128 (.int .i64 0)))) := by kernel_rfl

theorem tab_run (w : World) : (zeroValue 111).run Tryz.prog w = .ok (.agg (rowL 128 tabS 0)) w := by
  have h := tab_info
  rw [row_of0]
  cases hi : Tryz.prog.info? 111 with
  | none => rw [hi] at h; cases h
  | some i =>
    rw [hi] at h
    have hz : i.zero = some (.agg (Array.replicate 128 (.int .i64 0))) := by injection h
    simp [zeroValue, typeInfo, hi, hz]

theorem tab_size (n : Nat) : (Tryz.prog.info? 111).map (·.size) = some (rowL 128 tabS n).size := by rw [rowL_size]; kernel_rfl

/-- What holds of the memory while the row is filled. -/
def TableInv (w w' : World) (k : Nat) : Prop :=
  Below w.heap.size w w' ∧ w'.heap[w.heap.size]? = some (.cells (rowL 128 tabS 0) 111 (0, 0)) ∧ w'.heap[w.heap.size + 1]? = some (.cells (rowL 128 tabS k) 111 (0, 0))

set_option maxRecDepth 100000 in
set_option maxHeartbeats 1000000 in
theorem tab_any (w : World) :
    Calls Tryz.prog 65 #[] w fun e w' => e = .returned (.agg (rowL 128 tabS 128)) ∧ Below w.heap.size w w' := by
  have hstart : TableInv w ((w.alloc (.cells (rowL 128 tabS 0) 111)).alloc (.cells (rowL 128 tabS 0) 111)) 0 :=
    ⟨((Below.refl _ _).alloc (Nat.le_refl _) _).alloc (by simp) _, heap_alloc2_old _ _ _, heap_alloc2_new _ _ _⟩
  have hz := tab_run
  go_enter Tryz.func65, Tryz.ntmps65
  go_wp2
  go_loopw [2, 3] (fun _ i w' => ∃ k : Nat, k ≤ 128 ∧ i = .int .i64 k ∧ TableInv w w' k) (fun _ i _ => 128 - (intOf i).toNat)
  case atStart => exact ⟨0, Nat.zero_le _, rfl, hstart⟩
  case round =>
    obtain ⟨k, hk, rfl, hinv⟩ := hrel
    clear hstart
    obtain ⟨hb, h0, h1⟩ := hinv
    have H0 := Lib.hid h0
    have H1 := Lib.hid h1
    by_cases hk16 : k < 128
    · have hc := (cell_of_row _ _ k _ _ _ h1).trans (rowL_get 128 tabS k k hk16)
      have hf := frozen_of_row _ _ k _ _ h1
      clear h0 h1
      go_wp2_with (go_at_call 110; (with_reducible refine (cos_as _ (tabS k) _ rfl).mono ?_); rintro e w' ⟨rfl, rfl⟩)
      go_roundw
      case rel => exact ⟨k + 1, by omega, by go_num, hb.setCell (by simp) _, (heap_setCell_other _ _ _ _ (by simp)).trans H0.out, by rw [← rowL_next 128 tabS k hk16]; exact heap_setCell_same _ _ _ _ _ _ H1.out⟩
      case measure => simp [intOf]; omega
    · clear h0 h1
      obtain rfl : k = 128 := by omega
      go_wp2_with (first
        | refine wpList_load_row rfl 111 _ rfl (w.heap.size + 1) rfl _ _ (0, 0) _ H1.out Tryz.underlying111 rfl (tab_size 128) ?_
        | refine wpList_store_row rfl 111 _ _ rfl w.heap.size (rowL 128 tabS 128) rfl rfl _ _ H0.out (tab_size 128) (by rw [rowL_size, rowL_size]) (rowL_one 128 tabS 128) ?_)
      exact bodyPost_ret (v := .agg (rowL 128 tabS 128)) (results_cell_row rfl _ _ w.heap.size 111 (rowL 128 tabS 128) (0, 0) _ rfl (setRow_heap _ _ _ _ _ _ H0.out) Tryz.underlying111 rfl (tab_size 128)) rfl ⟨rfl, below_setRow hb _⟩
end Go.Proofs.YtfohinlldchdpaaGreatDoor.Ang
end

section
/- AngRef beside Row: the document's cosines. -/
namespace Go.Proofs.YtfohinlldchdpaaGreatDoor.Ang
open Go.RowKit Go.Proofs.YtfohinlldchdpaaGreatDoor.Row
set_option linter.unusedVariables false

theorem down_neg (x b : Int) (hb : 1 ≤ b) (h : x.tmod b < 0) : x / b = x.tdiv b - 1 := by
  have h1 := Int.tmod_add_mul_tdiv x b
  have h2 := tmod_bd x b (by omega)
  have h3 : x = (x.tdiv b - 1) * b + (x.tmod b + b) := by rw [Int.sub_mul, Int.mul_comm _ b]; omega
  rw [show x / b = ((x.tdiv b - 1) * b + (x.tmod b + b)) / b by rw [← h3], Int.add_comm, Int.add_mul_ediv_right _ _ (by omega), Int.ediv_eq_zero_of_lt (by omega) (by omega)]; omega

theorem down_pos (x b : Int) (hb : 1 ≤ b) (h : 0 ≤ x.tmod b) : x / b = x.tdiv b := by
  have h1 := Int.tmod_add_mul_tdiv x b
  have h2 := tmod_bd x b (by omega)
  have h3 : x = x.tdiv b * b + x.tmod b := by rw [Int.mul_comm]; omega
  rw [show x / b = (x.tdiv b * b + x.tmod b) / b by rw [← h3], Int.add_comm, Int.add_mul_ediv_right _ _ (by omega), Int.ediv_eq_zero_of_lt (by omega) (by omega)]; omega

theorem down_any (x b : Int) (w : World) (h1 : -9223372036854775807 ≤ x) (h2 : x ≤ 9223372036854775807) (hb : 1 ≤ b) (hb2 : b ≤ 9223372036854775807) :
    Calls Tryz.prog 144 #[.int .i64 x, .int .i64 b] w fun e w' => e = .returned (.int .i64 (x / b)) ∧ w = w' := by
  have hq := IntWalk.i64_quo' x b ⟨by omega, by omega, hb⟩
  have HQ := Lib.hid hq
  have hb0 : ¬ b = 0 := by omega
  by_cases hm : x.tmod b < 0
  · have HD := Lib.hid (down_neg x b hb hm)
    have hl : -9223372036854775807 ≤ x.tdiv b ∧ x.tdiv b ≤ 9223372036854775807 := by
      have e := Int.natAbs_tdiv x b
      have : x.natAbs.div b.natAbs ≤ x.natAbs := Nat.div_le_self x.natAbs b.natAbs
      omega
    obtain ⟨l1, l2⟩ := hl
    go_enter Tryz.func144, Tryz.ntmps144
    go_wp2
    go_ret
    exact ⟨ret_int (by rw [HD.out]), rfl⟩
  · have HD := Lib.hid (down_pos x b hb (by omega))
    go_enter Tryz.func144, Tryz.ntmps144
    go_wp2
    go_ret
    exact ⟨ret_int (by rw [HD.out]), rfl⟩

theorem near_any (x : Int) (w : World) (h1 : 0 ≤ x) (h2 : x ≤ 1099511627776) :
    Calls Tryz.prog 209 #[.int .i64 x] w fun e w' => e = .returned (.int .i64 (near x)) ∧ w = w' := by
  go_enter Tryz.func209, Tryz.ntmps209
  go_wp2_with (go_at_call 144; refine (down_any _ _ _ (by omega) (by omega) (by omega) (by omega)).mono ?_; rintro e w' ⟨rfl, rfl⟩)
  go_ret
  exact ⟨rfl, rfl⟩

theorem both_any (u : Int) (w : World) (h0 : 0 ≤ u) (h1 : u ≤ 16) :
    Calls Tryz.prog 189 #[.int .i64 u] w fun e w' => e = .returned (.tuple #[.int .i64 (near (fcS u)), .int .i64 (near (fsS u))]) ∧ w = w' := by
  obtain ⟨⟨x0, x1⟩, ⟨y0, y1⟩, ⟨q0, q1⟩, ⟨c0, c1⟩, ⟨s0, s1⟩⟩ := fineB u h0 h1
  obtain ⟨p0, p1⟩ := mulB _ _ y0 y1 y0 y1
  obtain ⟨p2, p3⟩ := mulB _ _ q0 q1 y0 y1
  obtain ⟨p4, p5⟩ := mulB _ _ x0 x1 y0 y1
  obtain ⟨p6, p7⟩ := mulB _ _ x0 x1 q0 q1
  obtain ⟨p8, p9⟩ := mulB (xS u) (qS u * yS u / 1073741824) x0 x1 (by omega) (by omega)
  obtain ⟨p10, p11⟩ := mulB _ _ q0 q1 q0 q1
  obtain ⟨p12, p13⟩ := mulB _ _ x0 x1 x0 x1
  have ex : u * 105414357 / 2 = xS u := rfl
  have ey : xS u * xS u / 1073741824 = yS u := rfl
  have eq : yS u * yS u / 1073741824 = qS u := rfl
  have ec : 1073741824 - yS u / 2 + yS u * yS u / 25769803776 - qS u * yS u / 773094113280 + qS u * qS u / 43293270343680 = fcS u := rfl
  have es : xS u - xS u * yS u / 6442450944 + xS u * qS u / 128849018880 - xS u * (qS u * yS u / 1073741824) / 5411658792960 = fsS u := rfl
  go_enter Tryz.func189, Tryz.ntmps189
  go_wp2_with (first
    | (go_at_call 144; refine (down_any _ _ _ (by omega) (by omega) (by omega) (by omega)).mono ?_; rintro e w' ⟨rfl, rfl⟩)
    | (go_at_call 209; refine (near_any _ _ (by omega) (by omega)).mono ?_; rintro e w' ⟨rfl, rfl⟩))
  go_ret2
  exact ⟨rfl, rfl⟩

theorem both_as (u m : Int) (w : World) (h : u = m) (h0 : 0 ≤ m) (h1 : m ≤ 16) :
    Calls Tryz.prog 189 #[.int .i64 u] w fun e w' => e = .returned (.tuple #[.int .i64 (near (fcS m)), .int .i64 (near (fsS m))]) ∧ w = w' := by
  subst h; exact both_any u w h0 h1

theorem refCos_any (u : Int) (w : World) :
    Calls Tryz.prog 143 #[.int .i64 u] w fun e w' => e = .returned (.int .i64 (cosS u)) ∧ w = w' := by
  obtain ⟨v, hv⟩ : ∃ v, u % 128 = v := ⟨_, rfl⟩
  obtain ⟨t, ht⟩ : ∃ t, u.tmod 128 = t := ⟨_, rfl⟩
  have v0 : 0 ≤ v := by omega
  have v1 : v < 128 := by omega
  have hc : cosS u = c0 v := by unfold cosS; rw [hv]
  rw [hc]
  have hm := Int.tmod_add_mul_tdiv u 128
  obtain ⟨b1, b2⟩ := tmod_bd u 128 (by omega)
  rw [ht] at hm b1 b2
  have h : t = v ∨ t = v - 128 := by omega
  clear hc hm hv
  have g : ∀ m, 0 ≤ m → m ≤ 32 → -32768 ≤ quS m ∧ quS m ≤ 32768 := qu_bd
  rcases h with h | h
  · by_cases h1 : 64 < v
    · by_cases h2 : 32 < 128 - v
      · have HC := Lib.hid (show c0 v = -quS (64 - (128 - v)) by unfold c0; rw [if_pos h1, if_pos h2])
        obtain ⟨g1, g2⟩ := g (64 - (128 - v)) (by omega) (by omega)
        clear g
        by_cases h3 : 64 - (128 - v) ≤ 16
        · have hq := show quS (64 - (128 - v)) = near (fcS (64 - (128 - v))) by unfold quS; rw [if_pos h3]
          rw [hq] at g1 g2
          have HQ := Lib.hid hq
          clear hq
          go_enter Tryz.func143, Tryz.ntmps143
          go_wp2_with (go_at_call 189; refine (both_as _ (64 - (128 - v)) _ (by omega) (by omega) (by omega)).mono ?_; rintro e w' ⟨rfl, rfl⟩)
          go_ret
          exact ⟨ret_int (by rw [HC.out, HQ.out]), rfl⟩
        · have hq := show quS (64 - (128 - v)) = near (fsS (32 - (64 - (128 - v)))) by unfold quS; rw [if_neg h3]
          rw [hq] at g1 g2
          have HQ := Lib.hid hq
          clear hq
          go_enter Tryz.func143, Tryz.ntmps143
          go_wp2_with (go_at_call 189; refine (both_as _ (32 - (64 - (128 - v))) _ (by omega) (by omega) (by omega)).mono ?_; rintro e w' ⟨rfl, rfl⟩)
          go_ret
          exact ⟨ret_int (by rw [HC.out, HQ.out]), rfl⟩
      · have HC := Lib.hid (show c0 v = quS (128 - v) by unfold c0; rw [if_pos h1, if_neg h2])
        obtain ⟨g1, g2⟩ := g (128 - v) (by omega) (by omega)
        clear g
        by_cases h3 : 128 - v ≤ 16
        · have hq := show quS (128 - v) = near (fcS (128 - v)) by unfold quS; rw [if_pos h3]
          rw [hq] at g1 g2
          have HQ := Lib.hid hq
          clear hq
          go_enter Tryz.func143, Tryz.ntmps143
          go_wp2_with (go_at_call 189; refine (both_as _ (128 - v) _ (by omega) (by omega) (by omega)).mono ?_; rintro e w' ⟨rfl, rfl⟩)
          go_ret
          exact ⟨ret_int (by rw [HC.out, HQ.out]), rfl⟩
        · have hq := show quS (128 - v) = near (fsS (32 - (128 - v))) by unfold quS; rw [if_neg h3]
          rw [hq] at g1 g2
          have HQ := Lib.hid hq
          clear hq
          go_enter Tryz.func143, Tryz.ntmps143
          go_wp2_with (go_at_call 189; refine (both_as _ (32 - (128 - v)) _ (by omega) (by omega) (by omega)).mono ?_; rintro e w' ⟨rfl, rfl⟩)
          go_ret
          exact ⟨ret_int (by rw [HC.out, HQ.out]), rfl⟩
    · by_cases h2 : 32 < v
      · have HC := Lib.hid (show c0 v = -quS (64 - v) by unfold c0; rw [if_neg h1, if_pos h2])
        obtain ⟨g1, g2⟩ := g (64 - v) (by omega) (by omega)
        clear g
        by_cases h3 : 64 - v ≤ 16
        · have hq := show quS (64 - v) = near (fcS (64 - v)) by unfold quS; rw [if_pos h3]
          rw [hq] at g1 g2
          have HQ := Lib.hid hq
          clear hq
          go_enter Tryz.func143, Tryz.ntmps143
          go_wp2_with (go_at_call 189; refine (both_as _ (64 - v) _ (by omega) (by omega) (by omega)).mono ?_; rintro e w' ⟨rfl, rfl⟩)
          go_ret
          exact ⟨ret_int (by rw [HC.out, HQ.out]), rfl⟩
        · have hq := show quS (64 - v) = near (fsS (32 - (64 - v))) by unfold quS; rw [if_neg h3]
          rw [hq] at g1 g2
          have HQ := Lib.hid hq
          clear hq
          go_enter Tryz.func143, Tryz.ntmps143
          go_wp2_with (go_at_call 189; refine (both_as _ (32 - (64 - v)) _ (by omega) (by omega) (by omega)).mono ?_; rintro e w' ⟨rfl, rfl⟩)
          go_ret
          exact ⟨ret_int (by rw [HC.out, HQ.out]), rfl⟩
      · have HC := Lib.hid (show c0 v = quS v by unfold c0; rw [if_neg h1, if_neg h2])
        obtain ⟨g1, g2⟩ := g (v) (by omega) (by omega)
        clear g
        by_cases h3 : v ≤ 16
        · have hq := show quS (v) = near (fcS (v)) by unfold quS; rw [if_pos h3]
          rw [hq] at g1 g2
          have HQ := Lib.hid hq
          clear hq
          go_enter Tryz.func143, Tryz.ntmps143
          go_wp2_with (go_at_call 189; refine (both_as _ (v) _ (by omega) (by omega) (by omega)).mono ?_; rintro e w' ⟨rfl, rfl⟩)
          go_ret
          exact ⟨ret_int (by rw [HC.out, HQ.out]), rfl⟩
        · have hq := show quS (v) = near (fsS (32 - (v))) by unfold quS; rw [if_neg h3]
          rw [hq] at g1 g2
          have HQ := Lib.hid hq
          clear hq
          go_enter Tryz.func143, Tryz.ntmps143
          go_wp2_with (go_at_call 189; refine (both_as _ (32 - (v)) _ (by omega) (by omega) (by omega)).mono ?_; rintro e w' ⟨rfl, rfl⟩)
          go_ret
          exact ⟨ret_int (by rw [HC.out, HQ.out]), rfl⟩
  · by_cases h1 : 64 < v
    · by_cases h2 : 32 < 128 - v
      · have HC := Lib.hid (show c0 v = -quS (64 - (128 - v)) by unfold c0; rw [if_pos h1, if_pos h2])
        obtain ⟨g1, g2⟩ := g (64 - (128 - v)) (by omega) (by omega)
        clear g
        by_cases h3 : 64 - (128 - v) ≤ 16
        · have hq := show quS (64 - (128 - v)) = near (fcS (64 - (128 - v))) by unfold quS; rw [if_pos h3]
          rw [hq] at g1 g2
          have HQ := Lib.hid hq
          clear hq
          go_enter Tryz.func143, Tryz.ntmps143
          go_wp2_with (go_at_call 189; refine (both_as _ (64 - (128 - v)) _ (by omega) (by omega) (by omega)).mono ?_; rintro e w' ⟨rfl, rfl⟩)
          go_ret
          exact ⟨ret_int (by rw [HC.out, HQ.out]), rfl⟩
        · have hq := show quS (64 - (128 - v)) = near (fsS (32 - (64 - (128 - v)))) by unfold quS; rw [if_neg h3]
          rw [hq] at g1 g2
          have HQ := Lib.hid hq
          clear hq
          go_enter Tryz.func143, Tryz.ntmps143
          go_wp2_with (go_at_call 189; refine (both_as _ (32 - (64 - (128 - v))) _ (by omega) (by omega) (by omega)).mono ?_; rintro e w' ⟨rfl, rfl⟩)
          go_ret
          exact ⟨ret_int (by rw [HC.out, HQ.out]), rfl⟩
      · have HC := Lib.hid (show c0 v = quS (128 - v) by unfold c0; rw [if_pos h1, if_neg h2])
        obtain ⟨g1, g2⟩ := g (128 - v) (by omega) (by omega)
        clear g
        by_cases h3 : 128 - v ≤ 16
        · have hq := show quS (128 - v) = near (fcS (128 - v)) by unfold quS; rw [if_pos h3]
          rw [hq] at g1 g2
          have HQ := Lib.hid hq
          clear hq
          go_enter Tryz.func143, Tryz.ntmps143
          go_wp2_with (go_at_call 189; refine (both_as _ (128 - v) _ (by omega) (by omega) (by omega)).mono ?_; rintro e w' ⟨rfl, rfl⟩)
          go_ret
          exact ⟨ret_int (by rw [HC.out, HQ.out]), rfl⟩
        · have hq := show quS (128 - v) = near (fsS (32 - (128 - v))) by unfold quS; rw [if_neg h3]
          rw [hq] at g1 g2
          have HQ := Lib.hid hq
          clear hq
          go_enter Tryz.func143, Tryz.ntmps143
          go_wp2_with (go_at_call 189; refine (both_as _ (32 - (128 - v)) _ (by omega) (by omega) (by omega)).mono ?_; rintro e w' ⟨rfl, rfl⟩)
          go_ret
          exact ⟨ret_int (by rw [HC.out, HQ.out]), rfl⟩
    · by_cases h2 : 32 < v
      · have HC := Lib.hid (show c0 v = -quS (64 - v) by unfold c0; rw [if_neg h1, if_pos h2])
        obtain ⟨g1, g2⟩ := g (64 - v) (by omega) (by omega)
        clear g
        by_cases h3 : 64 - v ≤ 16
        · have hq := show quS (64 - v) = near (fcS (64 - v)) by unfold quS; rw [if_pos h3]
          rw [hq] at g1 g2
          have HQ := Lib.hid hq
          clear hq
          go_enter Tryz.func143, Tryz.ntmps143
          go_wp2_with (go_at_call 189; refine (both_as _ (64 - v) _ (by omega) (by omega) (by omega)).mono ?_; rintro e w' ⟨rfl, rfl⟩)
          go_ret
          exact ⟨ret_int (by rw [HC.out, HQ.out]), rfl⟩
        · have hq := show quS (64 - v) = near (fsS (32 - (64 - v))) by unfold quS; rw [if_neg h3]
          rw [hq] at g1 g2
          have HQ := Lib.hid hq
          clear hq
          go_enter Tryz.func143, Tryz.ntmps143
          go_wp2_with (go_at_call 189; refine (both_as _ (32 - (64 - v)) _ (by omega) (by omega) (by omega)).mono ?_; rintro e w' ⟨rfl, rfl⟩)
          go_ret
          exact ⟨ret_int (by rw [HC.out, HQ.out]), rfl⟩
      · have HC := Lib.hid (show c0 v = quS v by unfold c0; rw [if_neg h1, if_neg h2])
        obtain ⟨g1, g2⟩ := g (v) (by omega) (by omega)
        clear g
        by_cases h3 : v ≤ 16
        · have hq := show quS (v) = near (fcS (v)) by unfold quS; rw [if_pos h3]
          rw [hq] at g1 g2
          have HQ := Lib.hid hq
          clear hq
          go_enter Tryz.func143, Tryz.ntmps143
          go_wp2_with (go_at_call 189; refine (both_as _ (v) _ (by omega) (by omega) (by omega)).mono ?_; rintro e w' ⟨rfl, rfl⟩)
          go_ret
          exact ⟨ret_int (by rw [HC.out, HQ.out]), rfl⟩
        · have hq := show quS (v) = near (fsS (32 - (v))) by unfold quS; rw [if_neg h3]
          rw [hq] at g1 g2
          have HQ := Lib.hid hq
          clear hq
          go_enter Tryz.func143, Tryz.ntmps143
          go_wp2_with (go_at_call 189; refine (both_as _ (32 - (v)) _ (by omega) (by omega) (by omega)).mono ?_; rintro e w' ⟨rfl, rfl⟩)
          go_ret
          exact ⟨ret_int (by rw [HC.out, HQ.out]), rfl⟩

theorem refSin_any (u : Int) (w : World) :
    Calls Tryz.prog 95 #[.int .i64 u] w fun e w' => e = .returned (.int .i64 (sinS u)) ∧ w = w' := by
  obtain ⟨b1, b2⟩ := tmod_bd u 128 (by omega)
  have HS := Lib.hid (show cosS (u.tmod 128 - 32) = sinS u from cosS_eq (tmod128 u))
  go_enter Tryz.func95, Tryz.ntmps95
  go_wp2_with (go_at_call 143; refine (refCos_any _ _).mono ?_; rintro e w' ⟨rfl, rfl⟩)
  go_ret
  exact ⟨ret_int HS.out, rfl⟩

theorem refCos_as (u c : Int) (w : World) (h : cosS u = c) :
    Calls Tryz.prog 143 #[.int .i64 u] w fun e w' => e = .returned (.int .i64 c) ∧ w = w' := by
  subst h; exact refCos_any u w

theorem refSin_as (u c : Int) (w : World) (h : sinS u = c) :
    Calls Tryz.prog 95 #[.int .i64 u] w fun e w' => e = .returned (.int .i64 c) ∧ w = w' := by
  subst h; exact refSin_any u w
end Go.Proofs.YtfohinlldchdpaaGreatDoor.Ang
end
