/- The statements' own functions: the example, right levels; what a row's numbers are. -/
import Derived.Test.YtfcaigggacgfkaaDoorSpF
set_option maxRecDepth 100000
set_option linter.unusedVariables false
namespace Go.Proofs.YtfcaigggacgfkaaDoor.Sp
open Go.RowKit Go.Proofs.YtfcaigggacgfkaaDoor.Row

theorem u8_bd {l : Int} (h : (Lit.int .u8 l).wf = true) : ∃ n : Nat, l = n ∧ n ≤ 255 := by
  have : 0 ≤ l ∧ l ≤ 255 := by simpa [Lit.wf, IntKind.min, IntKind.max, IntKind.bits, IntKind.signed] using h
  exact ⟨l.toNat, by omega, by omega⟩
theorem u16_bd {l : Int} (h : (Lit.int .u16 l).wf = true) : ∃ n : Nat, l = n ∧ n ≤ 65535 := by
  have : 0 ≤ l ∧ l ≤ 65535 := by simpa [Lit.wf, IntKind.min, IntKind.max, IntKind.bits, IntKind.signed] using h
  exact ⟨l.toNat, by omega, by omega⟩
theorem i64_bd {l : Int} (h : (Lit.int .i64 l).wf = true) : -9223372036854775808 ≤ l ∧ l ≤ 9223372036854775807 := by
  simpa [Lit.wf, IntKind.min, IntKind.max, IntKind.bits, IntKind.signed] using h

theorem no_guard : Tryd.prog.eqGuardType Tryd.prog.depth 22 = false := by kernel_rfl

/-- A row whose first number is a, the others 0. -/
def one (a : Int) (i : Nat) : Int := if i = 0 then a else 0
theorem built_9 : ∃ T, IsRow 4 (one 9) T ∧ ∀ a : Act, Tryd.prog.built 22 ((#[(0, .const (.int .i64 9))] : Array (Nat × Operand)).map fun (i, x) => (i, a.eval x)).toList = some T := by
  refine ⟨#[.int .i64 9, .int .i64 0, .int .i64 0, .int .i64 0], ⟨rfl, by kernel_rfl, fun k hk => ?_⟩, fun a => by kernel_rfl⟩
  match k, hk with
  | 0, _ | 1, _ | 2, _ | 3, _ => rfl
  | n + 4, h => omega
theorem built_1 : ∃ T, IsRow 4 (one 1) T ∧ ∀ a : Act, Tryd.prog.built 22 ((#[(0, .const (.int .i64 1))] : Array (Nat × Operand)).map fun (i, x) => (i, a.eval x)).toList = some T := by
  refine ⟨#[.int .i64 1, .int .i64 0, .int .i64 0, .int .i64 0], ⟨rfl, by kernel_rfl, fun k hk => ?_⟩, fun a => by kernel_rfl⟩
  match k, hk with
  | 0, _ | 1, _ | 2, _ | 3, _ => rfl
  | n + 4, h => omega

theorem P01 : P 0 1 = 2 := by decide +kernel
theorem P02 : P 0 2 = 3 := by decide +kernel
theorem ex_given : ∀ i, i < 4 → (given (one 9) 2 i : Int) = one 1 i := by
  obtain ⟨left, f⟩ := given_fin (one 9) (show (0 : Int) ≤ 2 by omega)
  obtain ⟨h1, h2, h3, h4⟩ := alone (b := 0) f (by omega) (by decide) (fun i _ hn => by unfold one; rw [if_neg hn])
  obtain ⟨r, hr⟩ : ∃ r, given (one 9) 2 0 = r := ⟨_, rfl⟩
  rw [hr] at h2 h3 h4
  have r1 : r = 1 := by
    have a1 := P01
    have a2 := P02
    by_cases c : 2 ≤ r
    · have := P_up (b := 0) (by omega) c h2
      omega
    · by_cases c0 : r = 0
      · have := h4 1 (by omega) (by omega)
        omega
      · omega
  intro i hi
  by_cases c : i = 0
  · rw [c, hr, r1]; rfl
  · rw [h1 i hi c]; unfold one; rw [if_neg c]; rfl

theorem ex_ok : okL (one 9) := fun i _ => by unfold one; split <;> decide

theorem awake_yes (w : World) (hT : Lv.Tab w) :
    Calls Tryd.prog 8 #[] w fun e w' => e = .returned (.bool true) ∧ Below w.heap.size w w' := by
  obtain ⟨A, hA, bA⟩ := built_9
  obtain ⟨B, hB, bB⟩ := built_1
  have BA := Lib.hid bA
  have BB := Lib.hid bB
  have HB := Lib.hid hB
  have HP := Lib.hid (pulses_yes A (one 9) 2 w hA ex_ok (by omega) (by omega) hT)
  have e0 := no_guard
  clear hA bA hB bB hT
  go_enter Tryd.func8, Tryd.ntmps8
  go_wp2_with (refine wpList_build_wanted (by rfl) 22 #[(0, .const (.int .i64 9))] rfl A (BA.out _) ?_)
  refine HP.out.mono ?_
  rintro e w1 ⟨⟨R, rfl, hR⟩, h1⟩
  have H1 := Lib.hid h1
  have e1 := rows_eq hR HB.out ex_given Tryd.underlying22
  clear hR h1
  go_wp2_with (refine wpList_build_wanted (by rfl) 22 #[(0, .const (.int .i64 1))] rfl B (BB.out _) ?_)
  go_ret
  exact ⟨rfl, H1.out⟩

theorem and31 (n : Int) : bits .and .i64 n 31 = n % 32 := by
  have e : ((BitVec.ofInt 64 n) &&& (BitVec.ofInt 64 31)).toNat = (n % 32).toNat := by
    rw [BitVec.toNat_and, BitVec.toNat_ofInt, BitVec.toNat_ofInt]
    have h2 : ((31 : Int) % ((2 ^ 64 : Nat) : Int)).toNat = 2 ^ 5 - 1 := by decide +kernel
    rw [h2, Nat.and_two_pow_sub_one_eq_mod]
    have h3 : ((2 ^ 64 : Nat) : Int) = 18446744073709551616 := by decide +kernel
    rw [h3]
    omega
  show IntKind.i64.wrap ((((BitVec.ofInt 64 n) &&& (BitVec.ofInt 64 31)).toNat : Nat) : Int) = _
  rw [e, IntKind.wrap_i64]
  omega

/-- A right level. -/
def hl (x : Int) : Int := x % 32 % 21
theorem hl_bd (x : Int) : 0 ≤ hl x ∧ hl x ≤ 20 := by unfold hl; omega
/-- While levels are made right: the first k. -/
def hs (f : Nat → Int) (k i : Nat) : Int := if i < k then hl (f i) else f i
theorem hs_at (f : Nat → Int) (k : Nat) : hs f k k = f k := by unfold hs; rw [if_neg (by omega)]
theorem hs_next (f : Nat → Int) (k i : Nat) : (if i = k then hl (f k) else hs f k i) = hs f (k + 1) i := by
  unfold hs
  by_cases c : i = k
  · subst c; rw [if_pos rfl, if_pos (by omega)]
  · rw [if_neg c]
    by_cases c2 : i < k
    · rw [if_pos c2, if_pos (by omega)]
    · rw [if_neg c2, if_neg (by omega)]
theorem hl_ok (f : Nat → Int) : okL (fun i => hl (f i)) := fun i _ => hl_bd (f i)

/-- What stands while levels are made right. -/
def HdS (w w' : World) (T Z : Array Value) : Prop := At w' w.heap.size T 22 ∧ At w' (w.heap.size + 1) Z 22 ∧ Below w.heap.size w w'
theorem HdS.start (w : World) (T Z : Array Value) : HdS w ((w.alloc (.cells T 22)).alloc (.cells Z 22)) T Z := by
  refine ⟨(At.new w T _).alloc _, ?_, ((Below.refl _ _).alloc (Nat.le_refl _) _).alloc (by simp) _⟩
  have := At.new (w.alloc (.cells T 22)) Z 22
  simpa using this
theorem HdS.set {w w1 : World} {T Z : Array Value} (h : HdS w w1 T Z) (i : Nat) (v : Value) : HdS w (w1.setCell ⟨w.heap.size, i, none⟩ v) (T.setIfInBounds i v) Z :=
  ⟨h.1.setCell, h.2.1.setCell_other (by dsimp only; omega), h.2.2.setCell (by dsimp only; omega) _⟩

theorem held_as (T : Array Value) (f : Nat → Int) (w : World) (hT : IsRow 4 f T) :
    Calls Tryd.prog 9 #[.agg T] w (RetR 4 w fun i => hl (f i)) := by
  obtain ⟨Z, hZ, hZ0, hz, hi⟩ := zero4
  have HI := Lib.hid hi
  have HZS := Lib.hid hZ.1
  have HS := Lib.hid (HdS.start w T Z)
  have HT := Lib.hid (hT.ext (g := hs f 0) fun i _ => by unfold hs; rw [if_neg (by omega)])
  clear hZ hZ0 hi hT
  go_enter Tryd.func9, Tryd.ntmps9
  go_wp2_with fail
  go_loopw [3] (fun i w' => ∃ (k : Nat) (T1 : Array Value), k ≤ 4 ∧ i = .int .i64 k ∧ Hid (HdS w w' T1 Z) ∧ Hid (IsRow 4 (hs f k) T1)) (fun i _ => 4 - (intOf i).toNat)
  case atStart => exact ⟨0, T, by omega, rfl, HS, HT⟩
  case round =>
    obtain ⟨k, T1, hk, rfl, HS1, HT1⟩ := hrel
    clear HS HT
    by_cases hlt : k < 4
    · have c0 := HT1.out.cell HS1.out.1 k hlt
      have f0 := HS1.out.1.frozen k
      rw [hs_at] at c0
      have HN := Lib.hid (hs_next f k)
      obtain ⟨x, hx⟩ : ∃ x, f k = x := ⟨_, rfl⟩
      rw [hx] at c0 HN
      have HX := Lib.hid (show x % 32 % 21 = hl x from rfl)
      have ha := and31 x
      have k0 : (0 : Int) ≤ (k : Int) := by omega
      have k1 : (k : Int) < 4 := by omega
      clear hx
      go_wp2_with fail
      go_roundw
      case rel => exact ⟨k + 1, _, by omega, by go_num, Lib.hid (HS1.out.set _ _), Lib.hid ((HT1.out.set (k := k) (hl x) hlt).ext fun i _ => HN.out i)⟩
      case measure => simp [intOf]; omega
    · obtain rfl : k = 4 := by omega
      have HR := Lib.hid (HT1.out.ext (g := fun i => hl (f i)) fun i hi => by unfold hs; rw [if_pos hi])
      go_wp2_with (first
        | refine wpList_load_row rfl 22 _ rfl w.heap.size rfl _ _ (0, 0) _ HS1.out.1 Tryd.underlying22 rfl (HI.out _ HR.out.1) ?_
        | refine wpList_store_row rfl 22 _ _ rfl (w.heap.size + 1) T1 rfl rfl _ _ HS1.out.2.1 (HI.out _ HR.out.1) (by rw [HZS.out, HR.out.1]) HR.out.2.1 ?_)
      exact bodyPost_ret (v := .agg T1) (results_cell_row rfl _ _ (w.heap.size + 1) 22 T1 (0, 0) _ rfl HS1.out.2.1.setRow Tryd.underlying22 rfl (HI.out _ HR.out.1)) rfl ⟨⟨T1, rfl, HR.out⟩, below_setRow' HS1.out.2.2 (by omega) _⟩
end Go.Proofs.YtfcaigggacgfkaaDoor.Sp
