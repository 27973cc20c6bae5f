/- Contracts of the statements' awake and Waves. -/
import Derived.Test.YtncieojippiokaaShC
import Derived.Test.YtncieojippiokaaOwn
set_option maxRecDepth 100000
set_option linter.unusedVariables false
namespace Go.Proofs.Ytncieojippiokaa.Sh
open Go.RowKit Go.Proofs.Ytncieojippiokaa.Row

def exF (i : Nat) : Int := if i = 0 then 3 else if i = 1 then -4 else 0

theorem sl_of_ex {w : World} {g : Nat} {t : TypeId} (h : At w g #[.int .i64 3, .int .i64 (-4)] t) : Sl .i64 w (some ⟨g, 0, none⟩) 2 2 exF :=
  ⟨Nat.le_refl _, by unfold maxLen; omega, fun _ => ⟨g, 0, rfl, fun i hi => by
    rw [Nat.zero_add, h.cell]
    match i, hi with
    | 0, _ => rfl
    | 1, _ => rfl⟩⟩

set_option maxHeartbeats 400000 in
theorem awake_yes (w : World) : Calls Try.prog 10 #[] w fun e w' => e = .returned (.bool true) ∧ Below w.heap.size w w' := by
  have A0 := At.new w #[.int .i64 3, .int .i64 (-4)] 3
  have HB := Lib.hid ((Below.refl w.heap.size w).alloc (Nat.le_refl _) (.cells #[.int .i64 3, .int .i64 (-4)] 3))
  have HN := Lib.hid (find_yes (some ⟨w.heap.size, 0, none⟩) 2 2 2 exF _ (sl_of_ex A0) (by decide) (by omega))
  have e0 : fS exF 2 2 0 = 1 := by decide
  have e1 : fS exF 2 2 1 = -1 := by decide
  have HE := Lib.hid (And.intro e0 e1)
  clear A0 e0 e1
  go_enter Try.func10, Try.ntmps10
  go_wp2_with fail
  refine HN.out.mono ?_
  rintro e w1 ⟨g, U, rfl, hg, hU, hA, h1⟩
  have HB1 := Lib.hid (below_trans HB.out h1 HB.out.size)
  have c0 := hU.cell hA 0 (by omega)
  have c1 := hU.cell hA 1 (by omega)
  rw [HE.out.1] at c0
  rw [HE.out.2] at c1
  clear h1 HN HB hg hU hA
  go_wp2_with fail
  go_ret
  exact ⟨rfl, HB1.out⟩

/-- The statements' waves. -/
def wv (f : Nat → Int) (i : Nat) : Int := (f i).tmod 524288
theorem tmod_bd (x : Int) : -524288 < x.tmod 524288 ∧ x.tmod 524288 < 524288 := by
  have h1 := Int.tmod_lt_of_pos x (show (0 : Int) < 524288 by omega)
  have h2 := Int.tmod_lt_of_pos (-x) (show (0 : Int) < 524288 by omega)
  rw [Int.neg_tmod] at h2
  omega
theorem wv_bd (f : Nat → Int) (i : Nat) : -524288 < wv f i ∧ wv f i < 524288 := tmod_bd _
theorem wv_ok (f : Nat → Int) {m : Nat} (h0 : 0 < m) (h8 : m ≤ 8) : okC (wv f) m = true := (okC_iff _ _).2 ⟨h0, h8, fun i _ => by have := wv_bd f i; omega⟩

theorem waves_as (a : Option Addr) (n c : Nat) (f : Nat → Int) (W : World) (hS : Sl .i64 W a n c f) (hf : ∀ i, i < n → -9223372036854775808 ≤ f i ∧ f i ≤ 9223372036854775807) :
    Calls Try.prog 8 #[.slice a n c] W fun e w' => ∃ a' c', e = .returned (.slice a' (min n 8) c') ∧ OwnS w' W.heap.size a' (min n 8) c' (wv f) ∧ Below W.heap.size W w' := by
  have HS := Lib.hid hS
  have HF := Lib.hid hf
  have hn : n ≤ 9223372036854775807 := by have := hS.1; have := hS.2.1; unfold maxLen at this; omega
  clear hS hf
  go_enter Try.func8, Try.ntmps8
  go_wp2_with fail
  go_loopw [3, 4] (fun z i w' => ∃ (j : Nat) (a' : Option Addr) (c' : Nat), j ≤ n ∧ j ≤ 8 ∧ i = .int .i64 j ∧ z = .slice a' j c' ∧ Below W.heap.size W w' ∧ OwnS w' W.heap.size a' j c' (wv f)) (fun _ i _ => n - (intOf i).toNat)
  case atStart => exact ⟨0, none, 0, Nat.zero_le _, Nat.zero_le _, rfl, rfl, Below.refl _ _, OwnS.nil _ _ _⟩
  case round =>
    obtain ⟨j, a', c', hj, hj8, rfl, rfl, hb, ho⟩ := hrel
    have HB := Lib.hid hb
    have HO := Lib.hid ho
    clear hb ho
    by_cases hlt : j < n
    · by_cases hlt8 : j < 8
      · obtain ⟨b, o, rfl, hc⟩ := HS.out.2.2 (by omega)
        have c0 := (Below.cell HB.out (block_lt_of_cell (hc j hlt))).trans (hc j hlt)
        clear hc
        obtain ⟨x1, x2⟩ := HF.out j hlt
        have HN := Lib.hid (show wv f j = (f j).tmod 524288 from rfl)
        obtain ⟨x, hx⟩ : ∃ x, f j = x := ⟨_, rfl⟩
        rw [hx] at c0 x1 x2 HN
        have hr := tmod_bd x
        obtain ⟨r, hre⟩ : ∃ r, x.tmod 524288 = r := ⟨_, rfl⟩
        have ha : Below wr.heap.size wr (wr.alloc (.cells #[.int .i64 r] 3)) := (Below.refl _ _).alloc (Nat.le_refl _) _
        have HO1 := Lib.hid (HO.out.below ha)
        have HN1 := Lib.hid (show (wr.alloc (.cells #[.int .i64 r] 3)).cell? ⟨wr.heap.size, 0, none⟩ = some (.int .i64 (wv f j)) by rw [HN.out, hre]; exact cell_of_row _ _ 0 _ _ _ (At.new wr #[.int .i64 r] 3))
        have HB2 := Lib.hid (HB.out.alloc HB.out.size (.cells #[.int .i64 r] 3))
        have HZ1 := Lib.hid HB2.out.size
        have HK1 := Lib.hid (show j + 1 ≤ 1000000000 by omega)
        rw [hre] at hr
        clear ha hx HN
        go_wp2_with (at_builtin; refine wpList_append_one rfl (.tmp 15) (.tmp 21) rfl W.heap.size (wv f) a' j c' rfl HO1.out wr.heap.size rfl HN1.out HK1.out HZ1.out ?_; intro g c2 w2 hg hb2 hgr hat)
        have HB3 := Lib.hid (HB2.out.trans hb2)
        have HG := Lib.hid hg
        clear hg hb2 hgr hat
        go_roundw
        case rel => exact ⟨j + 1, some ⟨g, 0, none⟩, c2, by omega, by omega, by go_num, rfl, HB3.out, .inr ⟨g, rfl, HG.out⟩⟩
        case measure => simp [intOf]; omega
      · obtain rfl : j = 8 := by omega
        have e : min n 8 = 8 := by omega
        go_wp2_with fail
        go_ret
        exact ⟨a', c', by rw [e]; rfl, by rw [e]; exact HO.out, HB.out⟩
    · obtain rfl : j = n := by omega
      have e : min j 8 = j := by omega
      go_wp2_with fail
      go_ret
      exact ⟨a', c', by rw [e]; rfl, by rw [e]; exact HO.out, HB.out⟩
end Go.Proofs.Ytncieojippiokaa.Sh
