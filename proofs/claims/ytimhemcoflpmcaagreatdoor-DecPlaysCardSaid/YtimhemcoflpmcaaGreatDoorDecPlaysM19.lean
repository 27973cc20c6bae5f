/- Texts of the walk, one behind the other. -/
import Derived.Test.YtimhemcoflpmcaaGreatDoorDecPlaysM17
import Derived.Test.YtimhemcoflpmcaaGreatDoorDecPlaysM18
import Derived.Test.YtimhemcoflpmcaaGreatDoorDecPlaysM7

section
/- The document's Vector (layer 13). -/
set_option maxRecDepth 100000
set_option linter.unusedVariables false
namespace Go.Proofs.YtimhemcoflpmcaaGreatDoor.De
open Go.RowKit Go.Proofs.YtimhemcoflpmcaaGreatDoor.Row Go.Proofs.YtimhemcoflpmcaaGreatDoor.Ve

theorem refCount_at (n k : Int) (n' k' c : Nat) (W : World) (h1 : (n' : Int) = n) (h2 : (k' : Int) = k) (hn : n' ≤ 8) (hk : k' ≤ 8) (hc : V n' k' = c) :
    Calls Tryz.prog 33 #[.int .i64 n, .int .i64 k] W fun e w' => e = .returned (.int .i64 c) ∧ Below W.heap.size W w' := by
  subst h1 h2 hc; exact refCount_as n' k' W hn hk

/-- A vector handed back in a slice. -/
def RetVw (w : World) (N K I : Nat) (e : Ending) (w' : World) : Prop := ∃ a c f, e = .returned (.slice a N c) ∧ sm f N = K ∧ num f N K = I ∧ Sl .i64 w' a N c f ∧ Below w.heap.size w w'
def VwS (w : World) (a : Option Addr) (n c : Nat) (f : Nat → Int) (w' : World) : Prop := OwnS w' w.heap.size a n c f ∧ Below w.heap.size w w'
theorem VwS.next {w w1 w2 : World} {a : Option Addr} {n c : Nat} {f : Nat → Int} (h : VwS w a n c f w1) (hb : Below w1.heap.size w1 w2) : VwS w a n c f w2 := ⟨h.1.below hb, below_trans h.2 hb h.2.size⟩
theorem OwnS.ext {w : World} {B n c : Nat} {a : Option Addr} {f g : Nat → Int} (h : OwnS w B a n c f) (e : ∀ i, i < n → f i = g i) : OwnS w B a n c g := by
  rcases h with h | ⟨b, h1, h2⟩
  · exact .inl h
  · exact .inr ⟨b, h1, h2.ext e⟩
theorem new_int (w : World) (x z : Int) (h : z = x) : (w.alloc (.cells #[.int .i64 x] 3)).cell? ⟨w.heap.size, 0, none⟩ = some (.int .i64 z) := by
  rw [h]; exact (At.new w #[.int .i64 x] 3).cell 0

set_option maxHeartbeats 4000000 in
theorem refVector_as (N K I : Nat) (w : World) (hN : N ≤ 8) (hK : K ≤ 8) (h : I < V N K) :
    Calls Tryz.prog 32 #[.int .i64 N, .int .i64 K, .int .i64 I] w fun e w' => RetVw w N K I e w' := by
  have hI := V_le hN hK
  have hI2 : I ≤ 6975757441 := by omega
  have HP0 := Lib.hid (VcP.start h)
  have HV0 := Lib.hid (show VwS w none 0 0 (fun _ => 0) w from ⟨OwnS.nil _ _ _, Below.refl _ _⟩)
  clear h hI
  go_enter Tryz.func32, Tryz.ntmps32
  go_wp2_with fail
  go_loopw [1, 2, 7, 8] (fun q s o i w' => ∃ (i' k' s' c' : Nat) (a : Option Addr) (f : Nat → Int), i' ≤ N ∧ i = .int .i64 i' ∧ q = .int .i64 k' ∧ s = .int .i64 s' ∧ o = .slice a i' c' ∧ s' ≤ 6975757441 ∧ Hid (VcP N K I f i' k' s') ∧ Hid (VwS w a i' c' f w')) (fun _ _ _ i _ => N - (intOf i).toNat)
  case atStart => exact ⟨0, K, I, 0, none, _, Nat.zero_le _, rfl, rfl, rfl, rfl, hI2, HP0, HV0⟩
  case round =>
    obtain ⟨i, k, s0, c, a, f, hi, rfl, rfl, rfl, rfl, hs0, HP, HV⟩ := hrel
    clear HP0 HV0 hI2
    by_cases hlt : i < N
    · have hk8 : k ≤ 8 := by have := HP.out.left; unfold kA at this; omega
      obtain ⟨m, hm⟩ : ∃ m, N - 1 - i = m := ⟨_, rfl⟩
      have hm7 : m ≤ 7 := by omega
      have HM := Lib.hid hm
      have HMI := Lib.hid (show (m : Int) = (N : Int) - i - 1 by omega)
      have HLT := Lib.hid (show s0 < V (m + 1) k by rw [show m + 1 = N - i by omega]; exact HP.out.lt)
      have hki : -(k : Int) = -(k : Int) := rfl
      clear hm hki
      go_wp2_with fail
      go_loopw [2, 9] (fun s x w' => ∃ j s' : Nat, j ≤ 2 * k ∧ x = .int .i64 ((j : Int) - k) ∧ s = .int .i64 s' ∧ s' ≤ 6975757441 ∧ Hid (S (gV m k) j + s' = s0) ∧ Hid (VwS w a i c f w')) (fun _ x _ => ((k : Int) + 1 - intOf x).toNat)
      case atStart => exact ⟨0, s0, by omega, congrArg (Value.int .i64) (by omega), rfl, hs0, Lib.hid (Nat.zero_add s0), HV⟩
      case round =>
        obtain ⟨j, s, hj, rfl, rfl, hs, HS, HW⟩ := hrel
        clear HV
        obtain ⟨b, hb⟩ : ∃ b, ((j : Int) - k).natAbs = b := ⟨_, rfl⟩
        have hbk : b ≤ k := by omega
        have HB := Lib.hid hb
        have HE := Lib.hid (show S (gV m k) (j + 1) = S (gV m k) j + gV m k j from rfl)
        have HGJ := Lib.hid (show gV m k j = V m (k - b) by rw [← hb]; rfl)
        obtain ⟨y, hy⟩ : ∃ y, gV m k j = y := ⟨_, rfl⟩
        rw [hy] at HE HGJ
        have HY := Lib.hid hy
        have hy2 : y ≤ 6975757441 := by rw [HGJ.out]; exact V_le (by omega) (by omega)
        have HSZ := Lib.hid (fun w => refSize_as ((j : Int) - k) (b : Int) w (by rw [sz_small (by omega) (by omega), hb]))
        have HCT := Lib.hid (fun W => refCount_at ((N : Int) - i - 1) ((k : Int) - b) m (k - b) y W HMI.out (by omega) (by omega) (by omega) HGJ.out.symm)
        clear hy hb
        go_wp2_with fail
        refine (HSZ.out _).mono ?_
        rintro e w1 ⟨rfl, rfl⟩
        go_wp2_with fail
        refine (HCT.out _).mono ?_
        rintro e w2 ⟨rfl, hb2⟩
        have HW2 := Lib.hid (HW.out.next hb2)
        clear hb2 HW
        by_cases cc : y ≤ s
        · have hj2 : j + 1 ≤ 2 * k := S_lt (n := m) (by rw [HE.out]; have := HS.out; have := HLT.out; omega)
          have cy : (y : Int) ≤ s := by omega
          go_wp2_with fail
          refine (HSZ.out _).mono ?_
          rintro e w3 ⟨rfl, rfl⟩
          go_wp2_with fail
          refine (HCT.out _).mono ?_
          rintro e w4 ⟨rfl, hb4⟩
          have HW4 := Lib.hid (HW2.out.next hb4)
          clear hb4 HW2
          go_wp2_with fail
          go_roundw
          case rel => exact ⟨j + 1, s - y, hj2, congrArg (Value.int .i64) (by omega), congrArg (Value.int .i64) (by omega), by omega, Lib.hid (by rw [HE.out]; have := HS.out; omega), HW4⟩
          case measure => simp [intOf]; omega
        · have cy : ¬ (y : Int) ≤ s := by omega
          have HP2 := Lib.hid (HP.out.next hlt hj (by rw [HM.out]; exact HS.out) (by rw [HM.out, HY.out]; omega))
          rw [HB.out] at HP2
          obtain ⟨f', hf'⟩ : ∃ f' : Nat → Int, (fun x => if x = i then (j : Int) - k else f x) = f' := ⟨_, rfl⟩
          rw [hf'] at HP2
          have HF1 := Lib.hid (fun x (hx : x < i) => show f x = f' x by rw [← hf']; dsimp only; rw [if_neg (by omega)])
          have HF2 := Lib.hid (show f' i = (j : Int) - k by rw [← hf']; dsimp only; rw [if_pos rfl])
          clear hf' cc HP
          go_wp2_with (at_builtin; refine wpList_append_one rfl _ _ rfl w.heap.size f' a i c rfl (OwnS.ext (HW2.out.1.below ((Below.refl _ _).alloc (Nat.le_refl _) _)) HF1.out) w2.heap.size rfl (new_int w2 _ _ HF2.out) (by omega) (by have := HW2.out.2.size; simp; omega) ?_)
          intro g4 c4 w4 hO hB4 _ _
          have HV4 := Lib.hid (show VwS w (some ⟨g4, 0, none⟩) (i + 1) c4 f' w4 from ⟨.inr ⟨g4, rfl, hO⟩, (HW2.out.2.alloc HW2.out.2.size _).trans hB4⟩)
          clear hO hB4 HW2
          go_wp2_with fail
          refine (HSZ.out _).mono ?_
          rintro e w5 ⟨rfl, rfl⟩
          go_wp2_with fail
          go_roundw
          case rel => exact ⟨i + 1, k - b, s, c4, some ⟨g4, 0, none⟩, f', by omega, by go_num, congrArg (Value.int .i64) (by omega), rfl, by go_num, by omega, HP2, HV4⟩
          case measure => simp [intOf]; omega
    · obtain rfl : i = N := by omega
      go_wp2_with fail
      go_ret
      obtain ⟨d1, d2⟩ := HP.out.done
      exact ⟨a, c, f, rfl, d1, d2, HV.out.1.sl, HV.out.2⟩
end Go.Proofs.YtimhemcoflpmcaaGreatDoor.De
end
