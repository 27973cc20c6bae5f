/- Texts of the walk, one behind the other. -/
import Derived.Test.YtfohinlldchdpaaGreatDoorWholeWayM21
import Derived.Test.YtfohinlldchdpaaGreatDoorWholeWayM1
import Derived.Test.YtfohinlldchdpaaGreatDoorWholeWayM3

section
/- Contracts of the counts' first and of vect's Vector. -/
set_option maxRecDepth 100000
set_option linter.unusedVariables false
namespace Go.Proofs.YtfohinlldchdpaaGreatDoor.Ve
open Go.RowKit Go.Proofs.YtfohinlldchdpaaGreatDoor.Row Go.Maps Go.WideMaps

theorem Ofs.next {w w1 w2 : World} {b : Nat} (h : Ofs w b w1) (h2 : Ofs w1 b w2) : Ofs w b w2 := ⟨h2.1, h.2.same h2.2⟩

theorem first_as (b m K I : Nat) (n : Int) (w : World) (hn : n - 1 = m) (hm : m ≤ 7) (hK : K ≤ 8) (hI : I < V (m + 1) K) (h : Cn w b) :
    Calls Tryz.prog 208 #[.map (some b), .int .i64 n, .int .i64 K, .int .i64 I] w fun e w' =>
      ∃ (j s : Nat), e = .returned (.tuple #[.int .i64 ((j : Int) - K), .int .i64 s]) ∧ j ≤ 2 * K ∧ S (gV m K) j + s = I ∧ s < gV m K j ∧ Ofs w b w' := by
  have HO := Lib.hid (show Ofs w b w from ⟨h, Fr.refl _ _⟩)
  have HI := Lib.hid hI
  have hI2 := V_le (n := m + 1) (k := K) (by omega) hK
  have hI3 : I ≤ 6975757441 := by omega
  clear h hI hI2
  go_enter Tryz.func208, Tryz.ntmps208
  go_wp2_with fail
  go_loopw [3, 10] (fun i v w' => ∃ j s : Nat, j ≤ 2 * K ∧ v = .int .i64 ((j : Int) - K) ∧ i = .int .i64 s ∧ Hid (S (gV m K) j + s = I) ∧ Ofs w b w') (fun _ v _ => ((K : Int) + 1 - intOf v).toNat)
  case atStart => exact ⟨0, I, by omega, congrArg (Value.int .i64) (by omega), rfl, Lib.hid (Nat.zero_add I), HO.out⟩
  case round =>
    obtain ⟨j, s, hj, rfl, rfl, HS, h⟩ := hrel
    have HW := Lib.hid h
    have hg := cI_g (m := m) (by omega) hK hj
    have hs3 : s ≤ 6975757441 := by have := HS.out; omega
    have HE := Lib.hid (show S (gV m K) (j + 1) = S (gV m K) j + gV m K j from rfl)
    obtain ⟨y, hy⟩ : ∃ y, gV m K j = y := ⟨_, rfl⟩
    rw [hy] at hg HE
    have HY := Lib.hid hy
    have HG := Lib.hid hg
    clear hy hg h
    go_wp2_with fail
    refine (unsigned_any _ _ (by omega) (by omega)).mono ?_
    rintro e w2 ⟨rfl, rfl⟩
    go_wp2_with fail
    refine (of_as _ _ _ _ _ HG.out HW.out.1).mono ?_
    rintro e w3 ⟨rfl, h3⟩
    have HW3 := Lib.hid (HW.out.next h3)
    clear h3 HW
    by_cases c : s < y
    · go_wp2_with fail
      go_ret2
      exact ⟨j, s, rfl, hj, HS.out, by rw [HY.out]; exact c, HW3.out⟩
    · have hj2 : j + 1 ≤ 2 * K := S_lt (n := m) (by rw [HE.out]; have := HS.out; have := HI.out; omega)
      go_wp2_with fail
      go_roundw
      case rel => exact ⟨j + 1, s - y, hj2, congrArg (Value.int .i64) (by omega), congrArg (Value.int .i64) (by omega), Lib.hid (by rw [HE.out]; have := HS.out; omega), HW3.out⟩
      case measure => simp [intOf]; omega

theorem vector_no (n k i : Int) (w : World) (h : i < 0 ∨ (cI n k : Int) ≤ i) :
    Calls Tryz.prog 185 #[.int .i64 n, .int .i64 k, .int .i64 i] w fun e w' => e = .returned (.tuple #[.slice none 0 0, .int .i64 1]) ∧ Below w.heap.size w w' := by
  have hmm := @run_makeMap Tryz.prog
  have HB := Lib.hid ((Below.refl w.heap.size w).alloc (Nat.le_refl _) (.map #[] 0))
  by_cases h0 : i < 0
  · go_enter Tryz.func185, Tryz.ntmps185
    go_wp2_with fail
    go_ret2
    exact ⟨rfl, HB.out⟩
  · have h1 : (cI n k : Int) ≤ i := by omega
    have h2 : 0 ≤ i := by omega
    obtain ⟨c, hc⟩ : ∃ c, cI n k = c := ⟨_, rfl⟩
    rw [hc] at h1
    have HC := Lib.hid hc
    clear hc h
    go_enter Tryz.func185, Tryz.ntmps185
    go_wp2_with fail
    refine (of_as _ _ _ _ _ HC.out (cn_made w)).mono ?_
    rintro e w1 ⟨rfl, hw1⟩
    go_wp2_with fail
    go_ret2
    exact ⟨rfl, ofs_made hw1⟩


/-- What stands while a vector is laid out: the map at b, the row at g. -/
def VcS (w : World) (b g : Nat) (R : Array Value) (w' : World) : Prop := Below w.heap.size w w' ∧ Cn w' b ∧ At w' g R 3 ∧ w.heap.size ≤ b ∧ w.heap.size ≤ g ∧ g ≠ b
theorem VcS.next {w w1 w2 : World} {b g : Nat} {R : Array Value} (h : VcS w b g R w1) (h2 : Ofs w1 b w2) : VcS w b g R w2 :=
  ⟨h.1.trans (h2.2.below h.1.size fun k e => by rw [e]; exact h.2.2.2.1), h2.1, h.2.2.1.fr h2.2 h.2.2.2.2.2, h.2.2.2⟩
theorem VcS.set {w w1 : World} {b g : Nat} {R : Array Value} (h : VcS w b g R w1) (i : Nat) (v : Value) : VcS w b g (R.setIfInBounds i v) (w1.setCell ⟨g, i, none⟩ v) := by
  obtain ⟨D, hD⟩ := h.2.1
  exact ⟨h.1.setCell h.2.2.2.2.1 _, ⟨D, hD.fr (Fr.setCell (T := Just g) (Fr.refl _ _) (p := ⟨g, i, none⟩) (.inl rfl) v) fun e => h.2.2.2.2.2 e.symm⟩, h.2.2.1.setCell, h.2.2.2⟩

/-- A new row, f's n numbers, is handed back, and all that stood stands. -/
def RetVec (w w' : World) (e : Ending) (n : Nat) (f : Nat → Int) : Prop := ∃ g U, e = .returned (.tuple #[.slice (some ⟨g, 0, none⟩) n n, .int .i64 0]) ∧ w.heap.size ≤ g ∧ IsRow n f U ∧ At w' g U 3 ∧ Below w.heap.size w w'

/-- How far a vector's numbers are known: the first i. -/
structure VcP (N K I : Nat) (f : Nat → Int) (i k s : Nat) : Prop where
  left : kA f K i = k
  sum : sm f i ≤ K
  got : Ve.pre f N K i + s = I
  lt : s < V (N - i) k
theorem VcP.start {N K I : Nat} (h : I < V N K) : VcP N K I (fun _ => 0) 0 K I := ⟨rfl, Nat.zero_le _, Nat.zero_add _, h⟩
theorem VcP.next {N K I i k s j s' : Nat} {f : Nat → Int} (h : VcP N K I f i k s) (hi : i < N) (hj : j ≤ 2 * k) (hs : S (gV (N - 1 - i) k) j + s' = s) (hl : s' < gV (N - 1 - i) k j) :
    VcP N K I (fun x => if x = i then (j : Int) - k else f x) (i + 1) (k - ((j : Int) - k).natAbs) s' := by
  obtain ⟨e1, e2, e3, e4⟩ := h
  have ef : ∀ x, x < i → (fun x => if x = i then (j : Int) - k else f x) x = f x := fun x hx => if_neg (by omega)
  have ei : (fun x => if x = i then (j : Int) - k else f x) i = (j : Int) - k := if_pos rfl
  generalize (fun x => if x = i then (j : Int) - k else f x) = h at *
  have es : sm h i = sm f i := sm_congr ef
  have ek : kA h K i = k := by unfold kA at *; rw [es]; exact e1
  have hab : ((j : Int) - k).natAbs ≤ k := by omega
  refine ⟨by rw [kA_next, ek, ei], ?_, ?_, ?_⟩
  · rw [sm_next, es, ei]; unfold kA at e1; omega
  · show pre h N K i + S (gV (N - 1 - i) (kA h K i)) (h i + kA h K i).toNat + s' = I
    rw [pre_congr ef, ek, ei, show ((j : Int) - k + k).toNat = j by omega]
    omega
  · unfold gV at hl
    rw [show N - (i + 1) = N - 1 - i by omega]
    exact hl
theorem VcP.done {N K I k s : Nat} {f : Nat → Int} (h : VcP N K I f N k s) : sm f N = K ∧ num f N K = I := by
  obtain ⟨e1, e2, e3, e4⟩ := h
  rw [Nat.sub_self] at e4
  have ek := V_end (k := k) (by omega)
  subst ek
  rw [V_one] at e4
  unfold kA at e1
  unfold num
  omega

set_option maxHeartbeats 400000 in
theorem vector_yes (N K I : Nat) (w : World) (hN : N ≤ 8) (hK : K ≤ 8) (h : I < V N K) :
    Calls Tryz.prog 185 #[.int .i64 N, .int .i64 K, .int .i64 I] w fun e w' => ∃ f, sm f N = K ∧ num f N K = I ∧ RetVec w w' e N f := by
  have hmm := @run_makeMap Tryz.prog
  have HC := Lib.hid (cI_nat hN hK)
  have hI := V_le hN hK
  have HP0 := Lib.hid (VcP.start h)
  obtain ⟨c, hc⟩ : ∃ c, V N K = c := ⟨_, rfl⟩
  rw [hc] at HC h hI
  clear hc
  go_enter Tryz.func185, Tryz.ntmps185
  go_wp2_with fail
  refine (of_as _ _ _ _ _ HC.out (cn_made w)).mono ?_
  rintro e w1 ⟨rfl, hw1⟩
  have HB1 := Lib.hid (ofs_made hw1)
  have HC1 := Lib.hid hw1.1
  have hz1 : w.heap.size < w1.heap.size := by have := hw1.2.size; simp at this; omega
  have i0 : 0 ≤ (I : Int) := by omega
  clear hw1 hI HC
  go_wp2_with (at_make; refine wpList_make_rowL (fun _ => 0) rfl _ _ rfl N _ _ rfl rfl (by omega) ?_)
  clear h i0
  obtain ⟨g, hg⟩ : ∃ g, w1.heap.size = g := ⟨_, rfl⟩
  have HV := Lib.hid (show VcS w w.heap.size g (rowL N (fun _ => 0) 0) (w1.alloc (.cells (rowL N (fun _ => 0) 0) 3)) from
    ⟨HB1.out.alloc HB1.out.size _, HC1.out.below ((Below.refl _ _).alloc (Nat.le_refl _) _), hg ▸ At.new _ _ _, Nat.le_refl _, by omega, by omega⟩)
  rw [hg]
  rw [hg] at hz1
  clear HB1 HC1 hg
  go_loopw [1, 2, 26] (fun q s i w' => ∃ (i' k' s' : Nat) (f : Nat → Int) (R : Array Value), i' ≤ N ∧ i = .int .i64 i' ∧ q = .int .i64 k' ∧ s = .int .i64 s' ∧ Hid (VcP N K I f i' k' s') ∧ Hid (IsRow N f R) ∧ VcS w w.heap.size g R w') (fun _ _ i _ => N - (intOf i).toNat)
  case atStart => exact ⟨0, K, I, _, _, Nat.zero_le _, rfl, rfl, rfl, HP0, Lib.hid (rowL_is _ _), HV.out⟩
  case round =>
    obtain ⟨i, k, s, f, R, hi, rfl, rfl, rfl, HP, HR, h⟩ := hrel
    have HW := Lib.hid h
    clear h
    by_cases hlt : i < N
    · have hk8 : k ≤ 8 := by have := HP.out.left; unfold kA at this; omega
      obtain ⟨m, hm⟩ : ∃ m, N - 1 - i = m := ⟨_, rfl⟩
      have HF := Lib.hid (first_as w.heap.size m k s ((N : Int) - i) wr (by omega) (by omega) hk8 (by rw [show m + 1 = N - i by omega]; exact HP.out.lt) HW.out.2.1)
      have HM := Lib.hid hm
      clear hm
      go_wp2_with fail
      refine HF.out.mono ?_
      rintro e w2 ⟨j, s', rfl, hj, hs, hl, h2⟩
      have HW2 := Lib.hid (HW.out.next h2)
      have HP2 := Lib.hid (HP.out.next hlt hj (by rw [HM.out]; exact hs) (by rw [HM.out]; exact hl))
      have HR2 := Lib.hid (HR.out.set ((j : Int) - k) hlt)
      have c0 : w2.cell? ⟨g, i, none⟩ = some (.int .i64 (f i)) := HR.out.cell HW2.out.2.2.1 i hlt
      have f0 := HW2.out.2.2.1.frozen i
      have HW3 := Lib.hid (HW2.out.set i (.int .i64 ((j : Int) - k)))
      have c1 : (w2.setCell ⟨g, i, none⟩ (.int .i64 ((j : Int) - k))).cell? ⟨g, i, none⟩ = some (.int .i64 ((j : Int) - k)) := by
        have := HR2.out.cell HW3.out.2.2.1 i hlt
        simpa using this
      clear hs hl h2 HF HW HP HR HW2
      go_wp2_with fail
      refine (unsigned_any _ _ (by omega) (by omega)).mono ?_
      rintro e w3 ⟨rfl, rfl⟩
      go_wp2_with fail
      go_roundw
      case rel => exact ⟨i + 1, k - ((j : Int) - k).natAbs, s', _, _, by omega, by go_num, congrArg (Value.int .i64) (by omega), rfl, HP2, HR2, HW3.out⟩
      case measure => simp [intOf]; omega
    · obtain rfl : i = N := by omega
      go_wp2_with fail
      go_ret2
      obtain ⟨d1, d2⟩ := HP.out.done
      exact ⟨f, d1, d2, g, R, rfl, HW.out.2.2.2.2.1, HR.out, HW.out.2.2.1, HW.out.1⟩
end Go.Proofs.YtfohinlldchdpaaGreatDoor.Ve
end
