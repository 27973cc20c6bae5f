/- Texts of the walk, one behind the other. -/
import Derived.Test.YtfohinlldchdpaaGreatDoorEncPlaysM22
import Derived.Test.YtfohinlldchdpaaGreatDoorEncPlaysM1
import Derived.Test.YtfohinlldchdpaaGreatDoorEncPlaysM2
import Derived.Test.YtfohinlldchdpaaGreatDoorEncPlaysM45

section
/- Contracts of the counts' first and of vect's Vector. -/
set_option maxRecDepth 100000
set_option linter.unusedVariables false
namespace Go.Proofs.YtfohinlldchdpaaGreatDoor.Ve
open Go.RowKit Go.Proofs.YtfohinlldchdpaaGreatDoor.Row Go.Maps Go.WideMaps

theorem Ofs.next {w w1 w2 : World} {b : Nat} (h : Ofs w b w1) (h2 : Ofs w1 b w2) : Ofs w b w2 := ⟨h2.1, h.2.same h2.2⟩

theorem first_as (b m K I : Nat) (n : Int) (w : World) (hn : n - 1 = m) (hm : m ≤ 7) (hK : K ≤ 8) (hI : I < V (m + 1) K) (h : Cn w b) :
    Calls Tryz.prog 208 #[.map (some b), .int .i64 n, .int .i64 K, .int .i64 I] w fun e w' =>
      ∃ (j s : Nat), e = .returned (.tuple #[.int .i64 ((j : Int) - K), .int .i64 s]) ∧ j ≤ 2 * K ∧ S (gV m K) j + s = I ∧ s < gV m K j ∧ Ofs w b w' := by
  have HO := Lib.hid (show Ofs w b w from ⟨h, Fr.refl _ _⟩)
  have HI := Lib.hid hI
  have hI2 := V_le (n := m + 1) (k := K) (by omega) hK
  have hI3 : I ≤ 6975757441 := by omega
  clear h hI hI2
  go_enter Tryz.func208, Tryz.ntmps208
  go_wp2_with fail
  go_loopw [3, 10] (fun i v w' => ∃ j s : Nat, j ≤ 2 * K ∧ v = .int .i64 ((j : Int) - K) ∧ i = .int .i64 s ∧ Hid (S (gV m K) j + s = I) ∧ Ofs w b w') (fun _ v _ => ((K : Int) + 1 - intOf v).toNat)
  case atStart => exact ⟨0, I, by omega, congrArg (Value.int .i64) (by omega), rfl, Lib.hid (Nat.zero_add I), HO.out⟩
  case round =>
    obtain ⟨j, s, hj, rfl, rfl, HS, h⟩ := hrel
    have HW := Lib.hid h
    have hg := cI_g (m := m) (by omega) hK hj
    have hs3 : s ≤ 6975757441 := by have := HS.out; omega
    have HE := Lib.hid (show S (gV m K) (j + 1) = S (gV m K) j + gV m K j from rfl)
    obtain ⟨y, hy⟩ : ∃ y, gV m K j = y := ⟨_, rfl⟩
    rw [hy] at hg HE
    have HY := Lib.hid hy
    have HG := Lib.hid hg
    clear hy hg h
    go_wp2_with fail
    refine (unsigned_any _ _ (by omega) (by omega)).mono ?_
    rintro e w2 ⟨rfl, rfl⟩
    go_wp2_with fail
    refine (of_as _ _ _ _ _ HG.out HW.out.1).mono ?_
    rintro e w3 ⟨rfl, h3⟩
    have HW3 := Lib.hid (HW.out.next h3)
    clear h3 HW
    by_cases c : s < y
    · go_wp2_with fail
      go_ret2
      exact ⟨j, s, rfl, hj, HS.out, by rw [HY.out]; exact c, HW3.out⟩
    · have hj2 : j + 1 ≤ 2 * K := S_lt (n := m) (by rw [HE.out]; have := HS.out; have := HI.out; omega)
      go_wp2_with fail
      go_roundw
      case rel => exact ⟨j + 1, s - y, hj2, congrArg (Value.int .i64) (by omega), congrArg (Value.int .i64) (by omega), Lib.hid (by rw [HE.out]; have := HS.out; omega), HW3.out⟩
      case measure => simp [intOf]; omega

/-- What stands while a vector is laid out: the map at b, the row at g. -/
def VcS (w : World) (b g : Nat) (R : Array Value) (w' : World) : Prop := Below w.heap.size w w' ∧ Cn w' b ∧ At w' g R 3 ∧ w.heap.size ≤ b ∧ w.heap.size ≤ g ∧ g ≠ b
theorem VcS.next {w w1 w2 : World} {b g : Nat} {R : Array Value} (h : VcS w b g R w1) (h2 : Ofs w1 b w2) : VcS w b g R w2 :=
  ⟨h.1.trans (h2.2.below h.1.size fun k e => by rw [e]; exact h.2.2.2.1), h2.1, h.2.2.1.fr h2.2 h.2.2.2.2.2, h.2.2.2⟩
theorem VcS.set {w w1 : World} {b g : Nat} {R : Array Value} (h : VcS w b g R w1) (i : Nat) (v : Value) : VcS w b g (R.setIfInBounds i v) (w1.setCell ⟨g, i, none⟩ v) := by
  obtain ⟨D, hD⟩ := h.2.1
  exact ⟨h.1.setCell h.2.2.2.2.1 _, ⟨D, hD.fr (Fr.setCell (T := Just g) (Fr.refl _ _) (p := ⟨g, i, none⟩) (.inl rfl) v) fun e => h.2.2.2.2.2 e.symm⟩, h.2.2.1.setCell, h.2.2.2⟩

/-- A new row, f's n numbers, is handed back, and all that stood stands. -/
def RetVec (w w' : World) (e : Ending) (n : Nat) (f : Nat → Int) : Prop := ∃ g U, e = .returned (.tuple #[.slice (some ⟨g, 0, none⟩) n n, .int .i64 0]) ∧ w.heap.size ≤ g ∧ IsRow n f U ∧ At w' g U 3 ∧ Below w.heap.size w w'

/-- How far a vector's numbers are known: the first i. -/
structure VcP (N K I : Nat) (f : Nat → Int) (i k s : Nat) : Prop where
  left : kA f K i = k
  sum : sm f i ≤ K
  got : Ve.pre f N K i + s = I
  lt : s < V (N - i) k
theorem VcP.start {N K I : Nat} (h : I < V N K) : VcP N K I (fun _ => 0) 0 K I := ⟨rfl, Nat.zero_le _, Nat.zero_add _, h⟩
theorem VcP.next {N K I i k s j s' : Nat} {f : Nat → Int} (h : VcP N K I f i k s) (hi : i < N) (hj : j ≤ 2 * k) (hs : S (gV (N - 1 - i) k) j + s' = s) (hl : s' < gV (N - 1 - i) k j) :
    VcP N K I (fun x => if x = i then (j : Int) - k else f x) (i + 1) (k - ((j : Int) - k).natAbs) s' := by
  obtain ⟨e1, e2, e3, e4⟩ := h
  have ef : ∀ x, x < i → (fun x => if x = i then (j : Int) - k else f x) x = f x := fun x hx => if_neg (by omega)
  have ei : (fun x => if x = i then (j : Int) - k else f x) i = (j : Int) - k := if_pos rfl
  generalize (fun x => if x = i then (j : Int) - k else f x) = h at *
  have es : sm h i = sm f i := sm_congr ef
  have ek : kA h K i = k := by unfold kA at *; rw [es]; exact e1
  have hab : ((j : Int) - k).natAbs ≤ k := by omega
  refine ⟨by rw [kA_next, ek, ei], ?_, ?_, ?_⟩
  · rw [sm_next, es, ei]; unfold kA at e1; omega
  · show pre h N K i + S (gV (N - 1 - i) (kA h K i)) (h i + kA h K i).toNat + s' = I
    rw [pre_congr ef, ek, ei, show ((j : Int) - k + k).toNat = j by omega]
    omega
  · unfold gV at hl
    rw [show N - (i + 1) = N - 1 - i by omega]
    exact hl
theorem VcP.done {N K I k s : Nat} {f : Nat → Int} (h : VcP N K I f N k s) : sm f N = K ∧ num f N K = I := by
  obtain ⟨e1, e2, e3, e4⟩ := h
  rw [Nat.sub_self] at e4
  have ek := V_end (k := k) (by omega)
  subst ek
  rw [V_one] at e4
  unfold kA at e1
  unfold num
  omega

set_option maxHeartbeats 400000 in
theorem vector_yes (N K I : Nat) (w : World) (hN : N ≤ 8) (hK : K ≤ 8) (h : I < V N K) :
    Calls Tryz.prog 185 #[.int .i64 N, .int .i64 K, .int .i64 I] w fun e w' => ∃ f, sm f N = K ∧ num f N K = I ∧ RetVec w w' e N f := by
  have hmm := @run_makeMap Tryz.prog
  have HC := Lib.hid (cI_nat hN hK)
  have hI := V_le hN hK
  have HP0 := Lib.hid (VcP.start h)
  obtain ⟨c, hc⟩ : ∃ c, V N K = c := ⟨_, rfl⟩
  rw [hc] at HC h hI
  clear hc
  go_enter Tryz.func185, Tryz.ntmps185
  go_wp2_with fail
  refine (of_as _ _ _ _ _ HC.out (cn_made w)).mono ?_
  rintro e w1 ⟨rfl, hw1⟩
  have HB1 := Lib.hid (ofs_made hw1)
  have HC1 := Lib.hid hw1.1
  have hz1 : w.heap.size < w1.heap.size := by have := hw1.2.size; simp at this; omega
  have i0 : 0 ≤ (I : Int) := by omega
  clear hw1 hI HC
  go_wp2_with (at_make; refine wpList_make_rowL (fun _ => 0) rfl _ _ rfl N _ _ rfl rfl (by omega) ?_)
  clear h i0
  obtain ⟨g, hg⟩ : ∃ g, w1.heap.size = g := ⟨_, rfl⟩
  have HV := Lib.hid (show VcS w w.heap.size g (rowL N (fun _ => 0) 0) (w1.alloc (.cells (rowL N (fun _ => 0) 0) 3)) from
    ⟨HB1.out.alloc HB1.out.size _, HC1.out.below ((Below.refl _ _).alloc (Nat.le_refl _) _), hg ▸ At.new _ _ _, Nat.le_refl _, by omega, by omega⟩)
  rw [hg]
  rw [hg] at hz1
  clear HB1 HC1 hg
  go_loopw [1, 2, 26] (fun q s i w' => ∃ (i' k' s' : Nat) (f : Nat → Int) (R : Array Value), i' ≤ N ∧ i = .int .i64 i' ∧ q = .int .i64 k' ∧ s = .int .i64 s' ∧ Hid (VcP N K I f i' k' s') ∧ Hid (IsRow N f R) ∧ VcS w w.heap.size g R w') (fun _ _ i _ => N - (intOf i).toNat)
  case atStart => exact ⟨0, K, I, _, _, Nat.zero_le _, rfl, rfl, rfl, HP0, Lib.hid (rowL_is _ _), HV.out⟩
  case round =>
    obtain ⟨i, k, s, f, R, hi, rfl, rfl, rfl, HP, HR, h⟩ := hrel
    have HW := Lib.hid h
    clear h
    by_cases hlt : i < N
    · have hk8 : k ≤ 8 := by have := HP.out.left; unfold kA at this; omega
      obtain ⟨m, hm⟩ : ∃ m, N - 1 - i = m := ⟨_, rfl⟩
      have HF := Lib.hid (first_as w.heap.size m k s ((N : Int) - i) wr (by omega) (by omega) hk8 (by rw [show m + 1 = N - i by omega]; exact HP.out.lt) HW.out.2.1)
      have HM := Lib.hid hm
      clear hm
      go_wp2_with fail
      refine HF.out.mono ?_
      rintro e w2 ⟨j, s', rfl, hj, hs, hl, h2⟩
      have HW2 := Lib.hid (HW.out.next h2)
      have HP2 := Lib.hid (HP.out.next hlt hj (by rw [HM.out]; exact hs) (by rw [HM.out]; exact hl))
      have HR2 := Lib.hid (HR.out.set ((j : Int) - k) hlt)
      have c0 : w2.cell? ⟨g, i, none⟩ = some (.int .i64 (f i)) := HR.out.cell HW2.out.2.2.1 i hlt
      have f0 := HW2.out.2.2.1.frozen i
      have HW3 := Lib.hid (HW2.out.set i (.int .i64 ((j : Int) - k)))
      have c1 : (w2.setCell ⟨g, i, none⟩ (.int .i64 ((j : Int) - k))).cell? ⟨g, i, none⟩ = some (.int .i64 ((j : Int) - k)) := by
        have := HR2.out.cell HW3.out.2.2.1 i hlt
        simpa using this
      clear hs hl h2 HF HW HP HR HW2
      go_wp2_with fail
      refine (unsigned_any _ _ (by omega) (by omega)).mono ?_
      rintro e w3 ⟨rfl, rfl⟩
      go_wp2_with fail
      go_roundw
      case rel => exact ⟨i + 1, k - ((j : Int) - k).natAbs, s', _, _, by omega, by go_num, congrArg (Value.int .i64) (by omega), rfl, HP2, HR2, HW3.out⟩
      case measure => simp [intOf]; omega
    · obtain rfl : i = N := by omega
      go_wp2_with fail
      go_ret2
      obtain ⟨d1, d2⟩ := HP.out.done
      exact ⟨f, d1, d2, g, R, rfl, HW.out.2.2.2.2.1, HR.out, HW.out.2.2.1, HW.out.1⟩
end Go.Proofs.YtfohinlldchdpaaGreatDoor.Ve
end

section
/- Contracts of the document's Size, Pulses and Count. -/
set_option maxRecDepth 100000
set_option linter.unusedVariables false
namespace Go.Proofs.YtfohinlldchdpaaGreatDoor.Ve
open Go.RowKit Go.Proofs.YtfohinlldchdpaaGreatDoor.Row Go.Maps Go.WideMaps

theorem sz_bd (x : Int) : 0 ≤ sz x ∧ sz x ≤ 1099511627776 := by unfold sz; split <;> omega
theorem sz_min {x : Int} {n : Nat} (h : n ≤ 9) : min (n + sz x) 9 = (min (n + x.natAbs) 9 : Nat) := by unfold sz; split <;> omega

/-- min of a number and 9. -/
theorem run_min9 (x u : Int) (h : min x 9 = u) (w : World) :
    (Builtin.min_ #[3, 3] 3 #[.int .i64 x, .int .i64 9]).run Tryz.prog w = .ok (.int .i64 u) w := by
  have e : (if (9 : Int) < x then 9 else x) = u := by rw [← h]; split <;> omega
  rw [← e]
  simp [Builtin.min_, Builtin.min2]

theorem refPulses_many (a : Option Addr) (n c : Nat) (f : Nat → Int) (w : World) (h : 8 < n) :
    Calls Tryz.prog 100 #[.slice a n c] w fun e w' => e = .returned (.int .i64 (pI f n)) ∧ w = w' := by
  have e : pI f n = 9 := by unfold pI; rw [if_neg (by omega)]
  rw [e]
  go_enter Tryz.func100, Tryz.ntmps100
  go_wp2_with fail
  go_ret
  exact ⟨rfl, rfl⟩

theorem refPulses_few (a : Option Addr) (n c : Nat) (f : Nat → Int) (w : World) (hS : Sl .i64 w a n c f) (h : n ≤ 8) :
    Calls Tryz.prog 100 #[.slice a n c] w fun e w' => e = .returned (.int .i64 (pI f n)) ∧ w = w' := by
  have HS := Lib.hid hS.2.2
  clear hS
  go_enter Tryz.func100, Tryz.ntmps100
  go_wp2_with fail
  go_loop [3, 4] (fun s i => ∃ k : Nat, k ≤ n ∧ i = .int .i64 k ∧ s = .int .i64 (min (sm f k) 9 : Nat)) (fun _ i => n - (intOf i).toNat)
  case atStart => exact ⟨0, Nat.zero_le _, rfl, rfl⟩
  case round =>
    obtain ⟨k, hk, rfl, rfl⟩ := hrel
    obtain ⟨s, hs⟩ : ∃ s, min (sm f k) 9 = s := ⟨_, rfl⟩
    have hs9 : s ≤ 9 := by omega
    have HM := Lib.hid hs
    rw [hs]
    by_cases hlt : k < n
    · obtain ⟨b, o, rfl, hc⟩ := HS.out (by omega)
      have c0 := hc k hlt
      have HE := Lib.hid (show min (sm f (k + 1)) 9 = min (s + (f k).natAbs) 9 by rw [sm_next]; omega)
      obtain ⟨x, hx⟩ : ∃ x, f k = x := ⟨_, rfl⟩
      rw [hx] at c0 HE
      obtain ⟨z, hz⟩ : ∃ z, sz x = z := ⟨_, rfl⟩
      have HZ := Lib.hid hz
      obtain ⟨z0, z1⟩ := sz_bd x
      rw [hz] at z0 z1
      have hq := sz_min (x := x) hs9
      rw [hz] at hq
      obtain ⟨q, hq2⟩ : ∃ q, min (s + x.natAbs) 9 = q := ⟨_, rfl⟩
      rw [hq2] at hq HE
      have hmn := run_min9 _ _ hq
      clear hx hz hs hc hq hq2
      go_wp2_with fail
      refine (refSize_as x z _ HZ.out).mono ?_
      rintro e w1 ⟨rfl, rfl⟩
      go_wp2_with fail
      go_round
      case rel => exact ⟨k + 1, by omega, by go_num, by rw [HE.out]⟩
      case measure => simp [intOf]; omega
    · obtain rfl : k = n := by omega
      go_wp2_with fail
      go_ret
      refine ⟨ret_int ?_, rfl⟩
      unfold pI
      rw [if_pos h, HM.out]

theorem refPulses_any (a : Option Addr) (n c : Nat) (f : Nat → Int) (w : World) (hS : Sl .i64 w a n c f) :
    Calls Tryz.prog 100 #[.slice a n c] w fun e w' => e = .returned (.int .i64 (pI f n)) ∧ w = w' := by
  by_cases h : n ≤ 8
  · exact refPulses_few a n c f w hS h
  · exact refPulses_many a n c f w (by omega)
end Go.Proofs.YtfohinlldchdpaaGreatDoor.Ve
end

section
/- Contract of the document's Number. -/
set_option maxRecDepth 100000
set_option linter.unusedVariables false
namespace Go.Proofs.YtfohinlldchdpaaGreatDoor.Ve
open Go.RowKit Go.Proofs.YtfohinlldchdpaaGreatDoor.Row Go.Maps Go.WideMaps

set_option maxHeartbeats 400000 in
theorem refNumber_yes (a : Option Addr) (n c k : Nat) (f : Nat → Int) (w : World) (hS : Sl .i64 w a n c f) (hp : pI f n = k) (hk : k ≤ 8) :
    Calls Tryz.prog 49 #[.slice a n c] w fun e w' => e = .returned (.int .i64 (num f n k)) ∧ Below w.heap.size w w' := by
  obtain ⟨hn8, e1, _⟩ := sm_of (f := f) (n := n) (by omega)
  have HM := Lib.hid (show sm f n ≤ k by omega)
  have HC := Lib.hid (refPulses_any a n c f w hS)
  rw [hp] at HC
  have HS := Lib.hid hS.2.2
  clear hS hp e1
  go_enter Tryz.func49, Tryz.ntmps49
  go_wp2_with fail
  refine HC.out.mono ?_
  rintro e w1 ⟨rfl, rfl⟩
  clear HC
  go_wp2_with fail
  go_loopw [3, 4, 5] (fun q s i w' => ∃ i' : Nat, i' ≤ n ∧ i = .int .i64 i' ∧ q = .int .i64 (kA f k i') ∧ s = .int .i64 (pre f n k i') ∧ Below w.heap.size w w') (fun _ _ i _ => n - (intOf i).toNat)
  case atStart => exact ⟨0, Nat.zero_le _, rfl, rfl, rfl, Below.refl _ _⟩
  case round =>
    obtain ⟨i, hi, rfl, rfl, rfl, h⟩ := hrel
    have HW := Lib.hid h
    clear h
    by_cases hlt : i < n
    · obtain ⟨b, o, rfl, hc⟩ := HS.out (by omega)
      have hcb := block_lt_of_cell (hc i hlt)
      have C0 := Lib.hid (hc i hlt)
      clear hc
      have hab := kA_ab HM.out hlt
      have hK8 := kA_le f k i
      have HB := Lib.hid (fun j hj => pre_bd (j := j) hn8 hk HM.out hlt hj)
      have HP := Lib.hid (show pre f n k (i + 1) = pre f n k i + S (gV (n - 1 - i) (kA f k i)) (f i + kA f k i).toNat from rfl)
      have HK := Lib.hid (kA_next f k i)
      obtain ⟨x, hx⟩ : ∃ x, f i = x := ⟨_, rfl⟩
      obtain ⟨K, hK⟩ : ∃ K, kA f k i = K := ⟨_, rfl⟩
      obtain ⟨p, hpe⟩ : ∃ p, pre f n k i = p := ⟨_, rfl⟩
      obtain ⟨m, hm⟩ : ∃ m : Nat, n - 1 - i = m := ⟨_, rfl⟩
      have hm' : (n : Int) - i - 1 = m := by omega
      have hm8 : m ≤ 8 := by omega
      rw [hx] at C0 hab
      rw [hx, hK, hpe, hm] at HP
      rw [hK, hx] at HK
      rw [hK] at hab hK8
      rw [hK, hpe, hm] at HB
      rw [hK, hpe]
      clear hx hK hpe hm
      have b0 := HB.out 0 (by omega)
      have hp0 : p ≤ 6975757441 := by omega
      clear b0
      go_wp2_with fail
      go_loopw [4, 6] (fun s l w' => ∃ j : Nat, (j : Int) ≤ x + K ∧ l = .int .i64 ((j : Int) - K) ∧ s = .int .i64 ((p + S (gV m K) j : Nat) : Int) ∧ Below w.heap.size w w') (fun _ l _ => (x - intOf l).toNat)
      case atStart => exact ⟨0, by omega, congrArg (Value.int .i64) (by omega), rfl, HW.out⟩
      case round =>
        obtain ⟨j, hj, rfl, rfl, h⟩ := hrel
        have HW2 := Lib.hid h
        have c0 := (Below.cell h hcb).trans C0.out
        clear h
        have b1 := HB.out j (by omega)
        obtain ⟨q, hq⟩ : ∃ q, S (gV m K) j = q := ⟨_, rfl⟩
        have HQ := Lib.hid hq
        rw [hq] at b1
        rw [hq]
        clear hq
        by_cases hl2 : (j : Int) - K < x
        · have b2 := HB.out (j + 1) (by omega)
          obtain ⟨z, hz⟩ : ∃ z, ((j : Int) - K).natAbs = z := ⟨_, rfl⟩
          have HZ := Lib.hid (show sz ((j : Int) - K) = z by rw [sz_small (by omega) (by omega), hz])
          obtain ⟨t, ht⟩ : ∃ t : Nat, (K : Int) - z = t := ⟨K - z, by omega⟩
          have ht8 : t ≤ 8 := by omega
          have hzK : (K : Int) - z ≤ 8 := by omega
          have HE := Lib.hid (show S (gV m K) (j + 1) = q + V m t from by
            rw [← HQ.out]
            show S (gV m K) j + V m (K - ((j : Int) - K).natAbs) = _
            rw [hz, show K - z = t by omega])
          rw [HE.out] at b2
          have HV := Lib.hid (refCount_as m t wr hm8 ht8)
          obtain ⟨y, hy⟩ : ∃ y, V m t = y := ⟨_, rfl⟩
          rw [hy] at HE b2 HV
          clear hy hz
          go_wp2_with fail
          refine (refSize_as _ _ _ HZ.out).mono ?_
          rintro e w2 ⟨rfl, rfl⟩
          go_wp2_with fail
          refine HV.out.mono ?_
          rintro e w3 ⟨rfl, h3⟩
          have HW3 := Lib.hid (below_trans HW2.out h3 HW2.out.size)
          clear h3 HW2 HV
          go_wp2_with fail
          go_roundw
          case rel => exact ⟨j + 1, by omega, congrArg (Value.int .i64) (by omega), congrArg (Value.int .i64) (by rw [HE.out]; omega), HW3.out⟩
          case measure => simp [intOf]; omega
        · have ej : (x + K).toNat = j := by omega
          rw [ej, HQ.out] at HP
          clear ej
          have HZ := Lib.hid (show sz x = x.natAbs from sz_small (by omega) (by omega))
          go_wp2_with fail
          refine (refSize_as _ _ _ HZ.out).mono ?_
          rintro e w2 ⟨rfl, rfl⟩
          go_wp2_with fail
          go_roundw
          case rel => exact ⟨i + 1, by omega, by go_num, congrArg (Value.int .i64) (by rw [HK.out]; omega), congrArg (Value.int .i64) (by rw [HP.out]; omega), HW2.out⟩
          case measure => simp [intOf]; omega
    · obtain rfl : i = n := by omega
      go_wp2_with fail
      go_ret
      exact ⟨rfl, HW.out⟩
end Go.Proofs.YtfohinlldchdpaaGreatDoor.Ve
end

section
/- The document's Vector (layer 13). -/
set_option maxRecDepth 100000
set_option linter.unusedVariables false
namespace Go.Proofs.YtfohinlldchdpaaGreatDoor.De
open Go.RowKit Go.Proofs.YtfohinlldchdpaaGreatDoor.Row Go.Proofs.YtfohinlldchdpaaGreatDoor.Ve

theorem refCount_at (n k : Int) (n' k' c : Nat) (W : World) (h1 : (n' : Int) = n) (h2 : (k' : Int) = k) (hn : n' ≤ 8) (hk : k' ≤ 8) (hc : V n' k' = c) :
    Calls Tryz.prog 101 #[.int .i64 n, .int .i64 k] W fun e w' => e = .returned (.int .i64 c) ∧ Below W.heap.size W w' := by
  subst h1 h2 hc; exact refCount_as n' k' W hn hk

/-- A vector handed back in a slice. -/
def RetVw (w : World) (N K I : Nat) (e : Ending) (w' : World) : Prop := ∃ a c f, e = .returned (.slice a N c) ∧ sm f N = K ∧ num f N K = I ∧ Sl .i64 w' a N c f ∧ Below w.heap.size w w'
def VwS (w : World) (a : Option Addr) (n c : Nat) (f : Nat → Int) (w' : World) : Prop := OwnS w' w.heap.size a n c f ∧ Below w.heap.size w w'
theorem VwS.next {w w1 w2 : World} {a : Option Addr} {n c : Nat} {f : Nat → Int} (h : VwS w a n c f w1) (hb : Below w1.heap.size w1 w2) : VwS w a n c f w2 := ⟨h.1.below hb, below_trans h.2 hb h.2.size⟩
theorem OwnS.ext {w : World} {B n c : Nat} {a : Option Addr} {f g : Nat → Int} (h : OwnS w B a n c f) (e : ∀ i, i < n → f i = g i) : OwnS w B a n c g := by
  rcases h with h | ⟨b, h1, h2⟩
  · exact .inl h
  · exact .inr ⟨b, h1, h2.ext e⟩
theorem new_int (w : World) (x z : Int) (h : z = x) : (w.alloc (.cells #[.int .i64 x] 3)).cell? ⟨w.heap.size, 0, none⟩ = some (.int .i64 z) := by
  rw [h]; exact (At.new w #[.int .i64 x] 3).cell 0

set_option maxHeartbeats 4000000 in
theorem refVector_as (N K I : Nat) (w : World) (hN : N ≤ 8) (hK : K ≤ 8) (h : I < V N K) :
    Calls Tryz.prog 149 #[.int .i64 N, .int .i64 K, .int .i64 I] w fun e w' => RetVw w N K I e w' := by
  have hI := V_le hN hK
  have hI2 : I ≤ 6975757441 := by omega
  have HP0 := Lib.hid (VcP.start h)
  have HV0 := Lib.hid (show VwS w none 0 0 (fun _ => 0) w from ⟨OwnS.nil _ _ _, Below.refl _ _⟩)
  clear h hI
  go_enter Tryz.func149, Tryz.ntmps149
  go_wp2_with fail
  go_loopw [1, 2, 7, 8] (fun q s o i w' => ∃ (i' k' s' c' : Nat) (a : Option Addr) (f : Nat → Int), i' ≤ N ∧ i = .int .i64 i' ∧ q = .int .i64 k' ∧ s = .int .i64 s' ∧ o = .slice a i' c' ∧ s' ≤ 6975757441 ∧ Hid (VcP N K I f i' k' s') ∧ Hid (VwS w a i' c' f w')) (fun _ _ _ i _ => N - (intOf i).toNat)
  case atStart => exact ⟨0, K, I, 0, none, _, Nat.zero_le _, rfl, rfl, rfl, rfl, hI2, HP0, HV0⟩
  case round =>
    obtain ⟨i, k, s0, c, a, f, hi, rfl, rfl, rfl, rfl, hs0, HP, HV⟩ := hrel
    clear HP0 HV0 hI2
    by_cases hlt : i < N
    · have hk8 : k ≤ 8 := by have := HP.out.left; unfold kA at this; omega
      obtain ⟨m, hm⟩ : ∃ m, N - 1 - i = m := ⟨_, rfl⟩
      have hm7 : m ≤ 7 := by omega
      have HM := Lib.hid hm
      have HMI := Lib.hid (show (m : Int) = (N : Int) - i - 1 by omega)
      have HLT := Lib.hid (show s0 < V (m + 1) k by rw [show m + 1 = N - i by omega]; exact HP.out.lt)
      have hki : -(k : Int) = -(k : Int) := rfl
      clear hm hki
      go_wp2_with fail
      go_loopw [2, 9] (fun s x w' => ∃ j s' : Nat, j ≤ 2 * k ∧ x = .int .i64 ((j : Int) - k) ∧ s = .int .i64 s' ∧ s' ≤ 6975757441 ∧ Hid (S (gV m k) j + s' = s0) ∧ Hid (VwS w a i c f w')) (fun _ x _ => ((k : Int) + 1 - intOf x).toNat)
      case atStart => exact ⟨0, s0, by omega, congrArg (Value.int .i64) (by omega), rfl, hs0, Lib.hid (Nat.zero_add s0), HV⟩
      case round =>
        obtain ⟨j, s, hj, rfl, rfl, hs, HS, HW⟩ := hrel
        clear HV
        obtain ⟨b, hb⟩ : ∃ b, ((j : Int) - k).natAbs = b := ⟨_, rfl⟩
        have hbk : b ≤ k := by omega
        have HB := Lib.hid hb
        have HE := Lib.hid (show S (gV m k) (j + 1) = S (gV m k) j + gV m k j from rfl)
        have HGJ := Lib.hid (show gV m k j = V m (k - b) by rw [← hb]; rfl)
        obtain ⟨y, hy⟩ : ∃ y, gV m k j = y := ⟨_, rfl⟩
        rw [hy] at HE HGJ
        have HY := Lib.hid hy
        have hy2 : y ≤ 6975757441 := by rw [HGJ.out]; exact V_le (by omega) (by omega)
        have HSZ := Lib.hid (fun w => refSize_as ((j : Int) - k) (b : Int) w (by rw [sz_small (by omega) (by omega), hb]))
        have HCT := Lib.hid (fun W => refCount_at ((N : Int) - i - 1) ((k : Int) - b) m (k - b) y W HMI.out (by omega) (by omega) (by omega) HGJ.out.symm)
        clear hy hb
        go_wp2_with fail
        refine (HSZ.out _).mono ?_
        rintro e w1 ⟨rfl, rfl⟩
        go_wp2_with fail
        refine (HCT.out _).mono ?_
        rintro e w2 ⟨rfl, hb2⟩
        have HW2 := Lib.hid (HW.out.next hb2)
        clear hb2 HW
        by_cases cc : y ≤ s
        · have hj2 : j + 1 ≤ 2 * k := S_lt (n := m) (by rw [HE.out]; have := HS.out; have := HLT.out; omega)
          have cy : (y : Int) ≤ s := by omega
          go_wp2_with fail
          refine (HSZ.out _).mono ?_
          rintro e w3 ⟨rfl, rfl⟩
          go_wp2_with fail
          refine (HCT.out _).mono ?_
          rintro e w4 ⟨rfl, hb4⟩
          have HW4 := Lib.hid (HW2.out.next hb4)
          clear hb4 HW2
          go_wp2_with fail
          go_roundw
          case rel => exact ⟨j + 1, s - y, hj2, congrArg (Value.int .i64) (by omega), congrArg (Value.int .i64) (by omega), by omega, Lib.hid (by rw [HE.out]; have := HS.out; omega), HW4⟩
          case measure => simp [intOf]; omega
        · have cy : ¬ (y : Int) ≤ s := by omega
          have HP2 := Lib.hid (HP.out.next hlt hj (by rw [HM.out]; exact HS.out) (by rw [HM.out, HY.out]; omega))
          rw [HB.out] at HP2
          obtain ⟨f', hf'⟩ : ∃ f' : Nat → Int, (fun x => if x = i then (j : Int) - k else f x) = f' := ⟨_, rfl⟩
          rw [hf'] at HP2
          have HF1 := Lib.hid (fun x (hx : x < i) => show f x = f' x by rw [← hf']; dsimp only; rw [if_neg (by omega)])
          have HF2 := Lib.hid (show f' i = (j : Int) - k by rw [← hf']; dsimp only; rw [if_pos rfl])
          clear hf' cc HP
          go_wp2_with (at_builtin; refine wpList_append_one rfl _ _ rfl w.heap.size f' a i c rfl (OwnS.ext (HW2.out.1.below ((Below.refl _ _).alloc (Nat.le_refl _) _)) HF1.out) w2.heap.size rfl (new_int w2 _ _ HF2.out) (by omega) (by have := HW2.out.2.size; simp; omega) ?_)
          intro g4 c4 w4 hO hB4 _ _
          have HV4 := Lib.hid (show VwS w (some ⟨g4, 0, none⟩) (i + 1) c4 f' w4 from ⟨.inr ⟨g4, rfl, hO⟩, (HW2.out.2.alloc HW2.out.2.size _).trans hB4⟩)
          clear hO hB4 HW2
          go_wp2_with fail
          refine (HSZ.out _).mono ?_
          rintro e w5 ⟨rfl, rfl⟩
          go_wp2_with fail
          go_roundw
          case rel => exact ⟨i + 1, k - b, s, c4, some ⟨g4, 0, none⟩, f', by omega, by go_num, congrArg (Value.int .i64) (by omega), rfl, by go_num, by omega, HP2, HV4⟩
          case measure => simp [intOf]; omega
    · obtain rfl : i = N := by omega
      go_wp2_with fail
      go_ret
      obtain ⟨d1, d2⟩ := HP.out.done
      exact ⟨a, c, f, rfl, d1, d2, HV.out.1.sl, HV.out.2⟩
end Go.Proofs.YtfohinlldchdpaaGreatDoor.De
end
