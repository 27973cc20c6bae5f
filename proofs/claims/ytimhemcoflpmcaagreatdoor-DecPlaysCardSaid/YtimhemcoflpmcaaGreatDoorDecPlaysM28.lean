/- Texts of the walk, one behind the other. -/
import Derived.Test.YtimhemcoflpmcaaGreatDoorDecPlaysM23
import Derived.Test.YtimhemcoflpmcaaGreatDoorDecPlaysM24
import Derived.Test.YtimhemcoflpmcaaGreatDoorDecPlaysM27
import Derived.Test.YtimhemcoflpmcaaGreatDoorDecPlaysM25
import Derived.Test.YtimhemcoflpmcaaGreatDoorDecPlaysM7

section
/- The mathematics of a packet: what is taken of its bytes: the levels, the room, the vectors, the waves. -/
set_option maxRecDepth 100000
set_option linter.unusedVariables false
namespace Go.Proofs.YtimhemcoflpmcaaGreatDoor.De
open Go.RowKit Go.Proofs.YtimhemcoflpmcaaGreatDoor.Row Go.Proofs.YtimhemcoflpmcaaGreatDoor.Rg

/-- The decoder where so many levels are taken. -/
def dL (f : Nat → Nat) : Nat → Dt
  | 0 => Dt.new f
  | b + 1 => (dL f b).take f (Lp.cl (Lp.lv (dL f b)))
theorem dL_ok (f : Nat → Nat) : ∀ b, (dL f b).ok ∧ (dL f b).g ≤ 2 * b
  | 0 => ⟨new_dt f, Nat.le_refl _⟩
  | b + 1 => by
    obtain ⟨h1, h2⟩ := dL_ok f b
    have c := Lp.cl_ok (Lp.lv_in (dL f b)).1 (Lp.lv_in (dL f b)).2
    have g := take_g (f := f) h1 c
    exact ⟨take_dt h1 c, by show ((dL f b).take f (Lp.cl (Lp.lv (dL f b)))).g ≤ _; omega⟩
/-- A level is brought into 0 to 20. -/
def br (x : Int) : Int := max 0 (min x 20)
theorem br_bd (x : Int) : 0 ≤ br x ∧ br x ≤ 20 := by unfold br; omega
/-- The levels behind a packet. -/
def lB (f : Nat → Nat) (L : Nat → Int) (b : Nat) : Int := br (L b + Lp.lv (dL f b))
theorem lB_ok (f : Nat → Nat) (L : Nat → Int) : Sp.okL (lB f L) := fun i _ => br_bd _
/-- The room behind the levels. -/
def rmS (f : Nat → Nat) (n : Nat) : Int := Sp.rm n (dL f 4).used
theorem rmS_bd (f : Nat → Nat) (n : Nat) : 0 ≤ rmS f n ∧ rmS f n ≤ 1048576 := by
  unfold rmS Sp.rm
  split <;> omega
theorem dt_used_bd {d : Dt} (h : d.ok) (hg : d.g ≤ 1000) : 0 ≤ d.used ∧ d.used ≤ 8032 := by
  have h1 := (bl_lt (x := d.r) (k := 32) (by have := h.2.1; omega) (by omega)).2 (by have := h.2.1; omega)
  unfold Dt.used
  omega
/-- The pulses. -/
def kS (f : Nat → Nat) (L : Nat → Int) (n : Nat) : Nat → Nat := Sp.given (lB f L) (rmS f n)
theorem kS_le (f : Nat → Nat) (L : Nat → Int) (n b : Nat) : kS f L n b ≤ 8 := by
  obtain ⟨_, h⟩ := Sp.given_fin (lB f L) (rmS_bd f n).1
  exact h.few b

/-- The vector of n numbers with k pulses ahead of which i others stand. -/
noncomputable def vF (n k i : Nat) : Nat → Int := by
  classical
  exact if h : ∃ f : Nat → Int, Ve.sm f n = k ∧ Ve.num f n k = i then Classical.choose h else fun _ => 0
theorem vF_is {n k i : Nat} {f : Nat → Int} (h1 : Ve.sm f n = k) (h2 : Ve.num f n k = i) : Ve.sm (vF n k i) n = k ∧ ∀ j, j < n → f j = vF n k i j := by
  have h : ∃ f : Nat → Int, Ve.sm f n = k ∧ Ve.num f n k = i := ⟨f, h1, h2⟩
  have e : vF n k i = Classical.choose h := by unfold vF; rw [dif_pos h]
  obtain ⟨c1, c2⟩ := Classical.choose_spec h
  rw [e]
  exact ⟨c1, Ve.num_inj h1 c1 (h2.trans c2.symm)⟩
theorem sm_at {f : Nat → Int} {n j : Nat} (h : j < n) : (f j).natAbs ≤ Ve.sm f n := by
  have := Ve.sm_mono f (a := j + 1) (b := n) h
  rw [Ve.sm_next] at this
  omega
theorem vF_bd {n k i : Nat} (hk : k ≤ 8) : ∀ j, j < n → -8 ≤ vF n k i j ∧ vF n k i j ≤ 8 := fun j hj => by
  unfold vF
  split
  · rename_i h
    obtain ⟨c1, c2⟩ := Classical.choose_spec h
    have := sm_at (f := Classical.choose h) hj
    omega
  · dsimp only; omega

/-- How many bits a vector has: no more than may be taken at a time. -/
theorem P_24 : ∀ b, b < 4 → ∀ k, k ≤ 8 → Sp.P b k ≤ 24 := by decide +kernel
theorem V_pos : ∀ b, b < 4 → ∀ k, k ≤ 8 → 1 ≤ Ve.V (Sp.sB b) k := by decide +kernel
theorem sB_fs : ∀ b, b < 4 → Lv.fs b + Sp.sB b = Lv.fs (b + 1) ∧ 1 ≤ Sp.sB b ∧ Sp.sB b ≤ 8 ∧ Lv.fs (b + 1) ≤ 16 := by decide

/-- The decoder where the vectors of so many bands are taken. -/
def dW (f : Nat → Nat) (k : Nat → Nat) (d : Dt) : Nat → Dt
  | 0 => d
  | b + 1 => if k b = 0 then dW f k d b else (decB f 3 (Sp.P b (k b)) (dW f k d b)).2
theorem dW_ok (f : Nat → Nat) (k : Nat → Nat) {d : Dt} (h : d.ok) : ∀ b, (dW f k d b).ok ∧ (dW f k d b).g ≤ d.g + 6 * b
  | 0 => ⟨h, Nat.le_refl _⟩
  | b + 1 => by
    obtain ⟨h1, h2⟩ := dW_ok f k h b
    unfold dW
    split
    · exact ⟨h1, by omega⟩
    · obtain ⟨c1, c2⟩ := decB_ok (f := f) 3 (Sp.P b (k b)) h1
      exact ⟨c1, by omega⟩
/-- A band's vector's number. -/
def nW (f : Nat → Nat) (k : Nat → Nat) (d : Dt) (b : Nat) : Nat := (decB f 3 (Sp.P b (k b)) (dW f k d b)).1 % Ve.V (Sp.sB b) (k b)
noncomputable def yW (f : Nat → Nat) (k : Nat → Nat) (d : Dt) (b : Nat) : Nat → Int := vF (Sp.sB b) (k b) (nW f k d b)
/-- The waves where so many bands are laid. -/
noncomputable def wW (f : Nat → Nat) (l : Nat → Int) (k : Nat → Nat) (d : Dt) : Nat → Nat → Int
  | 0 => fun _ => 0
  | b + 1 => if k b = 0 then wW f l k d b else over (wW f l k d b) (Lv.fl (l b) (yW f k d b) (Sp.sB b)) (Lv.fs b) (Sp.sB b)

theorem okY_ext {y z : Nat → Int} {n : Nat} (h : ∀ j, j < n → y j = z j) : Lv.okY y n = Lv.okY z n := by
  rw [Bool.eq_iff_iff, Lv.okY_iff, Lv.okY_iff]
  exact ⟨fun c i hi => h i hi ▸ c i hi, fun c i hi => (h i hi).symm ▸ c i hi⟩
theorem cnt_ext {y z : Nat → Int} {n : Nat} (h : ∀ j, j < n → y j = z j) : Lv.cnt y n = Lv.cnt z n := by
  unfold Lv.cnt
  rw [okY_ext h, Lv.sm_ext _ (fun i => Lv.uns (z i)) n fun i hi => by rw [h i hi]]
theorem fl_ext {l : Int} {y z : Nat → Int} {n : Nat} (h : ∀ j, j < n → y j = z j) (i : Nat) (hi : i < n) : Lv.fl l y n i = Lv.fl l z n i := by
  unfold Lv.fl
  rw [cnt_ext h, h i hi]
theorem over_ext {f g h : Nat → Int} {l n : Nat} (e : ∀ j, j < n → g j = h j) (i : Nat) : over f g l n i = over f h l n i := by
  unfold over
  split
  · exact e _ (by omega)
  · rfl
theorem sm_ge {g : Nat → Int} (h : ∀ i, 0 ≤ g i) : ∀ {n i : Nat}, i < n → g i ≤ Lv.sm g n
  | n + 1, i, hi => by
    have h1 := Lv.smu_nonneg g h n
    have h2 := h n
    show g i ≤ Lv.sm g n + g n
    by_cases e : i = n
    · subst e; omega
    · have := sm_ge h (n := n) (i := i) (by omega); omega
theorem fl_le {l : Int} {y : Nat → Int} {n i : Nat} (h8 : n ≤ 8) (hy : Lv.okY y n = true) (hi : i < n) : -1048576 ≤ Lv.fl l y n i ∧ Lv.fl l y n i ≤ 1048576 := by
  by_cases h : l < 1 ∨ 20 < l ∨ Lv.cnt y n = 0
  · rw [Lv.fl_off h]; omega
  · obtain ⟨_, s2, _⟩ := Lv.sum_fill l y n h8 hy h
    have p := (Lv.pow_bd (show l.toNat ≤ 20 by omega)).2
    have g := sm_ge (g := fun i => Lv.uns (Lv.fl l y n i)) (fun i => Lv.uns_nonneg _) hi
    simp only [Int.reducePow] at p
    have g2 : Lv.fl l y n i ≤ Lv.uns (Lv.fl l y n i) ∧ -Lv.fl l y n i ≤ Lv.uns (Lv.fl l y n i) := by unfold Lv.uns; omega
    omega
theorem wW_le (f : Nat → Nat) (l : Nat → Int) {k : Nat → Nat} (d : Dt) (hk : ∀ b, k b ≤ 8) : ∀ b, b ≤ 4 → ∀ i, -1048576 ≤ wW f l k d b i ∧ wW f l k d b i ≤ 1048576
  | 0, _, i => by show -1048576 ≤ (0 : Int) ∧ (0 : Int) ≤ 1048576; omega
  | b + 1, hb, i => by
    have ih := wW_le f l d hk b (by omega) i
    obtain ⟨_, _, s8, _⟩ := sB_fs b (by omega)
    unfold wW
    split
    · exact ih
    · unfold over
      split
      · exact fl_le s8 ((Lv.okY_iff _ _).2 (vF_bd (hk b))) (by omega)
      · exact ih
end Go.Proofs.YtimhemcoflpmcaaGreatDoor.De
end

section
/- Contracts of dec's isSize, areLevels, takeLevels. -/
set_option maxRecDepth 100000
set_option linter.unusedVariables false
namespace Go.Proofs.YtimhemcoflpmcaaGreatDoor.De
open Go.RowKit Go.Proofs.YtimhemcoflpmcaaGreatDoor.Row Go.Proofs.YtimhemcoflpmcaaGreatDoor.Rg

theorem isSize_yes (n : Nat) (w : World) (h : 10 ≤ n) (h2 : n ≤ 32) :
    Calls Tryz.prog 12 #[.int .i64 n] w fun e w' => e = .returned (.bool true) ∧ w = w' := by
  go_enter Tryz.func12, Tryz.ntmps12
  go_wp2
  go_ret
  exact ⟨ret_bool (decide_eq_true (by omega)), rfl⟩
theorem isSize_no (n : Nat) (w : World) (h : ¬ (10 ≤ n ∧ n ≤ 32)) :
    Calls Tryz.prog 12 #[.int .i64 n] w fun e w' => e = .returned (.bool false) ∧ w = w' := by
  by_cases h1 : (10 : Int) ≤ n
  · have h2 : decide ((n : Int) ≤ 32) = false := by simp; omega
    clear h
    go_enter Tryz.func12, Tryz.ntmps12
    go_wp2
    go_ret
    exact ⟨rfl, rfl⟩
  · clear h
    go_enter Tryz.func12, Tryz.ntmps12
    go_wp2
    go_ret
    exact ⟨rfl, rfl⟩

theorem areLevels_yes (T : Array Value) (L : Nat → Int) (w : World) (hT : IsRow 4 L T) (h : Sp.okL L) :
    Calls Tryz.prog 13 #[.agg T] w fun e w' => e = .returned (.bool true) ∧ Below w.heap.size w w' := by
  have HC := Lib.hid (hT.cell (At.new w T 23))
  have HM := Lib.hid (Sp.min_as w.heap.size L (w.alloc (.cells T 23)) HC.out)
  have HX := Lib.hid (Sp.max_as w.heap.size L (w.alloc (.cells T 23)) HC.out)
  have HL := Lib.hid h
  clear hT h
  go_enter Tryz.func13, Tryz.ntmps13
  go_wp2_with fail
  refine HM.out.mono ?_
  rintro e w1 ⟨⟨m, rfl, hm⟩, rfl⟩
  have m0 : 0 ≤ m := by
    obtain ⟨_, i, hi, e⟩ := hm
    rw [← e]; exact (HL.out i hi).1
  clear hm
  go_wp2_with fail
  refine HX.out.mono ?_
  rintro e w1 ⟨⟨x, rfl, hx⟩, rfl⟩
  have x0 : x ≤ 20 := by
    obtain ⟨_, i, hi, e⟩ := hx
    rw [← e]; exact (HL.out i hi).2
  clear hx
  go_wp2_with fail
  go_ret
  exact ⟨rfl, (Below.refl _ _).alloc (Nat.le_refl _) _⟩

theorem areLevels_no (T : Array Value) (L : Nat → Int) (w : World) (hT : IsRow 4 L T) (h : ¬ Sp.okL L) :
    Calls Tryz.prog 13 #[.agg T] w fun e w' => e = .returned (.bool false) ∧ Below w.heap.size w w' := by
  have HC := Lib.hid (hT.cell (At.new w T 23))
  have HM := Lib.hid (Sp.min_as w.heap.size L (w.alloc (.cells T 23)) HC.out)
  have HX := Lib.hid (Sp.max_as w.heap.size L (w.alloc (.cells T 23)) HC.out)
  have HL := Lib.hid h
  clear hT h
  go_enter Tryz.func13, Tryz.ntmps13
  go_wp2_with fail
  refine HM.out.mono ?_
  rintro e w1 ⟨⟨m, rfl, hm⟩, rfl⟩
  have HM1 := Lib.hid hm
  clear hm
  by_cases m0 : m < 0
  · go_wp2_with fail
    go_ret
    exact ⟨rfl, (Below.refl _ _).alloc (Nat.le_refl _) _⟩
  · go_wp2_with fail
    refine HX.out.mono ?_
    rintro e w1 ⟨⟨x, rfl, hx⟩, rfl⟩
    have x0 : 20 < x := by
      by_cases c : 20 < x
      · exact c
      · exact absurd (fun i hi => ⟨by have := HM1.out.1 i hi; omega, by have := hx.1 i hi; omega⟩) HL.out
    clear hx
    go_wp2_with fail
    go_ret
    exact ⟨ret_bool (decide_eq_false (by omega)), (Below.refl _ _).alloc (Nat.le_refl _) _⟩

theorem DecIs.mono {w : World} {b : Nat} {T U : Nat → Prop} {s : List UInt8} {d : Dt} (h : DecIs w b T s d) (hT : ∀ k, T k → U k) : DecIs w b U s d := by
  obtain ⟨h1, tb, h2, h3, h4⟩ := h
  exact ⟨hT _ h1, tb, h2, hT _ h3, h4⟩

theorem run_min20 (x u : Int) (h : min x 20 = u) (w : World) :
    (Builtin.min_ #[3, 3] 3 #[.int .i64 x, .int .i64 20]).run Tryz.prog w = .ok (.int .i64 u) w := by
  have e : (if 20 < x then 20 else x) = u := by rw [← h]; split <;> omega
  rw [← e]
  simp [Builtin.min_, Builtin.min2]
theorem run_max00 (x u : Int) (h : max 0 x = u) (w : World) :
    (Builtin.max_ #[3, 3] 3 #[.int .i64 0, .int .i64 x]).run Tryz.prog w = .ok (.int .i64 u) w := by
  have e : (if 0 < x then x else 0) = u := by rw [← h]; split <;> omega
  rw [← e]
  simp [Builtin.max_, Builtin.max2]

/-- The levels where so many are taken. -/
def mL (f : Nat → Nat) (L : Nat → Int) (k i : Nat) : Int := if i < k then lB f L i else L i
theorem mL_at (f : Nat → Nat) (L : Nat → Int) (k : Nat) : mL f L k k = L k := by unfold mL; rw [if_neg (by omega)]
theorem mL_next (f : Nat → Nat) (L : Nat → Int) (k i : Nat) : (if i = k then lB f L k else mL f L k i) = mL f L (k + 1) i := by
  unfold mL
  by_cases c : i = k
  · rw [if_pos c, if_pos (by omega), c]
  · rw [if_neg c]
    by_cases c2 : i < k
    · rw [if_pos c2, if_pos (by omega)]
    · rw [if_neg c2, if_neg (by omega)]
/-- What stands while levels are taken. -/
def TlS (w : World) (b : Nat) (O : Nat → Prop) (s : List UInt8) (d : Dt) (R Z : Array Value) (w' : World) : Prop :=
  Fr O w w' ∧ DecIs w' b O s d ∧ At w' w.heap.size R 23 ∧ At w' (w.heap.size + 1) Z 23 ∧ ∀ k, O k → k < w.heap.size
theorem TlS.start {w : World} {b : Nat} {O : Nat → Prop} {s : List UInt8} {d : Dt} (R Z : Array Value) (h : DecIs w b O s d) (hO : ∀ k, O k → k < w.heap.size) :
    TlS w b O s d R Z ((w.alloc (.cells R 23)).alloc (.cells Z 23)) := by
  have h1 := At.new (w.alloc (.cells R 23)) Z 23
  rw [World.size_alloc] at h1
  have hf : Fr (fun _ => False) w ((w.alloc (.cells R 23)).alloc (.cells Z 23)) := ((Fr.refl _ _).alloc _).alloc _
  exact ⟨hf.mono fun _ _ h => h.elim, h.fr hf fun _ _ h => h, (At.new w R 23).alloc _, h1, hO⟩
theorem TlS.took {w w1 w2 : World} {b : Nat} {O : Nat → Prop} {s : List UInt8} {d d' : Dt} {R Z : Array Value} (h : TlS w b O s d R Z w1) (hD : DecIs w2 b O s d') (hF : Fr O w1 w2) : TlS w b O s d' R Z w2 := by
  obtain ⟨h1, h2, h3, h4, h5⟩ := h
  exact ⟨h1.same hF, hD, h3.fr hF fun c => by have := h5 _ c; omega, h4.fr hF fun c => by have := h5 _ c; omega, h5⟩
theorem TlS.put {w w1 : World} {b : Nat} {O : Nat → Prop} {s : List UInt8} {d : Dt} {R Z : Array Value} (h : TlS w b O s d R Z w1) (i : Nat) (v : Value) : TlS w b O s d (R.setIfInBounds i v) Z (w1.setCell ⟨w.heap.size, i, none⟩ v) := by
  obtain ⟨h1, h2, h3, h4, h5⟩ := h
  refine ⟨h1.setCell (.inr (Nat.le_refl _)) _, ?_, h3.setCell, h4.setCell_other (by dsimp only; omega), h5⟩
  exact h2.fr (U := Just w.heap.size) ((Fr.refl _ _).setCell (p := ⟨w.heap.size, i, none⟩) (.inl (Just.self _)) _) fun k hk e => by have := h5 k hk; rw [just_iff] at e; omega

set_option maxHeartbeats 1000000 in
theorem takeLevels_as (T : Array Value) (L : Nat → Int) (b : Nat) (O : Nat → Prop) (s : List UInt8) (w : World) (hT : IsRow 4 L T) (hL : Sp.okL L) (h : DecIs w b O s (dL (byteF s) 0)) (hO : ∀ k, O k → k < w.heap.size) (hs : s.length ≤ 1000) :
    Calls Tryz.prog 15 #[.agg T, .pointer (some ⟨b, 0, none⟩)] w fun e w' => (∃ R, e = .returned (.agg R) ∧ IsRow 4 (lB (byteF s) L) R) ∧ DecIs w' b O s (dL (byteF s) 4) ∧ Fr O w w' := by
  obtain ⟨Z, hZ, hZ0, hz, hi⟩ := Sp.zero4
  have HS := Lib.hid (TlS.start T Z h hO)
  have HT := Lib.hid (hT.ext (g := mL (byteF s) L 0) fun i _ => (show L i = mL (byteF s) L 0 i by unfold mL; rw [if_neg (by omega)]))
  have HI := Lib.hid hi
  have HZ := Lib.hid hZ.1
  have HL := Lib.hid hL
  clear hT hL h hO hi hZ hZ0
  go_enter Tryz.func15, Tryz.ntmps15
  go_wp2_with fail
  go_loopw [8] (fun i w' => ∃ (k : Nat) (R : Array Value), k ≤ 4 ∧ i = .int .i64 k ∧ Hid (IsRow 4 (mL (byteF s) L k) R) ∧ TlS w b O s (dL (byteF s) k) R Z w') (fun i _ => 4 - (intOf i).toNat)
  case atStart => exact ⟨0, T, by omega, rfl, HT, HS.out⟩
  case round =>
    obtain ⟨k, R, hk, rfl, HR, hS⟩ := hrel
    clear HS HT
    have HS := Lib.hid hS
    clear hS
    by_cases hlt : k < 4
    · have k1 : (k : Int) < 4 := by omega
      obtain ⟨d1, d2⟩ := dL_ok (byteF s) k
      obtain ⟨v1, v2⟩ := Lp.lv_in (dL (byteF s) k)
      have HN := Lib.hid (show (dL (byteF s) k).take (byteF s) (Lp.cl (Lp.lv (dL (byteF s) k))) = dL (byteF s) (k + 1) from rfl)
      obtain ⟨x1, x2⟩ := HL.out k hlt
      have HB := Lib.hid (show lB (byteF s) L k = max 0 (min (L k + Lp.lv (dL (byteF s) k)) 20) from rfl)
      have c0 := HR.out.2.2 k hlt
      rw [mL_at] at c0
      obtain ⟨x, hx⟩ : ∃ x, L k = x := ⟨_, rfl⟩
      obtain ⟨v, hv⟩ : ∃ v, Lp.lv (dL (byteF s) k) = v := ⟨_, rfl⟩
      rw [hx] at x1 x2 HB c0
      rw [hv] at v1 v2 HB HN
      obtain ⟨m, hm⟩ : ∃ m, min (x + v) 20 = m := ⟨_, rfl⟩
      obtain ⟨u, hu⟩ : ∃ u, max 0 m = u := ⟨_, rfl⟩
      rw [hm, hu] at HB
      have rm := run_min20 (x + v) m hm
      have ru := run_max00 m u hu
      have HV := Lib.hid hv
      clear hx hv hm hu
      go_wp2_with fail
      refine (Lp.ltake_as _ b O s _ v HS.out.2.1 d1 HV.out (by omega) (by omega)).mono ?_
      rintro e w1 ⟨rfl, h1, h2⟩
      rw [HN.out] at h1
      have HS1 := Lib.hid (HS.out.took h1 h2)
      have c1 : w1.cell? ⟨w.heap.size, k, none⟩ = some (.int .i64 x) := by rw [HS1.out.2.2.1.cell]; exact c0
      have f1 := HS1.out.2.2.1.frozen k
      clear h1 h2 HS d1 d2
      go_wp2_with fail
      go_roundw
      case rel => exact ⟨k + 1, _, by omega, by go_num, Lib.hid ((HR.out.set u hlt).ext fun i _ => by rw [← HB.out]; exact mL_next _ _ _ _), HS1.out.put k _⟩
      case measure => simp [intOf]; omega
    · obtain rfl : k = 4 := by omega
      have HI4 := Lib.hid (HI.out R HR.out.1)
      clear hk hlt
      go_wp2_with (first
        | refine wpList_load_row rfl 23 _ rfl w.heap.size rfl _ _ (0, 0) _ HS.out.2.2.1 Tryz.underlying23 rfl HI4.out ?_
        | refine wpList_store_row rfl 23 _ _ rfl (w.heap.size + 1) R rfl rfl _ _ HS.out.2.2.2.1 HI4.out (by rw [HZ.out, HR.out.1]) HR.out.2.1 ?_)
      have HE : TlS w b O s (dL (byteF s) 4) R R (wr.setRow (w.heap.size + 1) R) := by
        obtain ⟨h1, h2, h3, h4, h5⟩ := HS.out
        refine ⟨h1.setRow (.inr (by omega)) _, ?_, h3.setRow_other (by omega), h4.setRow, h5⟩
        exact h2.fr (U := Just (w.heap.size + 1)) ((Fr.refl _ _).setRow (.inl (Just.self _)) _) fun k hk e => by have := h5 k hk; rw [just_iff] at e; omega
      exact bodyPost_ret (v := .agg R) (results_cell_row rfl _ _ (w.heap.size + 1) 23 R (0, 0) _ rfl HE.2.2.2.1 Tryz.underlying23 rfl HI4.out) rfl ⟨⟨R, rfl, HR.out.ext fun i hi => by unfold mL; rw [if_pos hi]⟩, HE.2.1, HE.1⟩
end Go.Proofs.YtimhemcoflpmcaaGreatDoor.De
end
