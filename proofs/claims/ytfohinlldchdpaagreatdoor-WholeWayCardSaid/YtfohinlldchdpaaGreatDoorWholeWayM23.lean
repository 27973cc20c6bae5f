/- Texts of the walk, one behind the other. -/
import Derived.Test.YtfohinlldchdpaaGreatDoorWholeWayM17
import Derived.Test.YtfohinlldchdpaaGreatDoorWholeWayM16
import Derived.Test.YtfohinlldchdpaaGreatDoorWholeWayM22
import Derived.Test.YtfohinlldchdpaaGreatDoorWholeWayM18
import Derived.Test.YtfohinlldchdpaaGreatDoorWholeWayM3
import Derived.Test.YtfohinlldchdpaaGreatDoorShMath

section
/- The mathematics of a packet: what is taken of its bytes: the levels, the room, the vectors, the waves. -/
set_option maxRecDepth 100000
set_option linter.unusedVariables false
namespace Go.Proofs.YtfohinlldchdpaaGreatDoor.De
open Go.RowKit Go.Proofs.YtfohinlldchdpaaGreatDoor.Row Go.Proofs.YtfohinlldchdpaaGreatDoor.Rg

/-- The decoder where so many levels are taken. -/
def dL (f : Nat → Nat) : Nat → Dt
  | 0 => Dt.new f
  | b + 1 => (dL f b).take f (Lp.cl (Lp.lv (dL f b)))
theorem dL_ok (f : Nat → Nat) : ∀ b, (dL f b).ok ∧ (dL f b).g ≤ 2 * b
  | 0 => ⟨new_dt f, Nat.le_refl _⟩
  | b + 1 => by
    obtain ⟨h1, h2⟩ := dL_ok f b
    have c := Lp.cl_ok (Lp.lv_in (dL f b)).1 (Lp.lv_in (dL f b)).2
    have g := take_g (f := f) h1 c
    exact ⟨take_dt h1 c, by show ((dL f b).take f (Lp.cl (Lp.lv (dL f b)))).g ≤ _; omega⟩
/-- A level is brought into 0 to 20. -/
def br (x : Int) : Int := max 0 (min x 20)
theorem br_bd (x : Int) : 0 ≤ br x ∧ br x ≤ 20 := by unfold br; omega
/-- The levels behind a packet. -/
def lB (f : Nat → Nat) (L : Nat → Int) (b : Nat) : Int := br (L b + Lp.lv (dL f b))
theorem lB_ok (f : Nat → Nat) (L : Nat → Int) : Sp.okL (lB f L) := fun i _ => br_bd _
/-- The room behind the levels. -/
def rmS (f : Nat → Nat) (n : Nat) : Int := Sp.rm n (dL f 4).used
theorem rmS_bd (f : Nat → Nat) (n : Nat) : 0 ≤ rmS f n ∧ rmS f n ≤ 1048576 := by
  unfold rmS Sp.rm
  split <;> omega
theorem dt_used_bd {d : Dt} (h : d.ok) (hg : d.g ≤ 1000) : 0 ≤ d.used ∧ d.used ≤ 8032 := by
  have h1 := (bl_lt (x := d.r) (k := 32) (by have := h.2.1; omega) (by omega)).2 (by have := h.2.1; omega)
  unfold Dt.used
  omega
/-- The pulses. -/
def kS (f : Nat → Nat) (L : Nat → Int) (n : Nat) : Nat → Nat := Sp.given (lB f L) (rmS f n)
theorem kS_le (f : Nat → Nat) (L : Nat → Int) (n b : Nat) : kS f L n b ≤ 8 := by
  obtain ⟨_, h⟩ := Sp.given_fin (lB f L) (rmS_bd f n).1
  exact h.few b

/-- The vector of n numbers with k pulses ahead of which i others stand. -/
noncomputable def vF (n k i : Nat) : Nat → Int := by
  classical
  exact if h : ∃ f : Nat → Int, Ve.sm f n = k ∧ Ve.num f n k = i then Classical.choose h else fun _ => 0
theorem vF_is {n k i : Nat} {f : Nat → Int} (h1 : Ve.sm f n = k) (h2 : Ve.num f n k = i) : Ve.sm (vF n k i) n = k ∧ ∀ j, j < n → f j = vF n k i j := by
  have h : ∃ f : Nat → Int, Ve.sm f n = k ∧ Ve.num f n k = i := ⟨f, h1, h2⟩
  have e : vF n k i = Classical.choose h := by unfold vF; rw [dif_pos h]
  obtain ⟨c1, c2⟩ := Classical.choose_spec h
  rw [e]
  exact ⟨c1, Ve.num_inj h1 c1 (h2.trans c2.symm)⟩
theorem sm_at {f : Nat → Int} {n j : Nat} (h : j < n) : (f j).natAbs ≤ Ve.sm f n := by
  have := Ve.sm_mono f (a := j + 1) (b := n) h
  rw [Ve.sm_next] at this
  omega
theorem vF_bd {n k i : Nat} (hk : k ≤ 8) : ∀ j, j < n → -8 ≤ vF n k i j ∧ vF n k i j ≤ 8 := fun j hj => by
  unfold vF
  split
  · rename_i h
    obtain ⟨c1, c2⟩ := Classical.choose_spec h
    have := sm_at (f := Classical.choose h) hj
    omega
  · dsimp only; omega

/-- How many bits a vector has: no more than may be taken at a time. -/
theorem P_24 : ∀ b, b < 4 → ∀ k, k ≤ 8 → Sp.P b k ≤ 24 := by decide +kernel
theorem V_pos : ∀ b, b < 4 → ∀ k, k ≤ 8 → 1 ≤ Ve.V (Sp.sB b) k := by decide +kernel
theorem sB_fs : ∀ b, b < 4 → Lv.fs b + Sp.sB b = Lv.fs (b + 1) ∧ 1 ≤ Sp.sB b ∧ Sp.sB b ≤ 8 ∧ Lv.fs (b + 1) ≤ 16 := by decide

/-- The decoder where the vectors of so many bands are taken. -/
def dW (f : Nat → Nat) (k : Nat → Nat) (d : Dt) : Nat → Dt
  | 0 => d
  | b + 1 => if k b = 0 then dW f k d b else (decB f 3 (Sp.P b (k b)) (dW f k d b)).2
theorem dW_ok (f : Nat → Nat) (k : Nat → Nat) {d : Dt} (h : d.ok) : ∀ b, (dW f k d b).ok ∧ (dW f k d b).g ≤ d.g + 6 * b
  | 0 => ⟨h, Nat.le_refl _⟩
  | b + 1 => by
    obtain ⟨h1, h2⟩ := dW_ok f k h b
    unfold dW
    split
    · exact ⟨h1, by omega⟩
    · obtain ⟨c1, c2⟩ := decB_ok (f := f) 3 (Sp.P b (k b)) h1
      exact ⟨c1, by omega⟩
/-- A band's vector's number. -/
def nW (f : Nat → Nat) (k : Nat → Nat) (d : Dt) (b : Nat) : Nat := (decB f 3 (Sp.P b (k b)) (dW f k d b)).1 % Ve.V (Sp.sB b) (k b)
noncomputable def yW (f : Nat → Nat) (k : Nat → Nat) (d : Dt) (b : Nat) : Nat → Int := vF (Sp.sB b) (k b) (nW f k d b)
/-- The waves where so many bands are laid. -/
noncomputable def wW (f : Nat → Nat) (l : Nat → Int) (k : Nat → Nat) (d : Dt) : Nat → Nat → Int
  | 0 => fun _ => 0
  | b + 1 => if k b = 0 then wW f l k d b else over (wW f l k d b) (Lv.fl (l b) (yW f k d b) (Sp.sB b)) (Lv.fs b) (Sp.sB b)

theorem okY_ext {y z : Nat → Int} {n : Nat} (h : ∀ j, j < n → y j = z j) : Lv.okY y n = Lv.okY z n := by
  rw [Bool.eq_iff_iff, Lv.okY_iff, Lv.okY_iff]
  exact ⟨fun c i hi => h i hi ▸ c i hi, fun c i hi => (h i hi).symm ▸ c i hi⟩
theorem cnt_ext {y z : Nat → Int} {n : Nat} (h : ∀ j, j < n → y j = z j) : Lv.cnt y n = Lv.cnt z n := by
  unfold Lv.cnt
  rw [okY_ext h, Lv.sm_ext _ (fun i => Lv.uns (z i)) n fun i hi => by rw [h i hi]]
theorem fl_ext {l : Int} {y z : Nat → Int} {n : Nat} (h : ∀ j, j < n → y j = z j) (i : Nat) (hi : i < n) : Lv.fl l y n i = Lv.fl l z n i := by
  unfold Lv.fl
  rw [cnt_ext h, h i hi]
theorem over_ext {f g h : Nat → Int} {l n : Nat} (e : ∀ j, j < n → g j = h j) (i : Nat) : over f g l n i = over f h l n i := by
  unfold over
  split
  · exact e _ (by omega)
  · rfl
theorem sm_ge {g : Nat → Int} (h : ∀ i, 0 ≤ g i) : ∀ {n i : Nat}, i < n → g i ≤ Lv.sm g n
  | n + 1, i, hi => by
    have h1 := Lv.smu_nonneg g h n
    have h2 := h n
    show g i ≤ Lv.sm g n + g n
    by_cases e : i = n
    · subst e; omega
    · have := sm_ge h (n := n) (i := i) (by omega); omega
theorem fl_le {l : Int} {y : Nat → Int} {n i : Nat} (h8 : n ≤ 8) (hy : Lv.okY y n = true) (hi : i < n) : -1048576 ≤ Lv.fl l y n i ∧ Lv.fl l y n i ≤ 1048576 := by
  by_cases h : l < 1 ∨ 20 < l ∨ Lv.cnt y n = 0
  · rw [Lv.fl_off h]; omega
  · obtain ⟨_, s2, _⟩ := Lv.sum_fill l y n h8 hy h
    have p := (Lv.pow_bd (show l.toNat ≤ 20 by omega)).2
    have g := sm_ge (g := fun i => Lv.uns (Lv.fl l y n i)) (fun i => Lv.uns_nonneg _) hi
    simp only [Int.reducePow] at p
    have g2 : Lv.fl l y n i ≤ Lv.uns (Lv.fl l y n i) ∧ -Lv.fl l y n i ≤ Lv.uns (Lv.fl l y n i) := by unfold Lv.uns; omega
    omega
theorem wW_le (f : Nat → Nat) (l : Nat → Int) {k : Nat → Nat} (d : Dt) (hk : ∀ b, k b ≤ 8) : ∀ b, b ≤ 4 → ∀ i, -1048576 ≤ wW f l k d b i ∧ wW f l k d b i ≤ 1048576
  | 0, _, i => by show -1048576 ≤ (0 : Int) ∧ (0 : Int) ≤ 1048576; omega
  | b + 1, hb, i => by
    have ih := wW_le f l d hk b (by omega) i
    obtain ⟨_, _, s8, _⟩ := sB_fs b (by omega)
    unfold wW
    split
    · exact ih
    · unfold over
      split
      · exact fl_le s8 ((Lv.okY_iff _ _).2 (vF_bd (hk b))) (by omega)
      · exact ih
end Go.Proofs.YtfohinlldchdpaaGreatDoor.De
end

section
/- Contracts of dec's isSize, areLevels, takeLevels. -/
set_option maxRecDepth 100000
set_option linter.unusedVariables false
namespace Go.Proofs.YtfohinlldchdpaaGreatDoor.De
open Go.RowKit Go.Proofs.YtfohinlldchdpaaGreatDoor.Row Go.Proofs.YtfohinlldchdpaaGreatDoor.Rg

theorem isSize_yes (n : Nat) (w : World) (h : 10 ≤ n) (h2 : n ≤ 32) :
    Calls Tryz.prog 35 #[.int .i64 n] w fun e w' => e = .returned (.bool true) ∧ w = w' := by
  go_enter Tryz.func35, Tryz.ntmps35
  go_wp2
  go_ret
  exact ⟨ret_bool (decide_eq_true (by omega)), rfl⟩
theorem isSize_no (n : Nat) (w : World) (h : ¬ (10 ≤ n ∧ n ≤ 32)) :
    Calls Tryz.prog 35 #[.int .i64 n] w fun e w' => e = .returned (.bool false) ∧ w = w' := by
  by_cases h1 : (10 : Int) ≤ n
  · have h2 : decide ((n : Int) ≤ 32) = false := by simp; omega
    clear h
    go_enter Tryz.func35, Tryz.ntmps35
    go_wp2
    go_ret
    exact ⟨rfl, rfl⟩
  · clear h
    go_enter Tryz.func35, Tryz.ntmps35
    go_wp2
    go_ret
    exact ⟨rfl, rfl⟩

theorem areLevels_yes (T : Array Value) (L : Nat → Int) (w : World) (hT : IsRow 4 L T) (h : Sp.okL L) :
    Calls Tryz.prog 82 #[.agg T] w fun e w' => e = .returned (.bool true) ∧ Below w.heap.size w w' := by
  have HC := Lib.hid (hT.cell (At.new w T 23))
  have HM := Lib.hid (Sp.min_as w.heap.size L (w.alloc (.cells T 23)) HC.out)
  have HX := Lib.hid (Sp.max_as w.heap.size L (w.alloc (.cells T 23)) HC.out)
  have HL := Lib.hid h
  clear hT h
  go_enter Tryz.func82, Tryz.ntmps82
  go_wp2_with fail
  refine HM.out.mono ?_
  rintro e w1 ⟨⟨m, rfl, hm⟩, rfl⟩
  have m0 : 0 ≤ m := by
    obtain ⟨_, i, hi, e⟩ := hm
    rw [← e]; exact (HL.out i hi).1
  clear hm
  go_wp2_with fail
  refine HX.out.mono ?_
  rintro e w1 ⟨⟨x, rfl, hx⟩, rfl⟩
  have x0 : x ≤ 20 := by
    obtain ⟨_, i, hi, e⟩ := hx
    rw [← e]; exact (HL.out i hi).2
  clear hx
  go_wp2_with fail
  go_ret
  exact ⟨rfl, (Below.refl _ _).alloc (Nat.le_refl _) _⟩

theorem areLevels_no (T : Array Value) (L : Nat → Int) (w : World) (hT : IsRow 4 L T) (h : ¬ Sp.okL L) :
    Calls Tryz.prog 82 #[.agg T] w fun e w' => e = .returned (.bool false) ∧ Below w.heap.size w w' := by
  have HC := Lib.hid (hT.cell (At.new w T 23))
  have HM := Lib.hid (Sp.min_as w.heap.size L (w.alloc (.cells T 23)) HC.out)
  have HX := Lib.hid (Sp.max_as w.heap.size L (w.alloc (.cells T 23)) HC.out)
  have HL := Lib.hid h
  clear hT h
  go_enter Tryz.func82, Tryz.ntmps82
  go_wp2_with fail
  refine HM.out.mono ?_
  rintro e w1 ⟨⟨m, rfl, hm⟩, rfl⟩
  have HM1 := Lib.hid hm
  clear hm
  by_cases m0 : m < 0
  · go_wp2_with fail
    go_ret
    exact ⟨rfl, (Below.refl _ _).alloc (Nat.le_refl _) _⟩
  · go_wp2_with fail
    refine HX.out.mono ?_
    rintro e w1 ⟨⟨x, rfl, hx⟩, rfl⟩
    have x0 : 20 < x := by
      by_cases c : 20 < x
      · exact c
      · exact absurd (fun i hi => ⟨by have := HM1.out.1 i hi; omega, by have := hx.1 i hi; omega⟩) HL.out
    clear hx
    go_wp2_with fail
    go_ret
    exact ⟨ret_bool (decide_eq_false (by omega)), (Below.refl _ _).alloc (Nat.le_refl _) _⟩

theorem DecIs.mono {w : World} {b : Nat} {T U : Nat → Prop} {s : List UInt8} {d : Dt} (h : DecIs w b T s d) (hT : ∀ k, T k → U k) : DecIs w b U s d := by
  obtain ⟨h1, tb, h2, h3, h4⟩ := h
  exact ⟨hT _ h1, tb, h2, hT _ h3, h4⟩

theorem run_min20 (x u : Int) (h : min x 20 = u) (w : World) :
    (Builtin.min_ #[3, 3] 3 #[.int .i64 x, .int .i64 20]).run Tryz.prog w = .ok (.int .i64 u) w := by
  have e : (if 20 < x then 20 else x) = u := by rw [← h]; split <;> omega
  rw [← e]
  simp [Builtin.min_, Builtin.min2]
theorem run_max00 (x u : Int) (h : max 0 x = u) (w : World) :
    (Builtin.max_ #[3, 3] 3 #[.int .i64 0, .int .i64 x]).run Tryz.prog w = .ok (.int .i64 u) w := by
  have e : (if 0 < x then x else 0) = u := by rw [← h]; split <;> omega
  rw [← e]
  simp [Builtin.max_, Builtin.max2]

/-- The levels where so many are taken. -/
def mL (f : Nat → Nat) (L : Nat → Int) (k i : Nat) : Int := if i < k then lB f L i else L i
theorem mL_at (f : Nat → Nat) (L : Nat → Int) (k : Nat) : mL f L k k = L k := by unfold mL; rw [if_neg (by omega)]
theorem mL_next (f : Nat → Nat) (L : Nat → Int) (k i : Nat) : (if i = k then lB f L k else mL f L k i) = mL f L (k + 1) i := by
  unfold mL
  by_cases c : i = k
  · rw [if_pos c, if_pos (by omega), c]
  · rw [if_neg c]
    by_cases c2 : i < k
    · rw [if_pos c2, if_pos (by omega)]
    · rw [if_neg c2, if_neg (by omega)]
/-- What stands while levels are taken. -/
def TlS (w : World) (b : Nat) (O : Nat → Prop) (s : List UInt8) (d : Dt) (R Z : Array Value) (w' : World) : Prop :=
  Fr O w w' ∧ DecIs w' b O s d ∧ At w' w.heap.size R 23 ∧ At w' (w.heap.size + 1) Z 23 ∧ ∀ k, O k → k < w.heap.size
theorem TlS.start {w : World} {b : Nat} {O : Nat → Prop} {s : List UInt8} {d : Dt} (R Z : Array Value) (h : DecIs w b O s d) (hO : ∀ k, O k → k < w.heap.size) :
    TlS w b O s d R Z ((w.alloc (.cells R 23)).alloc (.cells Z 23)) := by
  have h1 := At.new (w.alloc (.cells R 23)) Z 23
  rw [World.size_alloc] at h1
  have hf : Fr (fun _ => False) w ((w.alloc (.cells R 23)).alloc (.cells Z 23)) := ((Fr.refl _ _).alloc _).alloc _
  exact ⟨hf.mono fun _ _ h => h.elim, h.fr hf fun _ _ h => h, (At.new w R 23).alloc _, h1, hO⟩
theorem TlS.took {w w1 w2 : World} {b : Nat} {O : Nat → Prop} {s : List UInt8} {d d' : Dt} {R Z : Array Value} (h : TlS w b O s d R Z w1) (hD : DecIs w2 b O s d') (hF : Fr O w1 w2) : TlS w b O s d' R Z w2 := by
  obtain ⟨h1, h2, h3, h4, h5⟩ := h
  exact ⟨h1.same hF, hD, h3.fr hF fun c => by have := h5 _ c; omega, h4.fr hF fun c => by have := h5 _ c; omega, h5⟩
theorem TlS.put {w w1 : World} {b : Nat} {O : Nat → Prop} {s : List UInt8} {d : Dt} {R Z : Array Value} (h : TlS w b O s d R Z w1) (i : Nat) (v : Value) : TlS w b O s d (R.setIfInBounds i v) Z (w1.setCell ⟨w.heap.size, i, none⟩ v) := by
  obtain ⟨h1, h2, h3, h4, h5⟩ := h
  refine ⟨h1.setCell (.inr (Nat.le_refl _)) _, ?_, h3.setCell, h4.setCell_other (by dsimp only; omega), h5⟩
  exact h2.fr (U := Just w.heap.size) ((Fr.refl _ _).setCell (p := ⟨w.heap.size, i, none⟩) (.inl (Just.self _)) _) fun k hk e => by have := h5 k hk; rw [just_iff] at e; omega

set_option maxHeartbeats 1000000 in
theorem takeLevels_as (T : Array Value) (L : Nat → Int) (b : Nat) (O : Nat → Prop) (s : List UInt8) (w : World) (hT : IsRow 4 L T) (hL : Sp.okL L) (h : DecIs w b O s (dL (byteF s) 0)) (hO : ∀ k, O k → k < w.heap.size) (hs : s.length ≤ 1000) :
    Calls Tryz.prog 84 #[.agg T, .pointer (some ⟨b, 0, none⟩)] w fun e w' => (∃ R, e = .returned (.agg R) ∧ IsRow 4 (lB (byteF s) L) R) ∧ DecIs w' b O s (dL (byteF s) 4) ∧ Fr O w w' := by
  obtain ⟨Z, hZ, hZ0, hz, hi⟩ := Sp.zero4
  have HS := Lib.hid (TlS.start T Z h hO)
  have HT := Lib.hid (hT.ext (g := mL (byteF s) L 0) fun i _ => (show L i = mL (byteF s) L 0 i by unfold mL; rw [if_neg (by omega)]))
  have HI := Lib.hid hi
  have HZ := Lib.hid hZ.1
  have HL := Lib.hid hL
  clear hT hL h hO hi hZ hZ0
  go_enter Tryz.func84, Tryz.ntmps84
  go_wp2_with fail
  go_loopw [8] (fun i w' => ∃ (k : Nat) (R : Array Value), k ≤ 4 ∧ i = .int .i64 k ∧ Hid (IsRow 4 (mL (byteF s) L k) R) ∧ TlS w b O s (dL (byteF s) k) R Z w') (fun i _ => 4 - (intOf i).toNat)
  case atStart => exact ⟨0, T, by omega, rfl, HT, HS.out⟩
  case round =>
    obtain ⟨k, R, hk, rfl, HR, hS⟩ := hrel
    clear HS HT
    have HS := Lib.hid hS
    clear hS
    by_cases hlt : k < 4
    · have k1 : (k : Int) < 4 := by omega
      obtain ⟨d1, d2⟩ := dL_ok (byteF s) k
      obtain ⟨v1, v2⟩ := Lp.lv_in (dL (byteF s) k)
      have HN := Lib.hid (show (dL (byteF s) k).take (byteF s) (Lp.cl (Lp.lv (dL (byteF s) k))) = dL (byteF s) (k + 1) from rfl)
      obtain ⟨x1, x2⟩ := HL.out k hlt
      have HB := Lib.hid (show lB (byteF s) L k = max 0 (min (L k + Lp.lv (dL (byteF s) k)) 20) from rfl)
      have c0 := HR.out.2.2 k hlt
      rw [mL_at] at c0
      obtain ⟨x, hx⟩ : ∃ x, L k = x := ⟨_, rfl⟩
      obtain ⟨v, hv⟩ : ∃ v, Lp.lv (dL (byteF s) k) = v := ⟨_, rfl⟩
      rw [hx] at x1 x2 HB c0
      rw [hv] at v1 v2 HB HN
      obtain ⟨m, hm⟩ : ∃ m, min (x + v) 20 = m := ⟨_, rfl⟩
      obtain ⟨u, hu⟩ : ∃ u, max 0 m = u := ⟨_, rfl⟩
      rw [hm, hu] at HB
      have rm := run_min20 (x + v) m hm
      have ru := run_max00 m u hu
      have HV := Lib.hid hv
      clear hx hv hm hu
      go_wp2_with fail
      refine (Lp.ltake_as _ b O s _ v HS.out.2.1 d1 HV.out (by omega) (by omega)).mono ?_
      rintro e w1 ⟨rfl, h1, h2⟩
      rw [HN.out] at h1
      have HS1 := Lib.hid (HS.out.took h1 h2)
      have c1 : w1.cell? ⟨w.heap.size, k, none⟩ = some (.int .i64 x) := by rw [HS1.out.2.2.1.cell]; exact c0
      have f1 := HS1.out.2.2.1.frozen k
      clear h1 h2 HS d1 d2
      go_wp2_with fail
      go_roundw
      case rel => exact ⟨k + 1, _, by omega, by go_num, Lib.hid ((HR.out.set u hlt).ext fun i _ => by rw [← HB.out]; exact mL_next _ _ _ _), HS1.out.put k _⟩
      case measure => simp [intOf]; omega
    · obtain rfl : k = 4 := by omega
      have HI4 := Lib.hid (HI.out R HR.out.1)
      clear hk hlt
      go_wp2_with (first
        | refine wpList_load_row rfl 23 _ rfl w.heap.size rfl _ _ (0, 0) _ HS.out.2.2.1 Tryz.underlying23 rfl HI4.out ?_
        | refine wpList_store_row rfl 23 _ _ rfl (w.heap.size + 1) R rfl rfl _ _ HS.out.2.2.2.1 HI4.out (by rw [HZ.out, HR.out.1]) HR.out.2.1 ?_)
      have HE : TlS w b O s (dL (byteF s) 4) R R (wr.setRow (w.heap.size + 1) R) := by
        obtain ⟨h1, h2, h3, h4, h5⟩ := HS.out
        refine ⟨h1.setRow (.inr (by omega)) _, ?_, h3.setRow_other (by omega), h4.setRow, h5⟩
        exact h2.fr (U := Just (w.heap.size + 1)) ((Fr.refl _ _).setRow (.inl (Just.self _)) _) fun k hk e => by have := h5 k hk; rw [just_iff] at e; omega
      exact bodyPost_ret (v := .agg R) (results_cell_row rfl _ _ (w.heap.size + 1) 23 R (0, 0) _ rfl HE.2.2.2.1 Tryz.underlying23 rfl HI4.out) rfl ⟨⟨R, rfl, HR.out.ext fun i hi => by unfold mL; rw [if_pos hi]⟩, HE.2.1, HE.1⟩
end Go.Proofs.YtfohinlldchdpaaGreatDoor.De
end

section
/- The encoder's packet, as mathematics: its cells, that its bytes have room, and what a decoder meets. -/
set_option maxRecDepth 100000
set_option linter.unusedVariables false
namespace Go.Proofs.YtfohinlldchdpaaGreatDoor.En
open Go.RowKit Go.Proofs.YtfohinlldchdpaaGreatDoor.Row Go.Proofs.YtfohinlldchdpaaGreatDoor.Rg Go.Proofs.YtfohinlldchdpaaGreatDoor.De

/-- The levels' cells: how far each is from the one ahead. -/
def cL (L l : Nat → Int) : Nat → List Cl
  | 0 => []
  | b + 1 => cL L l b ++ [Lp.cl (l b - L b)]
theorem df_bd {L l : Nat → Int} (hL : Sp.okL L) (hl : Sp.okL l) {b : Nat} (hb : b < 4) : -24 ≤ l b - L b ∧ l b - L b ≤ 24 := by
  have := hL b hb
  have := hl b hb
  omega
theorem cL_ok {L l : Nat → Int} (hL : Sp.okL L) (hl : Sp.okL l) : ∀ b, b ≤ 4 → ∀ C ∈ cL L l b, C.ok
  | 0, _, C, h => by cases h
  | b + 1, hb, C, h => by
    rcases List.mem_append.1 h with h | h
    · exact cL_ok hL hl b (by omega) C h
    · obtain rfl := List.mem_singleton.1 h
      have := df_bd hL hl (b := b) (by omega)
      exact Lp.cl_ok this.1 this.2
def xL (L l : Nat → Int) (b : Nat) : St := St.new.run (cL L l b)
theorem xL_next (L l : Nat → Int) (b : Nat) : xL L l (b + 1) = (xL L l b).put (Lp.cl (l b - L b)) := run_snoc _ _ _
theorem xL_ok {L l : Nat → Int} (hL : Sp.okL L) (hl : Sp.okL l) (b : Nat) (hb : b ≤ 4) : (xL L l b).ok := run_ok new_ok (cL_ok hL hl b hb)
theorem xL_g {L l : Nat → Int} (hL : Sp.okL L) (hl : Sp.okL l) : ∀ b, b ≤ 4 → (xL L l b).g ≤ 2 * b
  | 0, _ => Nat.le_refl _
  | b + 1, hb => by
    rw [xL_next]
    have h1 := xL_g hL hl b (by omega)
    have h2 := df_bd hL hl (b := b) (by omega)
    have h3 := put_g (xL_ok hL hl b (by omega)) (Lp.cl_ok h2.1 h2.2)
    omega
theorem xL_fit {L l : Nat → Int} (hL : Sp.okL L) (hl : Sp.okL l) : ∀ b, b ≤ 4 → Fit (xL L l b) (128 * b) (1 + 12 * b)
  | 0, _ => fit_new
  | b + 1, hb => by
    rw [xL_next]
    have h2 := df_bd hL hl (b := b) (by omega)
    have h3 := Lp.cl_bd h2
    have hx := xL_ok hL hl b (by omega)
    have h4 := fit_put (e := 128) (j := 12) hx (Lp.cl_ok h2.1 h2.2) (xL_fit hL hl b (by omega)) (by show 32768 ≤ (Lp.cl (l b - L b)).w * 2 ^ 12; omega) (by show 32768 * 65536 ≤ _; have := hx.1; omega) (by omega)
    exact h4

/-- The packet's room, how many pulses each band has, what is searched, the pulses found, and their number. -/
def rmE (L l : Nat → Int) (n : Nat) : Int := Sp.rm n (xL L l 4).used
def kE (L l : Nat → Int) (n : Nat) : Nat → Nat := Sp.given l (rmE L l n)
def wC (W : Nat → Int) (b i : Nat) : Int := max (-1048576) (min (W (Lv.fs b + i)) 1048576)
def yE (W : Nat → Int) (b k : Nat) : Nat → Int := Sh.fS (wC W b) (Sp.sB b) k
def iE (W : Nat → Int) (b k : Nat) : Nat := Ve.num (yE W b k) (Sp.sB b) k
def bC (W : Nat → Int) (k : Nat → Nat) (b : Nat) : List Cl := if k b = 0 then [] else bitsC 3 (iE W b (k b)) (Sp.P b (k b))
def cW (W : Nat → Int) (k : Nat → Nat) : Nat → List Cl
  | 0 => []
  | b + 1 => cW W k b ++ bC W k b
def xW (x : St) (W : Nat → Int) (k : Nat → Nat) (b : Nat) : St := x.run (cW W k b)
theorem xW_next (x : St) (W : Nat → Int) (k : Nat → Nat) (b : Nat) : xW x W k (b + 1) = (xW x W k b).run (bC W k b) := run_append _ _ _
theorem bC_ok (W : Nat → Int) (k : Nat → Nat) (b : Nat) : ∀ C ∈ bC W k b, C.ok := by
  intro C h
  unfold bC at h
  split at h
  · cases h
  · exact bitsC_ok _ _ _ C h
theorem cW_ok (W : Nat → Int) (k : Nat → Nat) : ∀ b, ∀ C ∈ cW W k b, C.ok
  | 0, C, h => by cases h
  | b + 1, C, h => by
    rcases List.mem_append.1 h with h | h
    · exact cW_ok W k b C h
    · exact bC_ok W k b C h
theorem xW_ok {x : St} (hx : x.ok) (W : Nat → Int) (k : Nat → Nat) (b : Nat) : (xW x W k b).ok := run_ok hx (cW_ok W k b)
theorem bC_len (W : Nat → Int) (k : Nat → Nat) (b : Nat) : (bC W k b).length ≤ 3 := by
  unfold bC
  split
  · exact Nat.zero_le _
  · exact bitsC_len _ _ _
theorem xW_g {x : St} (hx : x.ok) (W : Nat → Int) (k : Nat → Nat) : ∀ b, (xW x W k b).g ≤ x.g + 6 * b
  | 0 => Nat.le_refl _
  | b + 1 => by
    rw [xW_next]
    have h1 := xW_g hx W k b
    have h2 := run_g_le (xW_ok hx W k b) (bC_ok W k b)
    have h3 := bC_len W k b
    omega
/-- The bits of the bands. -/
def pb (k : Nat → Nat) : Nat → Nat
  | 0 => 0
  | b + 1 => pb k b + Sp.P b (k b)
theorem fit_mono {x : St} {c c' K : Nat} (h : Fit x c K) (hc : c ≤ c') : Fit x c' K := by
  unfold Fit at *
  exact Nat.le_trans (Nat.mul_le_mul_left _ (by omega)) h
theorem xW_fit {x : St} {c K : Nat} (hx : x.ok) (h : Fit x c K) (hc : c ≤ 60000) (W : Nat → Int) {k : Nat → Nat} (hk : ∀ b, k b ≤ 8) : ∀ b, b ≤ 4 → Fit (xW x W k b) (c + 3 * b) (K + pb k b)
  | 0, _ => h
  | b + 1, hb => by
    rw [xW_next]
    have ih := xW_fit hx h hc W hk b (by omega)
    show Fit _ _ (K + (pb k b + Sp.P b (k b)))
    unfold bC
    split
    · rename_i h0
      have h2 := fit_mono ih (show c + 3 * b ≤ c + 3 * (b + 1) by omega)
      rw [h0, Sp.P_zero (by omega), Nat.add_zero]
      exact h2
    · have := P_24 b (by omega) (k b) (hk b)
      have h2 := fit_bits 3 (iE W b (k b)) (Sp.P b (k b)) (xW_ok hx W k b) ih (by omega) (by omega)
      rw [show c + 3 * b + 3 = c + 3 * (b + 1) by omega, show K + pb k b + Sp.P b (k b) = K + (pb k b + Sp.P b (k b)) by omega] at h2
      exact h2

theorem S_eq (f : Nat → Nat) : ∀ n, Ve.S f n = Sh.S f n
  | 0 => rfl
  | n + 1 => by
    show Ve.S f n + f n = Sh.S f n + f n
    rw [S_eq f n]
theorem yE_sm (W : Nat → Int) {b : Nat} (hb : b < 4) (k : Nat) : Ve.sm (yE W b k) (Sp.sB b) = k := by
  unfold Ve.sm
  rw [S_eq]
  have h := Sh.y_sum (u := Sh.sz (wC W b)) (n := Sp.sB b) (by have := sB_fs b hb; omega) k
  rw [← h]
  exact Sh.S_congr fun i _ => by rw [h]; exact Sh.f_abs _ _ _ _
theorem iE_lt (W : Nat → Int) {b : Nat} (hb : b < 4) (k : Nat) : iE W b k < Ve.V (Sp.sB b) k := Ve.num_lt (yE_sm W hb k)
theorem iE_bits (W : Nat → Int) {b : Nat} (hb : b < 4) {k : Nat} (hk : k ≤ 8) : iE W b k < 2 ^ Sp.P b k := by
  have h := iE_lt W hb k
  have h8 := (sB_fs b hb).2.2.1
  unfold Sp.P
  rw [Ve.cI_nat h8 hk]
  have hV := Ve.V_le h8 hk
  have := (bl_spec 64 (Ve.V (Sp.sB b) k - 1) (Nat.le_refl _) (by omega)).1
  omega

/-- The whole packet. -/
def xE (L l W : Nat → Int) (n : Nat) : St := xW (xL L l 4) W (kE L l n) 4
def pkE (L l W : Nat → Int) (n : Nat) : List UInt8 := (xE L l W n).text n
theorem rm_bd (n : Nat) (u : Int) : 0 ≤ Sp.rm n u := by unfold Sp.rm; split <;> omega
theorem kE_le (L l : Nat → Int) (n : Nat) (b : Nat) : kE L l n b ≤ 8 := by
  obtain ⟨left, h⟩ := Sp.given_fin l (bits := rmE L l n) (rm_bd _ _)
  exact h.few b
theorem xE_ok {L l : Nat → Int} (hL : Sp.okL L) (hl : Sp.okL l) (W : Nat → Int) (n : Nat) : (xE L l W n).ok := xW_ok (xL_ok hL hl 4 (Nat.le_refl _)) _ _ _
theorem xE_room {L l : Nat → Int} (hL : Sp.okL L) (hl : Sp.okL l) (W : Nat → Int) {n : Nat} (h1 : 10 ≤ n) (h2 : n ≤ 32) : 4 + (xE L l W n).g ≤ n := by
  have hx4 := xL_ok hL hl 4 (Nat.le_refl _)
  have hu4 := fit_used hx4 (xL_fit hL hl 4 (Nat.le_refl _)) (by omega)
  have hu0 := used_nonneg hx4
  obtain ⟨u, hu⟩ : ∃ u : Nat, (xL L l 4).used = u := ⟨(xL L l 4).used.toNat, by omega⟩
  have hf := xW_fit hx4 (fit_of hx4 hu) (by omega) W (kE_le L l n) 4 (Nat.le_refl _)
  have hxE := xE_ok hL hl W n
  have hus := fit_used hxE hf (by omega)
  obtain ⟨left, hfin⟩ := Sp.given_fin l (bits := rmE L l n) (rm_bd _ _)
  have hbill : (pb (kE L l n) 4 : Int) + left = rmE L l n := by
    have := hfin.bill
    show (((0 + Sp.P 0 (kE L l n 0) + Sp.P 1 (kE L l n 1) + Sp.P 2 (kE L l n 2) + Sp.P 3 (kE L l n 3) : Nat) : Int)) + left = _
    unfold kE
    omega
  have hlo := hfin.lo
  have hrm : rmE L l n = 0 ∨ rmE L l n = 8 * n - 40 - u := by
    unfold rmE Sp.rm
    rw [hu]
    split
    · exact .inr rfl
    · exact .inl rfl
  rw [hu] at hu4
  have hd : (xE L l W n).used = 8 * ((xE L l W n).g : Int) + 32 - (Lib.bitLen (xE L l W n).r : Nat) := rfl
  have hb : Lib.bitLen (xE L l W n).r ≤ 32 := by
    have := (bl_spec 32 (xE L l W n).r (by omega) (by have := hxE.2.1; omega)).2.1
    exact this
  rcases hrm with h | h <;> omega
theorem pkE_fits {L l : Nat → Int} (hL : Sp.okL L) (hl : Sp.okL l) (W : Nat → Int) {n : Nat} (h1 : 10 ≤ n) (h2 : n ≤ 32) : (xE L l W n).trim.length ≤ n :=
  Nat.le_trans (trim_len _) (xE_room hL hl W h1 h2)
theorem pkE_length {L l : Nat → Int} (hL : Sp.okL L) (hl : Sp.okL l) (W : Nat → Int) {n : Nat} (h1 : 10 ≤ n) (h2 : n ≤ 32) : (pkE L l W n).length = n := text_length (pkE_fits hL hl W h1 h2)

/-! What a decoder meets. -/
theorem giv_ext {L M : Nat → Int} (h : ∀ b, b < 4 → L b = M b) : ∀ (n : Nat) (K : Nat → Nat) (left : Int), Sp.giv L n K left = Sp.giv M n K left
  | 0, _, _ => rfl
  | n + 1, K, left => by
    have e : Sp.bst L K left = Sp.bst M K left := by
      unfold Sp.bst
      refine Sp.bs_congr (Nat.le_refl _) (fun b hb => ?_) fun x y hx hy => ?_
      · unfold Sp.can; rw [h b hb]
      · unfold Sp.ltW Sp.wI; rw [h x hx, h y hy]
    show (if _ then _ else _) = (if _ then _ else _)
    rw [e]
    split
    · exact giv_ext h n _ _
    · rfl
theorem given_ext {L M : Nat → Int} (h : ∀ b, b < 4 → L b = M b) (bits : Int) : Sp.given L bits = Sp.given M bits := giv_ext h _ _ _

section
variable {L l W : Nat → Int} {n : Nat}
theorem in_all (hL : Sp.okL L) (hl : Sp.okL l) : In (xE L l W n).L (xE L l W n).g (xE L l W n) := by
  have e : xE L l W n = St.new.run (cL L l 4 ++ cW W (kE L l n) 4) := (run_append _ _ _).symm
  have hok : ∀ C ∈ cL L l 4 ++ cW W (kE L l n) 4, C.ok := fun C h => by
    rcases List.mem_append.1 h with h | h
    · exact cL_ok hL hl 4 (Nat.le_refl _) C h
    · exact cW_ok _ _ _ C h
  have := in_take hok (cL L l 4 ++ cW W (kE L l n) 4).length
  rw [List.take_length, ← e] at this
  exact this
theorem in_W (hL : Sp.okL L) (hl : Sp.okL l) : ∀ d, d ≤ 4 → In (xE L l W n).L (xE L l W n).g (xW (xL L l 4) W (kE L l n) (4 - d))
  | 0, _ => in_all hL hl
  | d + 1, hd => by
    have ih := in_W hL hl d (by omega)
    rw [show 4 - d = (4 - (d + 1)) + 1 by omega, xW_next] at ih
    exact in_run (xW_ok (xL_ok hL hl 4 (Nat.le_refl _)) _ _ _) (bC_ok _ _ _) ih
theorem in_L (hL : Sp.okL L) (hl : Sp.okL l) : ∀ d, d ≤ 4 → In (xE L l W n).L (xE L l W n).g (xL L l (4 - d))
  | 0, _ => in_W hL hl 4 (Nat.le_refl _)
  | d + 1, hd => by
    have ih := in_L hL hl d (by omega)
    rw [show 4 - d = (4 - (d + 1)) + 1 by omega, xL_next] at ih
    have h2 := df_bd hL hl (b := 4 - (d + 1)) (by omega)
    exact in_back (xL_ok hL hl _ (by omega)) (Lp.cl_ok h2.1 h2.2) ih
/-- The packet's digits. -/
def fE (L l W : Nat → Int) (n : Nat) : Nat → Nat := digit (xE L l W n).L (xE L l W n).g
theorem fE_is : byteF (pkE L l W n) = fE L l W n := text_digit _ _
def dE (L l W : Nat → Int) (n : Nat) (x : St) : Dt := dtOf (xE L l W n).L (xE L l W n).g x
theorem lv_met (hL : Sp.okL L) (hl : Sp.okL l) {b : Nat} (hb : b < 4) : Lp.lv (dE L l W n (xL L l b)) = l b - L b ∧ (dE L l W n (xL L l b)).take (fE L l W n) (Lp.cl (l b - L b)) = dE L l W n (xL L l (b + 1)) := by
  have h2 := df_bd hL hl (b := b) hb
  have hC := Lp.cl_ok h2.1 h2.2
  have hi := in_L (W := W) (n := n) hL hl (3 - b) (by omega)
  rw [show 4 - (3 - b) = b + 1 by omega, xL_next] at hi
  obtain ⟨q1, q2, q3⟩ := in_step (xL_ok hL hl b (by omega)) hC hi
  refine ⟨?_, by rw [xL_next]; exact q3⟩
  have e := Lp.fI_eq (i := Lp.iV (l b - L b)) (Lp.iV_lt.2 h2) q1 q2
  show Lp.vI (Lp.fI ((dE L l W n (xL L l b)).place 32768)) = _
  have e' : Lp.fI ((dE L l W n (xL L l b)).place 32768) = Lp.iV (l b - L b) := e
  rw [e', Lp.vI_iV]
theorem dL_met (hL : Sp.okL L) (hl : Sp.okL l) : ∀ b, b ≤ 4 → dL (fE L l W n) b = dE L l W n (xL L l b)
  | 0, _ => by
    have := (xE_ok hL hl W n).2.2
    exact dt_first (by have := (xE_ok hL hl W n).1; omega)
  | b + 1, hb => by
    obtain ⟨h1, h2⟩ := lv_met (W := W) (n := n) hL hl (b := b) (by omega)
    show (dL (fE L l W n) b).take (fE L l W n) (Lp.cl (Lp.lv (dL (fE L l W n) b))) = _
    rw [dL_met hL hl b (by omega), h1, h2]
theorem lB_met (hL : Sp.okL L) (hl : Sp.okL l) {b : Nat} (hb : b < 4) : lB (fE L l W n) L b = l b := by
  unfold lB
  rw [dL_met hL hl b (by omega), (lv_met hL hl hb).1]
  unfold br
  have := hl b hb
  omega
theorem rm_met (hL : Sp.okL L) (hl : Sp.okL l) : rmS (fE L l W n) n = rmE L l n := by
  unfold rmS rmE
  rw [dL_met hL hl 4 (Nat.le_refl _)]
  unfold dE
  rw [dtOf_used]
theorem kS_met (hL : Sp.okL L) (hl : Sp.okL l) : kS (fE L l W n) L n = kE L l n := by
  unfold kS kE
  rw [rm_met hL hl]
  exact given_ext (fun b hb => lB_met hL hl hb) _
theorem dW_met (hL : Sp.okL L) (hl : Sp.okL l) : ∀ b, b ≤ 4 → dW (fE L l W n) (kE L l n) (dE L l W n (xL L l 4)) b = dE L l W n (xW (xL L l 4) W (kE L l n) b)
  | 0, _ => rfl
  | b + 1, hb => by
    have ih := dW_met hL hl b (by omega)
    unfold dW
    split
    · rename_i h0
      rw [ih, xW_next]
      unfold bC
      rw [if_pos h0]
      rfl
    · rename_i h0
      have hi := in_W (W := W) (n := n) hL hl (3 - b) (by omega)
      rw [show 4 - (3 - b) = b + 1 by omega, xW_next] at hi
      unfold bC at hi
      rw [if_neg h0] at hi
      have h24 := P_24 b (by omega) (kE L l n b) (kE_le _ _ _ _)
      have hm := bits_met 3 (Sp.P b (kE L l n b)) (iE W b (kE L l n b)) (xW_ok (xL_ok hL hl 4 (Nat.le_refl _)) _ _ _) (by omega) (iE_bits W (by omega) (kE_le _ _ _ _)) hi
      rw [ih]
      unfold dE fE
      rw [hm, xW_next]
      unfold bC
      rw [if_neg h0]
theorem nW_met (hL : Sp.okL L) (hl : Sp.okL l) {b : Nat} (hb : b < 4) (h0 : kE L l n b ≠ 0) : nW (fE L l W n) (kE L l n) (dE L l W n (xL L l 4)) b = iE W b (kE L l n b) := by
  have hi := in_W (W := W) (n := n) hL hl (3 - b) (by omega)
  rw [show 4 - (3 - b) = b + 1 by omega, xW_next] at hi
  unfold bC at hi
  rw [if_neg h0] at hi
  have h24 := P_24 b (by omega) (kE L l n b) (kE_le _ _ _ _)
  have hm := bits_met 3 (Sp.P b (kE L l n b)) (iE W b (kE L l n b)) (xW_ok (xL_ok hL hl 4 (Nat.le_refl _)) _ _ _) (by omega) (iE_bits W (by omega) (kE_le _ _ _ _)) hi
  unfold nW
  rw [dW_met hL hl b (by omega)]
  unfold dE fE
  rw [hm]
  exact Nat.mod_eq_of_lt (iE_lt W hb _)
theorem yW_met (hL : Sp.okL L) (hl : Sp.okL l) {b : Nat} (hb : b < 4) (h0 : kE L l n b ≠ 0) : ∀ j, j < Sp.sB b → yE W b (kE L l n b) j = yW (fE L l W n) (kE L l n) (dE L l W n (xL L l 4)) b j := by
  unfold yW
  rw [nW_met hL hl hb h0]
  exact (vF_is (yE_sm W hb _) rfl).2
end
/-- No levels, no pulses. -/
theorem kE_none {L l : Nat → Int} {n b : Nat} (h : l b = 0) : kE L l n b = 0 := by
  obtain ⟨left, hf⟩ := Sp.given_fin l (bits := rmE L l n) (rm_bd _ _)
  exact hf.none b h
end Go.Proofs.YtfohinlldchdpaaGreatDoor.En
end
