/- Texts of the walk, one behind the other. -/
import Derived.Test.YtfohinlldchdpaaGreatDoorEncPlaysM19
import Derived.Test.YtfohinlldchdpaaGreatDoorEncPlaysM18
import Derived.Test.YtfohinlldchdpaaGreatDoorEncPlaysM23
import Derived.Test.YtfohinlldchdpaaGreatDoorEncPlaysM10
import Derived.Test.YtfohinlldchdpaaGreatDoorEncPlaysM2
import Derived.Test.YtfohinlldchdpaaGreatDoorEncPlaysM7
import Derived.Test.YtfohinlldchdpaaGreatDoorEncPlaysM9
import Derived.Laws.EntriesVeiled
import Derived.Test.YtfohinlldchdpaaGreatDoorEncPlaysM35
import Derived.Test.YtfohinlldchdpaaGreatDoorEncPlaysM26
import Derived.Test.YtfohinlldchdpaaGreatDoorEncPlaysM1
import Derived.Test.YtfohinlldchdpaaGreatDoorEncPlaysM6

section
/- The mathematics of a packet: what is taken of its bytes: the levels, the room, the vectors, the waves. -/
set_option maxRecDepth 100000
set_option linter.unusedVariables false
namespace Go.Proofs.YtfohinlldchdpaaGreatDoor.De
open Go.RowKit Go.Proofs.YtfohinlldchdpaaGreatDoor.Row Go.Proofs.YtfohinlldchdpaaGreatDoor.Rg

/-- The decoder where so many levels are taken. -/
def dL (f : Nat → Nat) : Nat → Dt
  | 0 => Dt.new f
  | b + 1 => (dL f b).take f (Lp.cl (Lp.lv (dL f b)))
theorem dL_ok (f : Nat → Nat) : ∀ b, (dL f b).ok ∧ (dL f b).g ≤ 2 * b
  | 0 => ⟨new_dt f, Nat.le_refl _⟩
  | b + 1 => by
    obtain ⟨h1, h2⟩ := dL_ok f b
    have c := Lp.cl_ok (Lp.lv_in (dL f b)).1 (Lp.lv_in (dL f b)).2
    have g := take_g (f := f) h1 c
    exact ⟨take_dt h1 c, by show ((dL f b).take f (Lp.cl (Lp.lv (dL f b)))).g ≤ _; omega⟩
/-- A level is brought into 0 to 20. -/
def br (x : Int) : Int := max 0 (min x 20)
theorem br_bd (x : Int) : 0 ≤ br x ∧ br x ≤ 20 := by unfold br; omega
/-- The levels behind a packet. -/
def lB (f : Nat → Nat) (L : Nat → Int) (b : Nat) : Int := br (L b + Lp.lv (dL f b))
theorem lB_ok (f : Nat → Nat) (L : Nat → Int) : Sp.okL (lB f L) := fun i _ => br_bd _
/-- The room behind the levels. -/
def rmS (f : Nat → Nat) (n : Nat) : Int := Sp.rm n (dL f 4).used
theorem rmS_bd (f : Nat → Nat) (n : Nat) : 0 ≤ rmS f n ∧ rmS f n ≤ 1048576 := by
  unfold rmS Sp.rm
  split <;> omega
theorem dt_used_bd {d : Dt} (h : d.ok) (hg : d.g ≤ 1000) : 0 ≤ d.used ∧ d.used ≤ 8032 := by
  have h1 := (bl_lt (x := d.r) (k := 32) (by have := h.2.1; omega) (by omega)).2 (by have := h.2.1; omega)
  unfold Dt.used
  omega
/-- The pulses. -/
def kS (f : Nat → Nat) (L : Nat → Int) (n : Nat) : Nat → Nat := Sp.given (lB f L) (rmS f n)
theorem kS_le (f : Nat → Nat) (L : Nat → Int) (n b : Nat) : kS f L n b ≤ 8 := by
  obtain ⟨_, h⟩ := Sp.given_fin (lB f L) (rmS_bd f n).1
  exact h.few b

/-- The vector of n numbers with k pulses ahead of which i others stand. -/
noncomputable def vF (n k i : Nat) : Nat → Int := by
  classical
  exact if h : ∃ f : Nat → Int, Ve.sm f n = k ∧ Ve.num f n k = i then Classical.choose h else fun _ => 0
theorem vF_is {n k i : Nat} {f : Nat → Int} (h1 : Ve.sm f n = k) (h2 : Ve.num f n k = i) : Ve.sm (vF n k i) n = k ∧ ∀ j, j < n → f j = vF n k i j := by
  have h : ∃ f : Nat → Int, Ve.sm f n = k ∧ Ve.num f n k = i := ⟨f, h1, h2⟩
  have e : vF n k i = Classical.choose h := by unfold vF; rw [dif_pos h]
  obtain ⟨c1, c2⟩ := Classical.choose_spec h
  rw [e]
  exact ⟨c1, Ve.num_inj h1 c1 (h2.trans c2.symm)⟩
theorem sm_at {f : Nat → Int} {n j : Nat} (h : j < n) : (f j).natAbs ≤ Ve.sm f n := by
  have := Ve.sm_mono f (a := j + 1) (b := n) h
  rw [Ve.sm_next] at this
  omega
theorem vF_bd {n k i : Nat} (hk : k ≤ 8) : ∀ j, j < n → -8 ≤ vF n k i j ∧ vF n k i j ≤ 8 := fun j hj => by
  unfold vF
  split
  · rename_i h
    obtain ⟨c1, c2⟩ := Classical.choose_spec h
    have := sm_at (f := Classical.choose h) hj
    omega
  · dsimp only; omega

/-- How many bits a vector has: no more than may be taken at a time. -/
theorem P_24 : ∀ b, b < 4 → ∀ k, k ≤ 8 → Sp.P b k ≤ 24 := by decide +kernel
theorem V_pos : ∀ b, b < 4 → ∀ k, k ≤ 8 → 1 ≤ Ve.V (Sp.sB b) k := by decide +kernel
theorem sB_fs : ∀ b, b < 4 → Lv.fs b + Sp.sB b = Lv.fs (b + 1) ∧ 1 ≤ Sp.sB b ∧ Sp.sB b ≤ 8 ∧ Lv.fs (b + 1) ≤ 16 := by decide

/-- The decoder where the vectors of so many bands are taken. -/
def dW (f : Nat → Nat) (k : Nat → Nat) (d : Dt) : Nat → Dt
  | 0 => d
  | b + 1 => if k b = 0 then dW f k d b else (decB f 3 (Sp.P b (k b)) (dW f k d b)).2
theorem dW_ok (f : Nat → Nat) (k : Nat → Nat) {d : Dt} (h : d.ok) : ∀ b, (dW f k d b).ok ∧ (dW f k d b).g ≤ d.g + 6 * b
  | 0 => ⟨h, Nat.le_refl _⟩
  | b + 1 => by
    obtain ⟨h1, h2⟩ := dW_ok f k h b
    unfold dW
    split
    · exact ⟨h1, by omega⟩
    · obtain ⟨c1, c2⟩ := decB_ok (f := f) 3 (Sp.P b (k b)) h1
      exact ⟨c1, by omega⟩
/-- A band's vector's number. -/
def nW (f : Nat → Nat) (k : Nat → Nat) (d : Dt) (b : Nat) : Nat := (decB f 3 (Sp.P b (k b)) (dW f k d b)).1 % Ve.V (Sp.sB b) (k b)
noncomputable def yW (f : Nat → Nat) (k : Nat → Nat) (d : Dt) (b : Nat) : Nat → Int := vF (Sp.sB b) (k b) (nW f k d b)
/-- The waves where so many bands are laid. -/
noncomputable def wW (f : Nat → Nat) (l : Nat → Int) (k : Nat → Nat) (d : Dt) : Nat → Nat → Int
  | 0 => fun _ => 0
  | b + 1 => if k b = 0 then wW f l k d b else over (wW f l k d b) (Lv.fl (l b) (yW f k d b) (Sp.sB b)) (Lv.fs b) (Sp.sB b)

theorem okY_ext {y z : Nat → Int} {n : Nat} (h : ∀ j, j < n → y j = z j) : Lv.okY y n = Lv.okY z n := by
  rw [Bool.eq_iff_iff, Lv.okY_iff, Lv.okY_iff]
  exact ⟨fun c i hi => h i hi ▸ c i hi, fun c i hi => (h i hi).symm ▸ c i hi⟩
theorem cnt_ext {y z : Nat → Int} {n : Nat} (h : ∀ j, j < n → y j = z j) : Lv.cnt y n = Lv.cnt z n := by
  unfold Lv.cnt
  rw [okY_ext h, Lv.sm_ext _ (fun i => Lv.uns (z i)) n fun i hi => by rw [h i hi]]
theorem fl_ext {l : Int} {y z : Nat → Int} {n : Nat} (h : ∀ j, j < n → y j = z j) (i : Nat) (hi : i < n) : Lv.fl l y n i = Lv.fl l z n i := by
  unfold Lv.fl
  rw [cnt_ext h, h i hi]
theorem over_ext {f g h : Nat → Int} {l n : Nat} (e : ∀ j, j < n → g j = h j) (i : Nat) : over f g l n i = over f h l n i := by
  unfold over
  split
  · exact e _ (by omega)
  · rfl
theorem sm_ge {g : Nat → Int} (h : ∀ i, 0 ≤ g i) : ∀ {n i : Nat}, i < n → g i ≤ Lv.sm g n
  | n + 1, i, hi => by
    have h1 := Lv.smu_nonneg g h n
    have h2 := h n
    show g i ≤ Lv.sm g n + g n
    by_cases e : i = n
    · subst e; omega
    · have := sm_ge h (n := n) (i := i) (by omega); omega
theorem fl_le {l : Int} {y : Nat → Int} {n i : Nat} (h8 : n ≤ 8) (hy : Lv.okY y n = true) (hi : i < n) : -1048576 ≤ Lv.fl l y n i ∧ Lv.fl l y n i ≤ 1048576 := by
  by_cases h : l < 1 ∨ 20 < l ∨ Lv.cnt y n = 0
  · rw [Lv.fl_off h]; omega
  · obtain ⟨_, s2, _⟩ := Lv.sum_fill l y n h8 hy h
    have p := (Lv.pow_bd (show l.toNat ≤ 20 by omega)).2
    have g := sm_ge (g := fun i => Lv.uns (Lv.fl l y n i)) (fun i => Lv.uns_nonneg _) hi
    simp only [Int.reducePow] at p
    have g2 : Lv.fl l y n i ≤ Lv.uns (Lv.fl l y n i) ∧ -Lv.fl l y n i ≤ Lv.uns (Lv.fl l y n i) := by unfold Lv.uns; omega
    omega
theorem wW_le (f : Nat → Nat) (l : Nat → Int) {k : Nat → Nat} (d : Dt) (hk : ∀ b, k b ≤ 8) : ∀ b, b ≤ 4 → ∀ i, -1048576 ≤ wW f l k d b i ∧ wW f l k d b i ≤ 1048576
  | 0, _, i => by show -1048576 ≤ (0 : Int) ∧ (0 : Int) ≤ 1048576; omega
  | b + 1, hb, i => by
    have ih := wW_le f l d hk b (by omega) i
    obtain ⟨_, _, s8, _⟩ := sB_fs b (by omega)
    unfold wW
    split
    · exact ih
    · unfold over
      split
      · exact fl_le s8 ((Lv.okY_iff _ _).2 (vF_bd (hk b))) (by omega)
      · exact ih
end Go.Proofs.YtfohinlldchdpaaGreatDoor.De
end

section
/- Contracts of dec's isSize, areLevels, takeLevels. -/
set_option maxRecDepth 100000
set_option linter.unusedVariables false
namespace Go.Proofs.YtfohinlldchdpaaGreatDoor.De
open Go.RowKit Go.Proofs.YtfohinlldchdpaaGreatDoor.Row Go.Proofs.YtfohinlldchdpaaGreatDoor.Rg

theorem isSize_yes (n : Nat) (w : World) (h : 10 ≤ n) (h2 : n ≤ 32) :
    Calls Tryz.prog 35 #[.int .i64 n] w fun e w' => e = .returned (.bool true) ∧ w = w' := by
  go_enter Tryz.func35, Tryz.ntmps35
  go_wp2
  go_ret
  exact ⟨ret_bool (decide_eq_true (by omega)), rfl⟩
theorem areLevels_yes (T : Array Value) (L : Nat → Int) (w : World) (hT : IsRow 4 L T) (h : Sp.okL L) :
    Calls Tryz.prog 82 #[.agg T] w fun e w' => e = .returned (.bool true) ∧ Below w.heap.size w w' := by
  have HC := Lib.hid (hT.cell (At.new w T 23))
  have HM := Lib.hid (Sp.min_as w.heap.size L (w.alloc (.cells T 23)) HC.out)
  have HX := Lib.hid (Sp.max_as w.heap.size L (w.alloc (.cells T 23)) HC.out)
  have HL := Lib.hid h
  clear hT h
  go_enter Tryz.func82, Tryz.ntmps82
  go_wp2_with fail
  refine HM.out.mono ?_
  rintro e w1 ⟨⟨m, rfl, hm⟩, rfl⟩
  have m0 : 0 ≤ m := by
    obtain ⟨_, i, hi, e⟩ := hm
    rw [← e]; exact (HL.out i hi).1
  clear hm
  go_wp2_with fail
  refine HX.out.mono ?_
  rintro e w1 ⟨⟨x, rfl, hx⟩, rfl⟩
  have x0 : x ≤ 20 := by
    obtain ⟨_, i, hi, e⟩ := hx
    rw [← e]; exact (HL.out i hi).2
  clear hx
  go_wp2_with fail
  go_ret
  exact ⟨rfl, (Below.refl _ _).alloc (Nat.le_refl _) _⟩

theorem DecIs.mono {w : World} {b : Nat} {T U : Nat → Prop} {s : List UInt8} {d : Dt} (h : DecIs w b T s d) (hT : ∀ k, T k → U k) : DecIs w b U s d := by
  obtain ⟨h1, tb, h2, h3, h4⟩ := h
  exact ⟨hT _ h1, tb, h2, hT _ h3, h4⟩

theorem run_min20 (x u : Int) (h : min x 20 = u) (w : World) :
    (Builtin.min_ #[3, 3] 3 #[.int .i64 x, .int .i64 20]).run Tryz.prog w = .ok (.int .i64 u) w := by
  have e : (if 20 < x then 20 else x) = u := by rw [← h]; split <;> omega
  rw [← e]
  simp [Builtin.min_, Builtin.min2]
theorem run_max00 (x u : Int) (h : max 0 x = u) (w : World) :
    (Builtin.max_ #[3, 3] 3 #[.int .i64 0, .int .i64 x]).run Tryz.prog w = .ok (.int .i64 u) w := by
  have e : (if 0 < x then x else 0) = u := by rw [← h]; split <;> omega
  rw [← e]
  simp [Builtin.max_, Builtin.max2]

/-- The levels where so many are taken. -/
def mL (f : Nat → Nat) (L : Nat → Int) (k i : Nat) : Int := if i < k then lB f L i else L i
theorem mL_at (f : Nat → Nat) (L : Nat → Int) (k : Nat) : mL f L k k = L k := by unfold mL; rw [if_neg (by omega)]
theorem mL_next (f : Nat → Nat) (L : Nat → Int) (k i : Nat) : (if i = k then lB f L k else mL f L k i) = mL f L (k + 1) i := by
  unfold mL
  by_cases c : i = k
  · rw [if_pos c, if_pos (by omega), c]
  · rw [if_neg c]
    by_cases c2 : i < k
    · rw [if_pos c2, if_pos (by omega)]
    · rw [if_neg c2, if_neg (by omega)]
/-- What stands while levels are taken. -/
def TlS (w : World) (b : Nat) (O : Nat → Prop) (s : List UInt8) (d : Dt) (R Z : Array Value) (w' : World) : Prop :=
  Fr O w w' ∧ DecIs w' b O s d ∧ At w' w.heap.size R 23 ∧ At w' (w.heap.size + 1) Z 23 ∧ ∀ k, O k → k < w.heap.size
theorem TlS.start {w : World} {b : Nat} {O : Nat → Prop} {s : List UInt8} {d : Dt} (R Z : Array Value) (h : DecIs w b O s d) (hO : ∀ k, O k → k < w.heap.size) :
    TlS w b O s d R Z ((w.alloc (.cells R 23)).alloc (.cells Z 23)) := by
  have h1 := At.new (w.alloc (.cells R 23)) Z 23
  rw [World.size_alloc] at h1
  have hf : Fr (fun _ => False) w ((w.alloc (.cells R 23)).alloc (.cells Z 23)) := ((Fr.refl _ _).alloc _).alloc _
  exact ⟨hf.mono fun _ _ h => h.elim, h.fr hf fun _ _ h => h, (At.new w R 23).alloc _, h1, hO⟩
theorem TlS.took {w w1 w2 : World} {b : Nat} {O : Nat → Prop} {s : List UInt8} {d d' : Dt} {R Z : Array Value} (h : TlS w b O s d R Z w1) (hD : DecIs w2 b O s d') (hF : Fr O w1 w2) : TlS w b O s d' R Z w2 := by
  obtain ⟨h1, h2, h3, h4, h5⟩ := h
  exact ⟨h1.same hF, hD, h3.fr hF fun c => by have := h5 _ c; omega, h4.fr hF fun c => by have := h5 _ c; omega, h5⟩
theorem TlS.put {w w1 : World} {b : Nat} {O : Nat → Prop} {s : List UInt8} {d : Dt} {R Z : Array Value} (h : TlS w b O s d R Z w1) (i : Nat) (v : Value) : TlS w b O s d (R.setIfInBounds i v) Z (w1.setCell ⟨w.heap.size, i, none⟩ v) := by
  obtain ⟨h1, h2, h3, h4, h5⟩ := h
  refine ⟨h1.setCell (.inr (Nat.le_refl _)) _, ?_, h3.setCell, h4.setCell_other (by dsimp only; omega), h5⟩
  exact h2.fr (U := Just w.heap.size) ((Fr.refl _ _).setCell (p := ⟨w.heap.size, i, none⟩) (.inl (Just.self _)) _) fun k hk e => by have := h5 k hk; rw [just_iff] at e; omega

set_option maxHeartbeats 1000000 in
theorem takeLevels_as (T : Array Value) (L : Nat → Int) (b : Nat) (O : Nat → Prop) (s : List UInt8) (w : World) (hT : IsRow 4 L T) (hL : Sp.okL L) (h : DecIs w b O s (dL (byteF s) 0)) (hO : ∀ k, O k → k < w.heap.size) (hs : s.length ≤ 1000) :
    Calls Tryz.prog 84 #[.agg T, .pointer (some ⟨b, 0, none⟩)] w fun e w' => (∃ R, e = .returned (.agg R) ∧ IsRow 4 (lB (byteF s) L) R) ∧ DecIs w' b O s (dL (byteF s) 4) ∧ Fr O w w' := by
  obtain ⟨Z, hZ, hZ0, hz, hi⟩ := Sp.zero4
  have HS := Lib.hid (TlS.start T Z h hO)
  have HT := Lib.hid (hT.ext (g := mL (byteF s) L 0) fun i _ => (show L i = mL (byteF s) L 0 i by unfold mL; rw [if_neg (by omega)]))
  have HI := Lib.hid hi
  have HZ := Lib.hid hZ.1
  have HL := Lib.hid hL
  clear hT hL h hO hi hZ hZ0
  go_enter Tryz.func84, Tryz.ntmps84
  go_wp2_with fail
  go_loopw [8] (fun i w' => ∃ (k : Nat) (R : Array Value), k ≤ 4 ∧ i = .int .i64 k ∧ Hid (IsRow 4 (mL (byteF s) L k) R) ∧ TlS w b O s (dL (byteF s) k) R Z w') (fun i _ => 4 - (intOf i).toNat)
  case atStart => exact ⟨0, T, by omega, rfl, HT, HS.out⟩
  case round =>
    obtain ⟨k, R, hk, rfl, HR, hS⟩ := hrel
    clear HS HT
    have HS := Lib.hid hS
    clear hS
    by_cases hlt : k < 4
    · have k1 : (k : Int) < 4 := by omega
      obtain ⟨d1, d2⟩ := dL_ok (byteF s) k
      obtain ⟨v1, v2⟩ := Lp.lv_in (dL (byteF s) k)
      have HN := Lib.hid (show (dL (byteF s) k).take (byteF s) (Lp.cl (Lp.lv (dL (byteF s) k))) = dL (byteF s) (k + 1) from rfl)
      obtain ⟨x1, x2⟩ := HL.out k hlt
      have HB := Lib.hid (show lB (byteF s) L k = max 0 (min (L k + Lp.lv (dL (byteF s) k)) 20) from rfl)
      have c0 := HR.out.2.2 k hlt
      rw [mL_at] at c0
      obtain ⟨x, hx⟩ : ∃ x, L k = x := ⟨_, rfl⟩
      obtain ⟨v, hv⟩ : ∃ v, Lp.lv (dL (byteF s) k) = v := ⟨_, rfl⟩
      rw [hx] at x1 x2 HB c0
      rw [hv] at v1 v2 HB HN
      obtain ⟨m, hm⟩ : ∃ m, min (x + v) 20 = m := ⟨_, rfl⟩
      obtain ⟨u, hu⟩ : ∃ u, max 0 m = u := ⟨_, rfl⟩
      rw [hm, hu] at HB
      have rm := run_min20 (x + v) m hm
      have ru := run_max00 m u hu
      have HV := Lib.hid hv
      clear hx hv hm hu
      go_wp2_with fail
      refine (Lp.ltake_as _ b O s _ v HS.out.2.1 d1 HV.out (by omega) (by omega)).mono ?_
      rintro e w1 ⟨rfl, h1, h2⟩
      rw [HN.out] at h1
      have HS1 := Lib.hid (HS.out.took h1 h2)
      have c1 : w1.cell? ⟨w.heap.size, k, none⟩ = some (.int .i64 x) := by rw [HS1.out.2.2.1.cell]; exact c0
      have f1 := HS1.out.2.2.1.frozen k
      clear h1 h2 HS d1 d2
      go_wp2_with fail
      go_roundw
      case rel => exact ⟨k + 1, _, by omega, by go_num, Lib.hid ((HR.out.set u hlt).ext fun i _ => by rw [← HB.out]; exact mL_next _ _ _ _), HS1.out.put k _⟩
      case measure => simp [intOf]; omega
    · obtain rfl : k = 4 := by omega
      have HI4 := Lib.hid (HI.out R HR.out.1)
      clear hk hlt
      go_wp2_with (first
        | refine wpList_load_row rfl 23 _ rfl w.heap.size rfl _ _ (0, 0) _ HS.out.2.2.1 Tryz.underlying23 rfl HI4.out ?_
        | refine wpList_store_row rfl 23 _ _ rfl (w.heap.size + 1) R rfl rfl _ _ HS.out.2.2.2.1 HI4.out (by rw [HZ.out, HR.out.1]) HR.out.2.1 ?_)
      have HE : TlS w b O s (dL (byteF s) 4) R R (wr.setRow (w.heap.size + 1) R) := by
        obtain ⟨h1, h2, h3, h4, h5⟩ := HS.out
        refine ⟨h1.setRow (.inr (by omega)) _, ?_, h3.setRow_other (by omega), h4.setRow, h5⟩
        exact h2.fr (U := Just (w.heap.size + 1)) ((Fr.refl _ _).setRow (.inl (Just.self _)) _) fun k hk e => by have := h5 k hk; rw [just_iff] at e; omega
      exact bodyPost_ret (v := .agg R) (results_cell_row rfl _ _ (w.heap.size + 1) 23 R (0, 0) _ rfl HE.2.2.2.1 Tryz.underlying23 rfl HI4.out) rfl ⟨⟨R, rfl, HR.out.ext fun i hi => by unfold mL; rw [if_pos hi]⟩, HE.2.1, HE.1⟩
end Go.Proofs.YtfohinlldchdpaaGreatDoor.De
end

section
/- The encoder's packet, as mathematics: its cells, that its bytes have room, and what a decoder meets. -/
set_option maxRecDepth 100000
set_option linter.unusedVariables false
namespace Go.Proofs.YtfohinlldchdpaaGreatDoor.En
open Go.RowKit Go.Proofs.YtfohinlldchdpaaGreatDoor.Row Go.Proofs.YtfohinlldchdpaaGreatDoor.Rg Go.Proofs.YtfohinlldchdpaaGreatDoor.De

/-- The levels' cells: how far each is from the one ahead. -/
def cL (L l : Nat → Int) : Nat → List Cl
  | 0 => []
  | b + 1 => cL L l b ++ [Lp.cl (l b - L b)]
theorem df_bd {L l : Nat → Int} (hL : Sp.okL L) (hl : Sp.okL l) {b : Nat} (hb : b < 4) : -24 ≤ l b - L b ∧ l b - L b ≤ 24 := by
  have := hL b hb
  have := hl b hb
  omega
theorem cL_ok {L l : Nat → Int} (hL : Sp.okL L) (hl : Sp.okL l) : ∀ b, b ≤ 4 → ∀ C ∈ cL L l b, C.ok
  | 0, _, C, h => by cases h
  | b + 1, hb, C, h => by
    rcases List.mem_append.1 h with h | h
    · exact cL_ok hL hl b (by omega) C h
    · obtain rfl := List.mem_singleton.1 h
      have := df_bd hL hl (b := b) (by omega)
      exact Lp.cl_ok this.1 this.2
def xL (L l : Nat → Int) (b : Nat) : St := St.new.run (cL L l b)
theorem xL_next (L l : Nat → Int) (b : Nat) : xL L l (b + 1) = (xL L l b).put (Lp.cl (l b - L b)) := run_snoc _ _ _
theorem xL_ok {L l : Nat → Int} (hL : Sp.okL L) (hl : Sp.okL l) (b : Nat) (hb : b ≤ 4) : (xL L l b).ok := run_ok new_ok (cL_ok hL hl b hb)
theorem xL_g {L l : Nat → Int} (hL : Sp.okL L) (hl : Sp.okL l) : ∀ b, b ≤ 4 → (xL L l b).g ≤ 2 * b
  | 0, _ => Nat.le_refl _
  | b + 1, hb => by
    rw [xL_next]
    have h1 := xL_g hL hl b (by omega)
    have h2 := df_bd hL hl (b := b) (by omega)
    have h3 := put_g (xL_ok hL hl b (by omega)) (Lp.cl_ok h2.1 h2.2)
    omega
theorem xL_fit {L l : Nat → Int} (hL : Sp.okL L) (hl : Sp.okL l) : ∀ b, b ≤ 4 → Fit (xL L l b) (128 * b) (1 + 12 * b)
  | 0, _ => fit_new
  | b + 1, hb => by
    rw [xL_next]
    have h2 := df_bd hL hl (b := b) (by omega)
    have h3 := Lp.cl_bd h2
    have hx := xL_ok hL hl b (by omega)
    have h4 := fit_put (e := 128) (j := 12) hx (Lp.cl_ok h2.1 h2.2) (xL_fit hL hl b (by omega)) (by show 32768 ≤ (Lp.cl (l b - L b)).w * 2 ^ 12; omega) (by show 32768 * 65536 ≤ _; have := hx.1; omega) (by omega)
    exact h4

/-- The packet's room, how many pulses each band has, what is searched, the pulses found, and their number. -/
def rmE (L l : Nat → Int) (n : Nat) : Int := Sp.rm n (xL L l 4).used
def kE (L l : Nat → Int) (n : Nat) : Nat → Nat := Sp.given l (rmE L l n)
def wC (W : Nat → Int) (b i : Nat) : Int := max (-1048576) (min (W (Lv.fs b + i)) 1048576)
def yE (W : Nat → Int) (b k : Nat) : Nat → Int := Sh.fS (wC W b) (Sp.sB b) k
def iE (W : Nat → Int) (b k : Nat) : Nat := Ve.num (yE W b k) (Sp.sB b) k
def bC (W : Nat → Int) (k : Nat → Nat) (b : Nat) : List Cl := if k b = 0 then [] else bitsC 3 (iE W b (k b)) (Sp.P b (k b))
def cW (W : Nat → Int) (k : Nat → Nat) : Nat → List Cl
  | 0 => []
  | b + 1 => cW W k b ++ bC W k b
def xW (x : St) (W : Nat → Int) (k : Nat → Nat) (b : Nat) : St := x.run (cW W k b)
theorem xW_next (x : St) (W : Nat → Int) (k : Nat → Nat) (b : Nat) : xW x W k (b + 1) = (xW x W k b).run (bC W k b) := run_append _ _ _
theorem bC_ok (W : Nat → Int) (k : Nat → Nat) (b : Nat) : ∀ C ∈ bC W k b, C.ok := by
  intro C h
  unfold bC at h
  split at h
  · cases h
  · exact bitsC_ok _ _ _ C h
theorem cW_ok (W : Nat → Int) (k : Nat → Nat) : ∀ b, ∀ C ∈ cW W k b, C.ok
  | 0, C, h => by cases h
  | b + 1, C, h => by
    rcases List.mem_append.1 h with h | h
    · exact cW_ok W k b C h
    · exact bC_ok W k b C h
theorem xW_ok {x : St} (hx : x.ok) (W : Nat → Int) (k : Nat → Nat) (b : Nat) : (xW x W k b).ok := run_ok hx (cW_ok W k b)
theorem bC_len (W : Nat → Int) (k : Nat → Nat) (b : Nat) : (bC W k b).length ≤ 3 := by
  unfold bC
  split
  · exact Nat.zero_le _
  · exact bitsC_len _ _ _
theorem xW_g {x : St} (hx : x.ok) (W : Nat → Int) (k : Nat → Nat) : ∀ b, (xW x W k b).g ≤ x.g + 6 * b
  | 0 => Nat.le_refl _
  | b + 1 => by
    rw [xW_next]
    have h1 := xW_g hx W k b
    have h2 := run_g_le (xW_ok hx W k b) (bC_ok W k b)
    have h3 := bC_len W k b
    omega
/-- The bits of the bands. -/
def pb (k : Nat → Nat) : Nat → Nat
  | 0 => 0
  | b + 1 => pb k b + Sp.P b (k b)
theorem fit_mono {x : St} {c c' K : Nat} (h : Fit x c K) (hc : c ≤ c') : Fit x c' K := by
  unfold Fit at *
  exact Nat.le_trans (Nat.mul_le_mul_left _ (by omega)) h
theorem xW_fit {x : St} {c K : Nat} (hx : x.ok) (h : Fit x c K) (hc : c ≤ 60000) (W : Nat → Int) {k : Nat → Nat} (hk : ∀ b, k b ≤ 8) : ∀ b, b ≤ 4 → Fit (xW x W k b) (c + 3 * b) (K + pb k b)
  | 0, _ => h
  | b + 1, hb => by
    rw [xW_next]
    have ih := xW_fit hx h hc W hk b (by omega)
    show Fit _ _ (K + (pb k b + Sp.P b (k b)))
    unfold bC
    split
    · rename_i h0
      have h2 := fit_mono ih (show c + 3 * b ≤ c + 3 * (b + 1) by omega)
      rw [h0, Sp.P_zero (by omega), Nat.add_zero]
      exact h2
    · have := P_24 b (by omega) (k b) (hk b)
      have h2 := fit_bits 3 (iE W b (k b)) (Sp.P b (k b)) (xW_ok hx W k b) ih (by omega) (by omega)
      rw [show c + 3 * b + 3 = c + 3 * (b + 1) by omega, show K + pb k b + Sp.P b (k b) = K + (pb k b + Sp.P b (k b)) by omega] at h2
      exact h2

theorem S_eq (f : Nat → Nat) : ∀ n, Ve.S f n = Sh.S f n
  | 0 => rfl
  | n + 1 => by
    show Ve.S f n + f n = Sh.S f n + f n
    rw [S_eq f n]
theorem yE_sm (W : Nat → Int) {b : Nat} (hb : b < 4) (k : Nat) : Ve.sm (yE W b k) (Sp.sB b) = k := by
  unfold Ve.sm
  rw [S_eq]
  have h := Sh.y_sum (u := Sh.sz (wC W b)) (n := Sp.sB b) (by have := sB_fs b hb; omega) k
  rw [← h]
  exact Sh.S_congr fun i _ => by rw [h]; exact Sh.f_abs _ _ _ _
theorem iE_lt (W : Nat → Int) {b : Nat} (hb : b < 4) (k : Nat) : iE W b k < Ve.V (Sp.sB b) k := Ve.num_lt (yE_sm W hb k)
theorem iE_bits (W : Nat → Int) {b : Nat} (hb : b < 4) {k : Nat} (hk : k ≤ 8) : iE W b k < 2 ^ Sp.P b k := by
  have h := iE_lt W hb k
  have h8 := (sB_fs b hb).2.2.1
  unfold Sp.P
  rw [Ve.cI_nat h8 hk]
  have hV := Ve.V_le h8 hk
  have := (bl_spec 64 (Ve.V (Sp.sB b) k - 1) (Nat.le_refl _) (by omega)).1
  omega

/-- The whole packet. -/
def xE (L l W : Nat → Int) (n : Nat) : St := xW (xL L l 4) W (kE L l n) 4
def pkE (L l W : Nat → Int) (n : Nat) : List UInt8 := (xE L l W n).text n
theorem rm_bd (n : Nat) (u : Int) : 0 ≤ Sp.rm n u := by unfold Sp.rm; split <;> omega
theorem kE_le (L l : Nat → Int) (n : Nat) (b : Nat) : kE L l n b ≤ 8 := by
  obtain ⟨left, h⟩ := Sp.given_fin l (bits := rmE L l n) (rm_bd _ _)
  exact h.few b
theorem xE_ok {L l : Nat → Int} (hL : Sp.okL L) (hl : Sp.okL l) (W : Nat → Int) (n : Nat) : (xE L l W n).ok := xW_ok (xL_ok hL hl 4 (Nat.le_refl _)) _ _ _
theorem xE_room {L l : Nat → Int} (hL : Sp.okL L) (hl : Sp.okL l) (W : Nat → Int) {n : Nat} (h1 : 10 ≤ n) (h2 : n ≤ 32) : 4 + (xE L l W n).g ≤ n := by
  have hx4 := xL_ok hL hl 4 (Nat.le_refl _)
  have hu4 := fit_used hx4 (xL_fit hL hl 4 (Nat.le_refl _)) (by omega)
  have hu0 := used_nonneg hx4
  obtain ⟨u, hu⟩ : ∃ u : Nat, (xL L l 4).used = u := ⟨(xL L l 4).used.toNat, by omega⟩
  have hf := xW_fit hx4 (fit_of hx4 hu) (by omega) W (kE_le L l n) 4 (Nat.le_refl _)
  have hxE := xE_ok hL hl W n
  have hus := fit_used hxE hf (by omega)
  obtain ⟨left, hfin⟩ := Sp.given_fin l (bits := rmE L l n) (rm_bd _ _)
  have hbill : (pb (kE L l n) 4 : Int) + left = rmE L l n := by
    have := hfin.bill
    show (((0 + Sp.P 0 (kE L l n 0) + Sp.P 1 (kE L l n 1) + Sp.P 2 (kE L l n 2) + Sp.P 3 (kE L l n 3) : Nat) : Int)) + left = _
    unfold kE
    omega
  have hlo := hfin.lo
  have hrm : rmE L l n = 0 ∨ rmE L l n = 8 * n - 40 - u := by
    unfold rmE Sp.rm
    rw [hu]
    split
    · exact .inr rfl
    · exact .inl rfl
  rw [hu] at hu4
  have hd : (xE L l W n).used = 8 * ((xE L l W n).g : Int) + 32 - (Lib.bitLen (xE L l W n).r : Nat) := rfl
  have hb : Lib.bitLen (xE L l W n).r ≤ 32 := by
    have := (bl_spec 32 (xE L l W n).r (by omega) (by have := hxE.2.1; omega)).2.1
    exact this
  rcases hrm with h | h <;> omega
theorem pkE_fits {L l : Nat → Int} (hL : Sp.okL L) (hl : Sp.okL l) (W : Nat → Int) {n : Nat} (h1 : 10 ≤ n) (h2 : n ≤ 32) : (xE L l W n).trim.length ≤ n :=
  Nat.le_trans (trim_len _) (xE_room hL hl W h1 h2)
theorem pkE_length {L l : Nat → Int} (hL : Sp.okL L) (hl : Sp.okL l) (W : Nat → Int) {n : Nat} (h1 : 10 ≤ n) (h2 : n ≤ 32) : (pkE L l W n).length = n := text_length (pkE_fits hL hl W h1 h2)

/-! What a decoder meets. -/
theorem giv_ext {L M : Nat → Int} (h : ∀ b, b < 4 → L b = M b) : ∀ (n : Nat) (K : Nat → Nat) (left : Int), Sp.giv L n K left = Sp.giv M n K left
  | 0, _, _ => rfl
  | n + 1, K, left => by
    have e : Sp.bst L K left = Sp.bst M K left := by
      unfold Sp.bst
      refine Sp.bs_congr (Nat.le_refl _) (fun b hb => ?_) fun x y hx hy => ?_
      · unfold Sp.can; rw [h b hb]
      · unfold Sp.ltW Sp.wI; rw [h x hx, h y hy]
    show (if _ then _ else _) = (if _ then _ else _)
    rw [e]
    split
    · exact giv_ext h n _ _
    · rfl
theorem given_ext {L M : Nat → Int} (h : ∀ b, b < 4 → L b = M b) (bits : Int) : Sp.given L bits = Sp.given M bits := giv_ext h _ _ _

section
variable {L l W : Nat → Int} {n : Nat}
theorem in_all (hL : Sp.okL L) (hl : Sp.okL l) : In (xE L l W n).L (xE L l W n).g (xE L l W n) := by
  have e : xE L l W n = St.new.run (cL L l 4 ++ cW W (kE L l n) 4) := (run_append _ _ _).symm
  have hok : ∀ C ∈ cL L l 4 ++ cW W (kE L l n) 4, C.ok := fun C h => by
    rcases List.mem_append.1 h with h | h
    · exact cL_ok hL hl 4 (Nat.le_refl _) C h
    · exact cW_ok _ _ _ C h
  have := in_take hok (cL L l 4 ++ cW W (kE L l n) 4).length
  rw [List.take_length, ← e] at this
  exact this
theorem in_W (hL : Sp.okL L) (hl : Sp.okL l) : ∀ d, d ≤ 4 → In (xE L l W n).L (xE L l W n).g (xW (xL L l 4) W (kE L l n) (4 - d))
  | 0, _ => in_all hL hl
  | d + 1, hd => by
    have ih := in_W hL hl d (by omega)
    rw [show 4 - d = (4 - (d + 1)) + 1 by omega, xW_next] at ih
    exact in_run (xW_ok (xL_ok hL hl 4 (Nat.le_refl _)) _ _ _) (bC_ok _ _ _) ih
theorem in_L (hL : Sp.okL L) (hl : Sp.okL l) : ∀ d, d ≤ 4 → In (xE L l W n).L (xE L l W n).g (xL L l (4 - d))
  | 0, _ => in_W hL hl 4 (Nat.le_refl _)
  | d + 1, hd => by
    have ih := in_L hL hl d (by omega)
    rw [show 4 - d = (4 - (d + 1)) + 1 by omega, xL_next] at ih
    have h2 := df_bd hL hl (b := 4 - (d + 1)) (by omega)
    exact in_back (xL_ok hL hl _ (by omega)) (Lp.cl_ok h2.1 h2.2) ih
/-- The packet's digits. -/
def fE (L l W : Nat → Int) (n : Nat) : Nat → Nat := digit (xE L l W n).L (xE L l W n).g
theorem fE_is : byteF (pkE L l W n) = fE L l W n := text_digit _ _
def dE (L l W : Nat → Int) (n : Nat) (x : St) : Dt := dtOf (xE L l W n).L (xE L l W n).g x
theorem lv_met (hL : Sp.okL L) (hl : Sp.okL l) {b : Nat} (hb : b < 4) : Lp.lv (dE L l W n (xL L l b)) = l b - L b ∧ (dE L l W n (xL L l b)).take (fE L l W n) (Lp.cl (l b - L b)) = dE L l W n (xL L l (b + 1)) := by
  have h2 := df_bd hL hl (b := b) hb
  have hC := Lp.cl_ok h2.1 h2.2
  have hi := in_L (W := W) (n := n) hL hl (3 - b) (by omega)
  rw [show 4 - (3 - b) = b + 1 by omega, xL_next] at hi
  obtain ⟨q1, q2, q3⟩ := in_step (xL_ok hL hl b (by omega)) hC hi
  refine ⟨?_, by rw [xL_next]; exact q3⟩
  have e := Lp.fI_eq (i := Lp.iV (l b - L b)) (Lp.iV_lt.2 h2) q1 q2
  show Lp.vI (Lp.fI ((dE L l W n (xL L l b)).place 32768)) = _
  have e' : Lp.fI ((dE L l W n (xL L l b)).place 32768) = Lp.iV (l b - L b) := e
  rw [e', Lp.vI_iV]
theorem dL_met (hL : Sp.okL L) (hl : Sp.okL l) : ∀ b, b ≤ 4 → dL (fE L l W n) b = dE L l W n (xL L l b)
  | 0, _ => by
    have := (xE_ok hL hl W n).2.2
    exact dt_first (by have := (xE_ok hL hl W n).1; omega)
  | b + 1, hb => by
    obtain ⟨h1, h2⟩ := lv_met (W := W) (n := n) hL hl (b := b) (by omega)
    show (dL (fE L l W n) b).take (fE L l W n) (Lp.cl (Lp.lv (dL (fE L l W n) b))) = _
    rw [dL_met hL hl b (by omega), h1, h2]
theorem lB_met (hL : Sp.okL L) (hl : Sp.okL l) {b : Nat} (hb : b < 4) : lB (fE L l W n) L b = l b := by
  unfold lB
  rw [dL_met hL hl b (by omega), (lv_met hL hl hb).1]
  unfold br
  have := hl b hb
  omega
theorem rm_met (hL : Sp.okL L) (hl : Sp.okL l) : rmS (fE L l W n) n = rmE L l n := by
  unfold rmS rmE
  rw [dL_met hL hl 4 (Nat.le_refl _)]
  unfold dE
  rw [dtOf_used]
theorem kS_met (hL : Sp.okL L) (hl : Sp.okL l) : kS (fE L l W n) L n = kE L l n := by
  unfold kS kE
  rw [rm_met hL hl]
  exact given_ext (fun b hb => lB_met hL hl hb) _
end
/-- No levels, no pulses. -/
theorem kE_none {L l : Nat → Int} {n b : Nat} (h : l b = 0) : kE L l n b = 0 := by
  obtain ⟨left, hf⟩ := Sp.given_fin l (bits := rmE L l n) (rm_bd _ _)
  exact hf.none b h
end Go.Proofs.YtfohinlldchdpaaGreatDoor.En
end

section
/- Right encoders, samples of 16 bits; lifted frames are held; the waves of a frame, their levels, the levels ahead. -/
set_option maxRecDepth 100000
set_option linter.unusedVariables false
namespace Go.Proofs.YtfohinlldchdpaaGreatDoor.En
open Go.RowKit Go.Proofs.YtfohinlldchdpaaGreatDoor.Row Go.Proofs.YtfohinlldchdpaaGreatDoor.Rg Go.Proofs.YtfohinlldchdpaaGreatDoor.Md Go.Proofs.YtfohinlldchdpaaGreatDoor.Tl Go.Proofs.YtfohinlldchdpaaGreatDoor.Sta

/-- Sixteen samples of 16 bits; a right encoder. -/
def Snd (b : Nat → Int) : Prop := ∀ i, i < 16 → -32768 ≤ b i ∧ b i ≤ 32767
def Re (f : Nat → Int) : Prop := (∀ i, i < 16 → -131072 ≤ f i ∧ f i ≤ 131072) ∧ (-32768 ≤ f 16 ∧ f 16 ≤ 32767) ∧ Rt (fun i => f (17 + i))
theorem Re.ext {f g : Nat → Int} (h : Re f) (e : ∀ i, i < 55 → f i = g i) : Re g :=
  ⟨fun i hi => by rw [← e i (by omega)]; exact h.1 i hi, by rw [← e 16 (by omega)]; exact h.2.1, h.2.2.ext fun k hk => e _ (by omega)⟩


/-! Lifted frames are held. -/
theorem ah_small {z : Int} {b : Nat → Int} (hz : -32768 ≤ z ∧ z ≤ 32767) (hb : Snd b) : ∀ k, k ≤ 16 → -32768 ≤ ahS z b k ∧ ahS z b k ≤ 32767
  | 0, _ => by show -32768 ≤ ct22 z ∧ ct22 z ≤ 32767; rw [ct22_in (by omega) (by omega)]; exact hz
  | k + 1, hk => by
    have h := hb k (by omega)
    show -32768 ≤ ct22 (b k) ∧ ct22 (b k) ≤ 32767
    rw [ct22_in (by omega) (by omega)]; exact h
theorem li_small {z : Int} {b : Nat → Int} (hz : -32768 ≤ z ∧ z ≤ 32767) (hb : Snd b) (k : Nat) (hk : k < 16) : -65536 ≤ liS z b k ∧ liS z b k ≤ 65536 := by
  have h1 := ah_small hz hb k (by omega)
  have h2 := hb k hk
  have h3 := prt_bd (x := ahS z b k) (b := 32768) (by omega) (by omega)
  unfold liS
  rw [ct22_in (by omega) (by omega)]
  omega
theorem li_le {z : Int} {b : Nat → Int} (hz : -32768 ≤ z ∧ z ≤ 32767) (hb : Snd b) : Le 1048576 (liS z b) := fun i hi => by
  have := li_small hz hb i hi
  exact ab_le (by omega) (by omega)
theorem prev_le {f : Nat → Int} (h : Re f) : Le 1048576 f := fun i hi => by
  have := h.1 i hi
  exact ab_le (by omega) (by omega)
/-- The waves of a frame, and their levels. -/
def wvE (f b : Nat → Int) : Nat → Int := wS f (liS (f 16) b)
def lvE (f b : Nat → Int) : Nat → Int := Lv.lvB (wvE f b)
theorem lvE_ok (f b : Nat → Int) : Sp.okL (lvE f b) := fun i _ => by
  unfold lvE Lv.lvB Lv.lv
  omega
/-- The levels ahead. -/
def lvA (f : Nat → Int) (i : Nat) : Int := f (34 + i)
theorem lvA_ok {f : Nat → Int} (h : Re f) : Sp.okL (lvA f) := fun i hi => by
  have := h.2.2.2.2.1 i hi
  unfold lvA
  rw [show 34 + i = 17 + (17 + i) by omega]
  exact this

end Go.Proofs.YtfohinlldchdpaaGreatDoor.En
end

section
/- Contracts: enc's within, every over numbers, areSamples. -/
set_option maxRecDepth 100000
set_option linter.unusedVariables false
namespace Go.Proofs.YtfohinlldchdpaaGreatDoor.En
open Go.RowKit Go.Proofs.YtfohinlldchdpaaGreatDoor.Row Go.Proofs.YtfohinlldchdpaaGreatDoor.Rg Go.Proofs.YtfohinlldchdpaaGreatDoor.Md Go.Proofs.YtfohinlldchdpaaGreatDoor.Tl Go.Proofs.YtfohinlldchdpaaGreatDoor.Sta

def allB (f : Nat → Int) (l h : Int) : Nat → Bool
  | 0 => true
  | n + 1 => allB f l h n && decide (l ≤ f n ∧ f n ≤ h)
theorem allB_iff (f : Nat → Int) (l h : Int) : ∀ n, allB f l h n = true ↔ ∀ i, i < n → l ≤ f i ∧ f i ≤ h
  | 0 => ⟨fun _ i hi => absurd hi (Nat.not_lt_zero i), fun _ => rfl⟩
  | n + 1 => by
    show (allB f l h n && decide (l ≤ f n ∧ f n ≤ h)) = true ↔ _
    rw [Bool.and_eq_true, decide_eq_true_eq, allB_iff f l h n]
    refine ⟨fun ⟨h1, h2⟩ i hi => ?_, fun h => ⟨fun i hi => h i (by omega), h n (by omega)⟩⟩
    by_cases e : i = n
    · subst e; exact h2
    · exact h1 i (by omega)
theorem allB_no {f : Nat → Int} {l h : Int} {n k : Nat} (hk : k < n) (hn : ¬ (l ≤ f k ∧ f k ≤ h)) : allB f l h n = false := by
  rw [Bool.eq_false_iff]
  intro hh
  exact hn ((allB_iff f l h n).1 hh k hk)

/-- The two bounds that a closure of within reads. -/
def Wi (w : World) (p q : Nat) (l h : Int) : Prop := w.cell? ⟨p, 0, none⟩ = some (.int .i64 l) ∧ w.cell? ⟨q, 0, none⟩ = some (.int .i64 h)
theorem within_any (l h : Int) (w : World) :
    Calls Tryz.prog 31 #[.int .i64 l, .int .i64 h] w fun e w' => ∃ p q, e = .returned (.func (.func 80) #[] #[.pointer (some ⟨p, 0, none⟩), .pointer (some ⟨q, 0, none⟩)]) ∧ Wi w' p q l h ∧ Below w.heap.size w w' := by
  have hmf : ∀ (fn : Fn) (first cap : Array Value) (w : World), (Instr.makeFunc fn first cap).run Tryz.prog w = .ok (.func fn first cap) w := fun _ _ _ _ => rfl
  go_enter Tryz.func31, Tryz.ntmps31
  go_wp2_with fail
  go_ret
  refine ⟨_, _, rfl, ⟨?_, ?_⟩, ((Below.refl _ _).alloc (Nat.le_refl _) _).alloc (by simp) _⟩
  all_goals simp [go_sem]
theorem within1_any (l h x : Int) (p q : Nat) (w : World) (hW : Wi w p q l h) :
    Calls Tryz.prog 80 #[.int .i64 x, .pointer (some ⟨p, 0, none⟩), .pointer (some ⟨q, 0, none⟩)] w fun e w' => e = .returned (.bool (decide (l ≤ x ∧ x ≤ h))) ∧ w = w' := by
  obtain ⟨c1, c2⟩ := hW
  by_cases d1 : l ≤ x
  · by_cases d2 : x ≤ h
    · have HZ := Lib.hid (show decide (l ≤ x ∧ x ≤ h) = true by rw [decide_eq_true_eq]; exact ⟨d1, d2⟩)
      go_enter Tryz.func80, Tryz.ntmps80
      go_wp2_with fail
      go_ret
      exact ⟨ret_bool HZ.out.symm, rfl⟩
    · have HZ := Lib.hid (show decide (l ≤ x ∧ x ≤ h) = false by rw [decide_eq_false_iff_not]; omega)
      go_enter Tryz.func80, Tryz.ntmps80
      go_wp2_with fail
      go_ret
      exact ⟨ret_bool (decide_eq_false (by omega)).symm, rfl⟩
  · have HZ := Lib.hid (show decide (l ≤ x ∧ x ≤ h) = false by rw [decide_eq_false_iff_not]; omega)
    go_enter Tryz.func80, Tryz.ntmps80
    go_wp2_with fail
    go_ret
    exact ⟨ret_bool (by rw [decide_eq_false (show ¬ l ≤ x by omega)]; rfl), rfl⟩

theorem every_num (a : Option Addr) (n c : Nat) (f : Nat → Int) (l h : Int) (p q : Nat) (w : World) (hS : Sl .i64 w a n c f) (hW : Wi w p q l h) :
    Calls Tryz.prog 30 #[.slice a n c, .func (.func 80) #[] #[.pointer (some ⟨p, 0, none⟩), .pointer (some ⟨q, 0, none⟩)]] w fun r w' => r = .returned (.bool (allB f l h n)) ∧ w = w' := by
  have HS := Lib.hid hS.2.2
  have hn : n ≤ 9223372036854775807 := by have := hS.1; have := hS.2.1; unfold maxLen at this; omega
  have HW := Lib.hid hW
  clear hS hW
  go_enter Tryz.func30, Tryz.ntmps30
  go_wp2_with fail
  go_loop [9] (fun i => ∃ k : Nat, k ≤ n ∧ i = .int .i64 k ∧ Hid (allB f l h k = true)) (fun i => n - (intOf i).toNat)
  case atStart => exact ⟨0, Nat.zero_le _, rfl, Lib.hid rfl⟩
  case round =>
    obtain ⟨k, hk, rfl, HK⟩ := hrel
    by_cases hlt : k < n
    · obtain ⟨b, o, rfl, hc⟩ := HS.out (by omega)
      have c0 := hc k hlt
      clear hc
      have HN := Lib.hid (allB_no (f := f) (l := l) (h := h) hlt)
      have HO := Lib.hid (show allB f l h (k + 1) = (allB f l h k && decide (l ≤ f k ∧ f k ≤ h)) from rfl)
      obtain ⟨x, hx⟩ : ∃ x, f k = x := ⟨_, rfl⟩
      rw [hx] at c0 HN HO
      clear hx
      by_cases c1 : l ≤ x ∧ x ≤ h
      · have HD := Lib.hid (show decide (l ≤ x ∧ x ≤ h) = true by rw [decide_eq_true_eq]; exact c1)
        have HX := Lib.hid (within1_any l h x p q w HW.out)
        rw [HD.out] at HX
        clear HN c1
        go_wp2_with (go_at_call 80; (with_reducible refine HX.out.mono ?_); rintro e w' ⟨rfl, rfl⟩)
        go_round
        case rel => exact ⟨k + 1, by omega, by go_num, Lib.hid (by rw [HO.out, HK.out, HD.out]; rfl)⟩
        case measure => simp [intOf]; omega
      · have HD := Lib.hid (show decide (l ≤ x ∧ x ≤ h) = false by rw [decide_eq_false_iff_not]; exact c1)
        have HX := Lib.hid (within1_any l h x p q w HW.out)
        rw [HD.out] at HX
        have HZ := Lib.hid (HN.out c1)
        clear HN HO c1
        go_wp2_with (go_at_call 80; (with_reducible refine HX.out.mono ?_); rintro e w' ⟨rfl, rfl⟩)
        go_ret
        exact ⟨ret_bool HZ.out.symm, rfl⟩
    · obtain rfl : k = n := by omega
      go_wp2_with fail
      go_ret
      exact ⟨ret_bool HK.out.symm, rfl⟩

theorem areSamples_any (a : Option Addr) (n c : Nat) (f : Nat → Int) (w : World) (hS : Sl .i64 w a n c f) :
    Calls Tryz.prog 27 #[.slice a n c] w fun r w' => r = .returned (.bool (allB f (-32768) 32767 n)) ∧ Below w.heap.size w w' := by
  have HS := Lib.hid hS
  obtain ⟨r, hr⟩ : ∃ r, allB f (-32768) 32767 n = r := ⟨_, rfl⟩
  rw [hr]
  have HR := Lib.hid hr
  clear hS hr
  go_enter Tryz.func27, Tryz.ntmps27
  go_wp2_with fail
  refine (within_any (-32768) 32767 w).mono ?_
  rintro e w1 ⟨p, q, rfl, hW, hb⟩
  have HW := Lib.hid hW
  have HB := Lib.hid hb
  have HE := Lib.hid (every_num a n c f (-32768) 32767 p q w1 (HS.out.below HB.out) HW.out)
  rw [HR.out] at HE
  clear hW hb
  go_wp2_with fail
  refine HE.out.mono ?_
  rintro e w2 ⟨rfl, rfl⟩
  go_wp2_with fail
  go_ret
  exact ⟨rfl, HB.out⟩
end Go.Proofs.YtfohinlldchdpaaGreatDoor.En
end

section
/- Contracts: the document's Sound and Right of encoders. -/
set_option maxRecDepth 100000
set_option linter.unusedVariables false
namespace Go.Proofs.YtfohinlldchdpaaGreatDoor.En
open Go.RowKit Go.Proofs.YtfohinlldchdpaaGreatDoor.Row Go.Proofs.YtfohinlldchdpaaGreatDoor.Md Go.Proofs.YtfohinlldchdpaaGreatDoor.Tl Go.Proofs.YtfohinlldchdpaaGreatDoor.Sta

set_option maxHeartbeats 1000000 in
theorem refSound_any (T : Array Value) (f : Nat → Int) (r : Bool) (w : World) (hT : IsRow 16 f T) (hr : r = true ↔ Snd f) :
    Calls Tryz.prog 18 #[.agg T] w fun e w' => e = .returned (.bool r) ∧ Below w.heap.size w w' := by
  have HT := Lib.hid hT
  have HA := Lib.hid (At.new w T 22)
  have HB := Lib.hid ((Below.refl w.heap.size w).alloc (Nat.le_refl _) (.cells T 22))
  have HR := Lib.hid hr
  clear hT hr
  have no : ¬ Snd f → r = false := fun h => by cases r <;> first | rfl | exact absurd (HR.out.1 rfl) h
  have NO := Lib.hid no
  clear no
  go_enter Tryz.func18, Tryz.ntmps18
  go_wp2
  revert HA HB
  generalize w.alloc (.cells T 22) = W
  intro HA HB
  go_loopw [3] (fun i wx => ∃ k : Nat, k ≤ 16 ∧ i = .int .i64 k ∧ wx = W ∧ Hid (∀ i, i < k → -32768 ≤ f i ∧ f i ≤ 32767)) (fun i _ => 16 - (intOf i).toNat)
  case atStart => exact ⟨0, Nat.zero_le _, rfl, rfl, Lib.hid fun _ h => absurd h (by omega)⟩
  case round =>
    obtain ⟨k, hk, rfl, rfl, HK⟩ := hrel
    by_cases hk16 : k < 16
    · have hc := HT.out.cell HA.out k (by omega)
      obtain ⟨x, hx⟩ : ∃ x, f k = x := ⟨_, rfl⟩
      have HX := Lib.hid hx
      rw [hx] at hc
      clear hx
      have k1 : (k : Int) < 16 := by omega
      rcases (show x < -32768 ∨ -32768 ≤ x ∧ 32767 < x ∨ -32768 ≤ x ∧ x ≤ 32767 by omega) with h | ⟨h, h'⟩ | ⟨h1, h2⟩
      · go_wp2
        go_ret
        exact ⟨by rw [NO.out fun h' => by have := (h' k hk16).1; rw [HX.out] at this; omega]; rfl, HB.out⟩
      · go_wp2
        go_ret
        exact ⟨by rw [NO.out fun h' => by have := (h' k hk16).2; rw [HX.out] at this; omega]; rfl, HB.out⟩
      · go_wp2
        go_roundw
        case rel => exact ⟨k + 1, by omega, by go_num, trivial, Lib.hid fun i hi => by
          rcases Nat.lt_succ_iff_lt_or_eq.1 hi with h | rfl
          · exact HK.out i h
          · rw [HX.out]; exact ⟨h1, h2⟩⟩
        case measure => simp [intOf]; omega
    · have hn16 : ¬ (k : Int) < 16 := by omega
      have H1 := Lib.hid (show ∀ i, i < 16 → -32768 ≤ f i ∧ f i ≤ 32767 from fun i hi => HK.out i (by omega))
      clear HK hk hk16
      go_wp2
      go_ret
      exact ⟨by rw [HR.out.2 H1.out]; rfl, HB.out⟩

set_option maxHeartbeats 1000000 in
theorem refRight_en (T : Array Value) (f : Nat → Int) (r : Bool) (w : World) (hT : IsRow 55 f T) (hr : r = true ↔ Re f) :
    Calls Tryz.prog 17 #[.agg T] w fun e w' => e = .returned (.bool r) ∧ Below w.heap.size w w' := by
  obtain ⟨_, _, _, _, hi⟩ := zero_r
  obtain ⟨Q, hQ⟩ : ∃ M, T.extract 17 (17 + 38) = M := ⟨_, rfl⟩
  have hQ' := hT.sub (show 17 + 38 ≤ 55 by omega)
  rw [hQ] at hQ'
  obtain ⟨q, hq⟩ : ∃ q : Bool, q = true ↔ Rt (fun i => f (17 + i)) := by
    by_cases h : Rt (fun i => f (17 + i))
    · exact ⟨true, by simp [h]⟩
    · exact ⟨false, by simp [h]⟩
  have HC := Lib.hid (fun w => refRight_any Q _ q w hQ' hq)
  have Hq := Lib.hid hq
  have HQ := Lib.hid hQ'
  have HI := Lib.hid hi
  have HT := Lib.hid hT
  have HA := Lib.hid (At.new w T 27)
  have HB := Lib.hid ((Below.refl w.heap.size w).alloc (Nat.le_refl _) (.cells T 27))
  have HR := Lib.hid hr
  clear hT hr hi hQ hQ' hq
  have no : ¬ Re f → r = false := fun h => by cases r <;> first | rfl | exact absurd (HR.out.1 rfl) h
  have NO := Lib.hid no
  clear no
  go_enter Tryz.func17, Tryz.ntmps17
  go_wp2
  revert HA HB
  generalize w.alloc (.cells T 27) = W
  intro HA HB
  go_loopw [3] (fun i wx => ∃ k : Nat, k ≤ 16 ∧ i = .int .i64 k ∧ wx = W ∧ Hid (∀ i, i < k → -131072 ≤ f i ∧ f i ≤ 131072)) (fun i _ => 16 - (intOf i).toNat)
  case atStart => exact ⟨0, Nat.zero_le _, rfl, rfl, Lib.hid fun _ h => absurd h (by omega)⟩
  case round =>
    obtain ⟨k, hk, rfl, rfl, HK⟩ := hrel
    by_cases hk16 : k < 16
    · have hc := HT.out.cell HA.out k (by omega)
      obtain ⟨x, hx⟩ : ∃ x, f k = x := ⟨_, rfl⟩
      have HX := Lib.hid hx
      rw [hx] at hc
      clear hx
      have k1 : (k : Int) < 16 := by omega
      rcases (show x < -131072 ∨ -131072 ≤ x ∧ 131072 < x ∨ -131072 ≤ x ∧ x ≤ 131072 by omega) with h | ⟨h, h'⟩ | ⟨h1, h2⟩
      · go_wp2
        go_ret
        exact ⟨by rw [NO.out fun h' => by have := (h'.1 k hk16).1; rw [HX.out] at this; omega]; rfl, HB.out⟩
      · go_wp2
        go_ret
        exact ⟨by rw [NO.out fun h' => by have := (h'.1 k hk16).2; rw [HX.out] at this; omega]; rfl, HB.out⟩
      · go_wp2
        go_roundw
        case rel => exact ⟨k + 1, by omega, by go_num, trivial, Lib.hid fun i hi => by
          rcases Nat.lt_succ_iff_lt_or_eq.1 hi with h | rfl
          · exact HK.out i h
          · rw [HX.out]; exact ⟨h1, h2⟩⟩
        case measure => simp [intOf]; omega
    · have hn16 : ¬ (k : Int) < 16 := by omega
      have H1 := Lib.hid (show ∀ i, i < 16 → -131072 ≤ f i ∧ f i ≤ 131072 from fun i hi => HK.out i (by omega))
      have c16 := HT.out.cell HA.out 16 (by omega)
      obtain ⟨z, hz⟩ : ∃ x, f 16 = x := ⟨_, rfl⟩
      have HZ := Lib.hid hz
      rw [hz] at c16
      clear HK hk hk16 hz
      rcases (show z < -32768 ∨ -32768 ≤ z ∧ 32767 < z ∨ -32768 ≤ z ∧ z ≤ 32767 by omega) with h | ⟨h, h'⟩ | ⟨h1, h2⟩
      · have d1 : decide (z ≥ -32768) = false := decide_eq_false (by omega)
        go_wp2
        go_ret
        exact ⟨by rw [NO.out fun h' => by have := h'.2.1.1; rw [HZ.out] at this; omega]; rfl, HB.out⟩
      · have d1 : decide (z ≥ -32768) = true := decide_eq_true (by omega)
        have d2 : decide (z ≤ 32767) = false := decide_eq_false (by omega)
        go_wp2
        go_ret
        exact ⟨by rw [NO.out fun h' => by have := h'.2.1.2; rw [HZ.out] at this; omega]; rfl, HB.out⟩
      · have d1 : decide (z ≥ -32768) = true := decide_eq_true (by omega)
        have d2 : decide (z ≤ 32767) = true := decide_eq_true (by omega)
        have hrq : r = q := by
          rw [Bool.eq_iff_iff, HR.out, Hq.out]
          exact ⟨fun h => h.2.2, fun h => ⟨H1.out, by rw [HZ.out]; exact ⟨h1, h2⟩, h⟩⟩
        have HRQ := Lib.hid hrq
        clear hrq
        go_wp2_with (refine wpList_load_part (by rfl) 25 _ rfl w.heap.size 17 rfl HT.out HA.out HQ.out (by omega) (fun i _ => rfl) Tryz.underlying25 rfl (HI.out _ HQ.out.1) ?_)
        refine (HC.out wr).mono ?_
        rintro e W1 ⟨rfl, hb⟩
        have HB1 := Lib.hid (below_trans HB.out hb HB.out.size)
        clear hb
        go_wp2
        go_ret
        exact ⟨by rw [HRQ.out]; rfl, HB1.out⟩
end Go.Proofs.YtfohinlldchdpaaGreatDoor.En
end

section
/- Contracts of dec's takeVector, takeWaves. -/
set_option maxRecDepth 100000
set_option linter.unusedVariables false
namespace Go.Proofs.YtfohinlldchdpaaGreatDoor.De
open Go.RowKit Go.Proofs.YtfohinlldchdpaaGreatDoor.Row Go.Proofs.YtfohinlldchdpaaGreatDoor.Rg

theorem vector_at (N K I : Nat) (i : Int) (w : World) (hi : (I : Int) = i) (hN : N ≤ 8) (hK : K ≤ 8) (h : I < Ve.V N K) :
    Calls Tryz.prog 185 #[.int .i64 N, .int .i64 K, .int .i64 i] w fun e w' => ∃ f, Ve.sm f N = K ∧ Ve.num f N K = I ∧ Ve.RetVec w w' e N f := by
  subst hi; exact Ve.vector_yes N K I w hN hK h

/-- A vector that was taken, and the decoder then. -/
def RetV (w : World) (b : Nat) (O : Nat → Prop) (s : List UInt8) (d : Dt) (n k I : Nat) (e : Ending) (w' : World) : Prop :=
  ∃ f g U, e = .returned (.slice (some ⟨g, 0, none⟩) n n) ∧ Ve.sm f n = k ∧ Ve.num f n k = I ∧ w.heap.size ≤ g ∧ IsRow n f U ∧ At w' g U 3 ∧ DecIs w' b O s d ∧ Fr O w w'

set_option maxHeartbeats 1000000 in
theorem takeVector_as (n k m x c I b : Nat) (O : Nat → Prop) (s : List UInt8) (d d' : Dt) (w : World) (h : DecIs w b O s d) (hO : ∀ k, O k → k < w.heap.size) (hd : d.ok) (hg : d.g ≤ 80000) (hs : s.length ≤ 1000) (hn : n ≤ 8) (hk : k ≤ 8)
    (hm : Ve.bI n k = m) (h24 : m ≤ 24) (hx : decB (byteF s) 3 m d = (x, d')) (hc : Ve.cI n k = c) (hc1 : 1 ≤ c) (hc2 : c ≤ 6975757441) (hV : Ve.V n k = c) (hI : x % c = I) :
    Calls Tryz.prog 132 #[.int .i64 n, .int .i64 k, .func (.func 87) #[.pointer (some ⟨b, 0, none⟩)] #[]] w fun e w' => RetV w b O s d' n k I e w' := by
  have H := Lib.hid h
  have HO := Lib.hid hO
  have HM := Lib.hid hm
  have HX := Lib.hid hx
  have HC := Lib.hid hc
  have HI := Lib.hid (show (I : Int) = (x : Int) % (c : Int) by rw [← hI]; exact Int.natCast_emod x c)
  have HL := Lib.hid (show I < Ve.V n k by rw [hV, ← hI]; exact Nat.mod_lt _ (by omega))
  have hx1 := decB_lt (f := byteF s) 3 m (d := d) (by omega)
  rw [hx] at hx1
  have hp := Nat.pow_le_pow_right (n := 2) (by omega) h24
  have x0 : x ≤ 16777216 := by dsimp only at hx1; omega
  clear h hO hm hx hc hV hI hx1 hp
  go_enter Tryz.func132, Tryz.ntmps132
  go_wp2_with fail
  refine (Ve.bits_as _ _ m _ HM.out).mono ?_
  rintro e w1 ⟨rfl, h1⟩
  have B1 := Lib.hid h1
  clear h1 HM
  go_wp2_with fail
  refine (decBits_as _ b O s d m x (H.out.below B1.out) hd (by omega) h24 (by omega) (by rw [HX.out])).mono ?_
  rw [HX.out]
  rintro e w2 ⟨rfl, h2, h3⟩
  have HD := Lib.hid h2
  have HF := Lib.hid ((Fr.of_below (T := O) B1.out).same h3)
  clear h2 h3 H HX B1
  go_wp2_with fail
  refine (Ve.count_as _ _ c _ HC.out).mono ?_
  rintro e w3 ⟨rfl, h3⟩
  have HD3 := Lib.hid (HD.out.below h3)
  have HF3 := Lib.hid (HF.out.below_trans h3)
  clear h3 HD HF HC
  have c0 : ¬ (c : Int) = 0 := by omega
  have i0 : 0 ≤ (x : Int) % (c : Int) ∧ (x : Int) % (c : Int) ≤ 6975757441 := by
    have := Int.emod_nonneg (x : Int) c0
    have := Int.emod_lt_of_pos (x : Int) (show (0 : Int) < c by omega)
    omega
  obtain ⟨i1, i2⟩ := i0
  go_wp2_with fail
  refine (vector_at n k I _ _ HI.out hn hk HL.out).mono ?_
  rintro e w4 ⟨f, hf1, hf2, g, U, rfl, hg1, hU, hA, h4⟩
  have HD4 := Lib.hid (HD3.out.below h4)
  have HF4 := Lib.hid (HF3.out.below_trans h4)
  have HF1 := Lib.hid hf1
  have HF2 := Lib.hid hf2
  have HG := Lib.hid (Nat.le_trans HF3.out.size hg1)
  have HU := Lib.hid hU
  have HA := Lib.hid hA
  clear hf1 hf2 hg1 hU hA h4 HD3 HF3
  go_wp2_with fail
  go_ret
  exact ⟨f, g, U, rfl, HF1.out, HF2.out, HG.out, HU.out, HA.out, HD4.out, HF4.out⟩

theorem enter_fill (args : Array Value) (w : World) : (callFunc 135 args).run Tryz.prog w = .ok (.enter 135 args) w := run_enter Tryz.func135 (by kernel_rfl) rfl args w
theorem enter_put (args : Array Value) (w : World) : (callFunc 134 args).run Tryz.prog w = .ok (.enter 134 args) w := run_enter Tryz.func134 (by kernel_rfl) rfl args w

/-- What stands while waves are taken. -/
def TwS (w : World) (b : Nat) (O : Nat → Prop) (s : List UInt8) (d : Dt) (TL TK Z R : Array Value) (w' : World) : Prop :=
  Fr O w w' ∧ DecIs w' b O s d ∧ At w' w.heap.size TL 23 ∧ At w' (w.heap.size + 1) TK 23 ∧ At w' (w.heap.size + 2) Z 32 ∧ At w' (w.heap.size + 3) R 32 ∧ (∀ k, O k → k < w.heap.size) ∧ Lv.Tab w'
theorem Tab.fr {O : Nat → Prop} {w w' : World} (h : Lv.Tab w) (hF : Fr O w w') (hO : ¬ O 0) : Lv.Tab w' :=
  ⟨hF.cell h.1 hO, hF.cell h.2.1 hO, hF.cell h.2.2.1 hO, hF.cell h.2.2.2.1 hO, hF.cell h.2.2.2.2 hO⟩
theorem TwS.start {w : World} {b : Nat} {O : Nat → Prop} {s : List UInt8} {d : Dt} (TL TK Z R : Array Value) (h : DecIs w b O s d) (hO : ∀ k, O k → k < w.heap.size) (hT : Lv.Tab w) :
    TwS w b O s d TL TK Z R ((((w.alloc (.cells TL 23)).alloc (.cells TK 23)).alloc (.cells Z 32)).alloc (.cells R 32)) := by
  have a1 := At.new (w.alloc (.cells TL 23)) TK 23
  have a2 := At.new ((w.alloc (.cells TL 23)).alloc (.cells TK 23)) Z 32
  have a3 := At.new (((w.alloc (.cells TL 23)).alloc (.cells TK 23)).alloc (.cells Z 32)) R 32
  simp only [World.size_alloc] at a1 a2 a3
  have hf : Fr (fun _ => False) w ((((w.alloc (.cells TL 23)).alloc (.cells TK 23)).alloc (.cells Z 32)).alloc (.cells R 32)) := ((((Fr.refl _ _).alloc _).alloc _).alloc _).alloc _
  exact ⟨hf.mono fun _ _ h => h.elim, h.fr hf fun _ _ h => h, (((At.new w TL 23).alloc _).alloc _).alloc _, (a1.alloc _).alloc _, a2.alloc _, a3, hO, hT.next hf.none⟩
theorem TwS.took {w w1 w2 : World} {b : Nat} {O : Nat → Prop} {s : List UInt8} {d d' : Dt} {TL TK Z R : Array Value} (h : TwS w b O s d TL TK Z R w1) (hD : DecIs w2 b O s d') (hF : Fr O w1 w2) (hO : ¬ O 0) : TwS w b O s d' TL TK Z R w2 := by
  obtain ⟨h1, h2, h3, h4, h5, h6, h7, h8⟩ := h
  exact ⟨h1.same hF, hD, h3.fr hF fun c => by have := h7 _ c; omega, h4.fr hF fun c => by have := h7 _ c; omega, h5.fr hF fun c => by have := h7 _ c; omega, h6.fr hF fun c => by have := h7 _ c; omega, h7, Tab.fr h8 hF hO⟩
theorem TwS.below {w w1 w2 : World} {b : Nat} {O : Nat → Prop} {s : List UInt8} {d : Dt} {TL TK Z R : Array Value} (h : TwS w b O s d TL TK Z R w1) (hB : Below w1.heap.size w1 w2) : TwS w b O s d TL TK Z R w2 := by
  obtain ⟨h1, h2, h3, h4, h5, h6, h7, h8⟩ := h
  exact ⟨h1.below_trans hB, h2.below hB, h3.below hB h3.lt, h4.below hB h4.lt, h5.below hB h5.lt, h6.below hB h6.lt, h7, h8.next hB⟩
theorem DecIs.row {w : World} {b g : Nat} {O : Nat → Prop} {s : List UInt8} {d : Dt} (h : DecIs w b O s d) (hg : ¬ O g) (C : Array Value) : DecIs (w.setRow g C) b O s d :=
  h.fr (U := Just g) ((Fr.refl _ _).setRow (.inl (Just.self _)) _) fun k hk e => by rw [just_iff] at e; exact hg (e ▸ hk)
theorem Tab.row {w : World} {g : Nat} (h : Lv.Tab w) (hg : 0 ≠ g) (C : Array Value) : Lv.Tab (w.setRow g C) :=
  Tab.fr h (O := Just g) ((Fr.refl _ _).setRow (.inl (Just.self _)) _) fun e => hg e
theorem TwS.set {w w1 : World} {b : Nat} {O : Nat → Prop} {s : List UInt8} {d : Dt} {TL TK Z R : Array Value} (h : TwS w b O s d TL TK Z R w1) (hT : 0 < w.heap.size) (C : Array Value) : TwS w b O s d TL TK Z C (w1.setRow (w.heap.size + 3) C) := by
  obtain ⟨h1, h2, h3, h4, h5, h6, h7, h8⟩ := h
  exact ⟨h1.setRow (.inr (by omega)) _, DecIs.row h2 (fun c => by have := h7 _ c; omega) _, h3.setRow_other (by omega), h4.setRow_other (by omega), h5.setRow_other (by omega), h6.setRow, h7, Tab.row h8 (by omega) _⟩
theorem TwS.out {w w1 : World} {b : Nat} {O : Nat → Prop} {s : List UInt8} {d : Dt} {TL TK Z R : Array Value} (h : TwS w b O s d TL TK Z R w1) (C : Array Value) :
    Fr O w (w1.setRow (w.heap.size + 2) C) ∧ DecIs (w1.setRow (w.heap.size + 2) C) b O s d ∧ At (w1.setRow (w.heap.size + 2) C) (w.heap.size + 2) C 32 := by
  obtain ⟨h1, h2, h3, h4, h5, h6, h7, h8⟩ := h
  exact ⟨h1.setRow (.inr (by omega)) _, DecIs.row h2 (fun c => by have := h7 _ c; omega) _, h5.setRow⟩
end Go.Proofs.YtfohinlldchdpaaGreatDoor.De
end

section
/- Contract of dec's takeWaves. -/
set_option maxRecDepth 100000
set_option linter.unusedVariables false
namespace Go.Proofs.YtfohinlldchdpaaGreatDoor.De
open Go.RowKit Go.Proofs.YtfohinlldchdpaaGreatDoor.Row Go.Proofs.YtfohinlldchdpaaGreatDoor.Rg

theorem wW_none {f : Nat → Nat} {l : Nat → Int} {k : Nat → Nat} {d : Dt} {q : Nat} (h : k q = 0) : wW f l k d (q + 1) = wW f l k d q ∧ dW f k d (q + 1) = dW f k d q := by
  constructor
  · rw [wW, if_pos h]
  · rw [dW, if_pos h]
theorem wW_some {f : Nat → Nat} {l : Nat → Int} {k : Nat → Nat} {d : Dt} {q : Nat} (h : k q ≠ 0) : wW f l k d (q + 1) = over (wW f l k d q) (Lv.fl (l q) (yW f k d q) (Sp.sB q)) (Lv.fs q) (Sp.sB q) ∧ dW f k d (q + 1) = (decB f 3 (Sp.P q (k q)) (dW f k d q)).2 := by
  constructor
  · rw [wW, if_neg h]
  · rw [dW, if_neg h]

set_option maxHeartbeats 2000000 in
theorem takeWaves_as (TL TK : Array Value) (l : Nat → Int) (k : Nat → Nat) (b : Nat) (O : Nat → Prop) (s : List UInt8) (d : Dt) (w : World) (hL : IsRow 4 l TL) (hK : IsRow 4 (fun i => (k i : Int)) TK) (hk : ∀ i, k i ≤ 8)
    (h : DecIs w b O s d) (hO : ∀ k, O k → k < w.heap.size) (hTO : ¬ O 0) (hd : d.ok) (hg : d.g ≤ 1000) (hs : s.length ≤ 1000) (hT : Lv.Tab w) :
    Calls Tryz.prog 86 #[.agg TL, .agg TK, .func (.func 87) #[.pointer (some ⟨b, 0, none⟩)] #[]] w fun e w' =>
      (∃ R, e = .returned (.agg R) ∧ IsRow 16 (wW (byteF s) l k d 4) R) ∧ DecIs w' b O s (dW (byteF s) k d 4) ∧ Fr O w w' := by
  obtain ⟨Z, hZ, hZ0, hz, hi⟩ := Lv.zero_block
  obtain ⟨_, _, _, _, hi4⟩ := Sp.zero4
  have HS := Lib.hid (TwS.start TL TK Z Z h hO hT)
  have HZ := Lib.hid (show IsRow 16 (wW (byteF s) l k d 0) Z from hZ)
  have HZS := Lib.hid hZ.1
  have HI := Lib.hid hi
  have HIK := Lib.hid (hi4 TK hK.1)
  have HL := Lib.hid hL
  have HK := Lib.hid hK
  have HK8 := Lib.hid hk
  have HO := Lib.hid hO
  have HTO := Lib.hid hTO
  have HTL := Lib.hid hT.lt
  clear hZ hZ0 hi hi4 hL hK hk hO hTO hT h
  go_enter Tryz.func86, Tryz.ntmps86
  go_wp2_with (first
    | refine wpList_load_row rfl 23 _ rfl (w.heap.size + 1) rfl _ _ (0, 0) _ HS.out.2.2.2.1 Tryz.underlying23 rfl HIK.out ?_)
  go_loopw [12] (fun i w' => ∃ (q : Nat) (R : Array Value), q ≤ 4 ∧ i = .int .i64 q ∧ Hid (IsRow 16 (wW (byteF s) l k d q) R) ∧ TwS w b O s (dW (byteF s) k d q) TL TK Z R w') (fun i _ => 4 - (intOf i).toNat)
  case atStart => exact ⟨0, Z, by omega, rfl, HZ, HS.out⟩
  case round =>
    obtain ⟨q, R, hq, rfl, HR, hS⟩ := hrel
    clear HS HZ
    have HS := Lib.hid hS
    clear hS
    by_cases hlt : q < 4
    · have q1 : (q : Int) < 4 := by omega
      have q0 : (0 : Int) ≤ q := by omega
      have c0 := HK.out.2.2 q hlt
      by_cases h0 : k q = 0
      · have HN := Lib.hid (wW_none (f := byteF s) (l := l) (d := d) h0)
        obtain ⟨kq, hkq⟩ : ∃ kq, k q = kq := ⟨_, rfl⟩
        dsimp only at c0
        rw [hkq] at c0 h0
        have hr := run_index Tryz.underlying23 hlt c0
        have kz : ((kq : Int) != 0) = false := by simp; omega
        clear hkq h0 c0
        go_wp2_with fail
        go_roundw
        case rel => exact ⟨q + 1, R, by omega, by go_num, by rw [HN.out.1]; exact HR, by rw [HN.out.2]; exact HS.out⟩
        case measure => simp [intOf]; omega
      · have HN := Lib.hid (wW_some (f := byteF s) (l := l) (d := d) h0)
        have HY := Lib.hid (show yW (byteF s) k d q = vF (Sp.sB q) (k q) (nW (byteF s) k d q) from rfl)
        have HNW := Lib.hid (show nW (byteF s) k d q = (decB (byteF s) 3 (Sp.P q (k q)) (dW (byteF s) k d q)).1 % Ve.V (Sp.sB q) (k q) from rfl)
        obtain ⟨g1, g2⟩ := dW_ok (byteF s) k hd q
        have hk8 := HK8.out q
        obtain ⟨s1, s2, s3, s4⟩ := sB_fs q hlt
        have hm24 := P_24 q hlt (k q) hk8
        have hv1 := V_pos q hlt (k q) hk8
        have hv2 := Ve.V_le s3 hk8
        have hbI : Ve.bI (Sp.sB q) (k q) = Sp.P q (k q) := rfl
        have hcI := Ve.cI_nat s3 hk8
        have HSz := Lib.hid (fun w1 (hT : Lv.Tab w1) => Sp.size_as q (Sp.sB q) w1 hT hlt rfl)
        have hc4 := HL.out.cell HS.out.2.2.1 q hlt
        obtain ⟨kq, hkq⟩ : ∃ kq, k q = kq := ⟨_, rfl⟩
        obtain ⟨n, hn⟩ : ∃ n, Sp.sB q = n := ⟨_, rfl⟩
        obtain ⟨m, hm⟩ : ∃ m, Sp.P q kq = m := ⟨_, rfl⟩
        obtain ⟨lq, hl⟩ : ∃ lq, l q = lq := ⟨_, rfl⟩
        obtain ⟨⟨x, d'⟩, hx⟩ : ∃ xd, decB (byteF s) 3 m (dW (byteF s) k d q) = xd := ⟨_, rfl⟩
        obtain ⟨c, hc⟩ : ∃ c, Ve.V n kq = c := ⟨_, rfl⟩
        obtain ⟨I, hI⟩ : ∃ I, x % c = I := ⟨_, rfl⟩
        dsimp only at c0
        rw [hkq] at c0 h0 hk8
        rw [hkq, hn, hm] at hbI
        rw [hkq, hm] at hm24
        rw [hkq, hn, hc] at hv1 hv2
        rw [hkq, hn, hc] at hcI
        rw [hkq, hn, hm, hc, hx] at HNW
        rw [hkq, hn] at HY
        rw [hkq, hn, hm, hx, hl] at HN
        rw [hn] at HSz s1 s2 s3
        rw [hl] at hc4
        have HYI := Lib.hid (show yW (byteF s) k d q = vF n kq I by rw [HY.out, HNW.out, ← hI])
        have HTV := Lib.hid (fun w1 (hD : DecIs w1 b O s (dW (byteF s) k d q)) (hO : ∀ k, O k → k < w1.heap.size) => takeVector_as n kq m x c I b O s _ d' w1 hD hO g1 (by omega) hs s3 hk8 hbI hm24 hx hcI hv1 hv2 hc hI)
        have hr := run_index Tryz.underlying23 hlt c0
        have kz : ((kq : Int) != 0) = true := by simp; omega
        have hnm : n ≤ maxLen := by unfold maxLen; omega
        have HPN := Lib.hid (⟨Lv.lo_nat q hlt, Lv.hi_nat q hlt, s1, s2, s4⟩ : Lv.lo q = Lv.fs q ∧ Lv.hi q = Lv.fs (q + 1) ∧ Lv.fs q + n = Lv.fs (q + 1) ∧ 1 ≤ n ∧ Lv.fs (q + 1) ≤ 16)
        clear hkq hn hm hl hx hc hI HY HNW h0 c0 g1 g2 hbI hcI hm24 hv1 hv2 s1 s4
        go_wp2_with fail
        refine (HSz.out _ HS.out.2.2.2.2.2.2.2).mono ?_
        rintro e w1 ⟨rfl, h1⟩
        have HS1 := Lib.hid (HS.out.below h1)
        have hc5 : w1.cell? ⟨w.heap.size, q, none⟩ = some (.int .i64 lq) := (Below.cell h1 (block_lt_of_cell hc4)).trans hc4
        clear h1 HS HSz hc4
        go_wp2_with fail
        refine (HTV.out _ HS1.out.2.1 (fun k hk => Nat.lt_of_lt_of_le (HO.out k hk) HS1.out.1.size)).mono ?_
        rintro e w2 ⟨fv, g, U, rfl, hf1, hf2, hg2, hU, hA, hD2, hF2⟩
        have HS2 := Lib.hid (HS1.out.took hD2 hF2 HTO.out)
        have HV := Lib.hid (vF_is hf1 hf2).2
        have hc6 : w2.cell? ⟨w.heap.size, q, none⟩ = some (.int .i64 lq) := hF2.cell hc5 fun c => by have := HO.out _ c; dsimp only at this; omega
        have HSl := Lib.hid (Sl.of_isRow hU hA hnm)
        clear hf1 hf2 hg2 hU hA hD2 hF2 HS1 HTV hc5
        go_wp2_with fail
        refine mf_start (SB w2) (fun j => j == 8) (Below.refl _ _).drew fun hS => ?_
        refine mf_yield (i := 0) (d := 23) (.agg R) rfl rfl (by kernel_rfl) (by kernel_rfl) (by kernel_rfl) (by kernel_rfl) hS (y_load (by rfl) rfl rfl HS2.out.2.2.2.2.2.1 Tryz.underlying32 (HI.out _ HR.out.1)) ?_
        simp only [Act.put, List.setIfInBounds_toArray, List.set_cons_zero, List.set_cons_succ]
        refine mf_yield (i := 1) (d := 24) (.int .i64 q) rfl rfl (by kernel_rfl) (by kernel_rfl) (by kernel_rfl) (by kernel_rfl) hS (y_run (by rfl) fun _ => by rfl) ?_
        simp only [Act.put, List.setIfInBounds_toArray, List.set_cons_zero, List.set_cons_succ]
        refine mf_yield (i := 2) (d := 25) (.int .i64 q) rfl rfl (by kernel_rfl) (by kernel_rfl) (by kernel_rfl) (by kernel_rfl) hS (y_run (by rfl) fun _ => by rfl) ?_
        simp only [Act.put, List.setIfInBounds_toArray, List.set_cons_zero, List.set_cons_succ]
        refine mf_yield (i := 3) (d := 26) (.pointer (some ⟨w.heap.size, q, none⟩)) rfl rfl (by kernel_rfl) (by kernel_rfl) (by kernel_rfl) (by kernel_rfl) hS (y_at (by rfl) rfl rfl rfl Tryz.underlying23 rfl hlt) ?_
        simp only [Act.put, List.setIfInBounds_toArray, List.set_cons_zero, List.set_cons_succ]
        refine mf_yield (i := 4) (d := 27) (.int .i64 lq) rfl rfl (by kernel_rfl) (by kernel_rfl) (by kernel_rfl) (by kernel_rfl) hS (y_cell (by rfl) rfl rfl hc6) ?_
        simp only [Act.put, List.setIfInBounds_toArray, List.set_cons_zero, List.set_cons_succ]
        refine mf_yield (i := 5) (d := 28) (.slice (some ⟨g, 0, none⟩) n n) rfl rfl (by kernel_rfl) (by kernel_rfl) (by kernel_rfl) (by kernel_rfl) hS (y_run (by rfl) fun _ => by rfl) ?_
        simp only [Act.put, List.setIfInBounds_toArray, List.set_cons_zero, List.set_cons_succ]
        refine mf_ready [6] (by kernel_rfl) (by simp) (af_call (i := 6) (d := 29) #[.int .i64 lq, .slice (some ⟨g, 0, none⟩) n n] rfl rfl (by rfl) rfl enter_fill (by kernel_rfl) ((Lv.fill_any lq (some ⟨g, 0, none⟩) n n fv _ (HSl.out.below (Below.refl _ _).drew) (by omega)).mono fun _ _ h => h.out) (fun v w' h => below_trans hS h.below hS.size) ?_ AllReadyF.nil)
        rintro v w3 ⟨g3, U3, rfl, hg3, hU3, hA3, hw3⟩ hS3
        simp only [Act.put, List.setIfInBounds_toArray, List.set_cons_zero, List.set_cons_succ]
        have HT3 := HS2.out.2.2.2.2.2.2.2.next hS3
        have HU3 := Lib.hid (Sl.of_isRow hU3 hA3 hnm)
        have CP := Lib.hid (Lv.put_some R (wW (byteF s) l k d q) (Lv.fl lq fv n) (q : Int) (some ⟨g3, 0, none⟩) n n (Lv.fs q) (Lv.fs (q + 1)) w3 HR.out HT3 HU3.out HPN.out.1 HPN.out.2.1 HPN.out.2.2.1.symm HPN.out.2.2.2.1 HPN.out.2.2.2.2)
        clear hg3 hU3 hA3 hw3 hS HT3 HU3
        refine mf_ready [7] (by kernel_rfl) (by simp) (af_call (i := 7) (d := 30) #[.agg R, .int .i64 q, .slice (some ⟨g3, 0, none⟩) n n] rfl rfl (by rfl) rfl enter_put (by kernel_rfl) (CP.out.mono fun _ _ h => h.out) (fun v w' h => below_trans hS3 h.below hS3.size) ?_ AllReadyF.nil)
        clear CP
        rintro v w4 ⟨U4, rfl, hU4, hw4⟩ hS4
        simp only [Act.put, List.setIfInBounds_toArray, List.set_cons_zero, List.set_cons_succ]
        have HS4 := Lib.hid (HS2.out.below hS4)
        have HU4 := Lib.hid hU4
        clear hS3 hS4 hU4 hw4 HS2
        refine mf_ready [8] (by kernel_rfl) (by simp) (af_store (i := 8) (w.heap.size + 3) U4 R rfl rfl (by rfl) rfl rfl rfl rfl HS4.out.2.2.2.2.2.1 (by rw [HR.out.1, HU4.out.1]) HU4.out.2.1 (HI.out _ HU4.out.1) ?_ AllReadyF.nil)
        refine mf_done (by kernel_rfl) ?_
        have HS5 := Lib.hid (HS4.out.set HTL.out U4)
        clear HS4
        go_wp2_with fail
        go_roundw
        case rel =>
          refine ⟨q + 1, U4, by omega, by go_num, Lib.hid (HU4.out.ext fun i _ => ?_), by rw [HN.out.2]; exact HS5.out⟩
          rw [HN.out.1, HYI.out]
          exact over_ext (fun j hj => fl_ext HV.out j hj) i
        case measure => simp [intOf]; omega
    · obtain rfl : q = 4 := by omega
      have HIR := Lib.hid (HI.out R HR.out.1)
      clear hq hlt
      go_wp2_with (first
        | refine wpList_load_row rfl 32 _ rfl (w.heap.size + 3) rfl _ _ (0, 0) _ HS.out.2.2.2.2.2.1 Tryz.underlying32 rfl HIR.out ?_
        | refine wpList_store_row rfl 32 _ _ rfl (w.heap.size + 2) R rfl rfl _ _ HS.out.2.2.2.2.1 HIR.out (by rw [HZS.out, HR.out.1]) HR.out.2.1 ?_)
      obtain ⟨e1, e2, e3⟩ := HS.out.out R
      exact bodyPost_ret (v := .agg R) (results_cell_row rfl _ _ (w.heap.size + 2) 32 R (0, 0) _ rfl e3 Tryz.underlying32 rfl HIR.out) rfl ⟨⟨R, rfl, HR.out⟩, e2, e1⟩
end Go.Proofs.YtfohinlldchdpaaGreatDoor.De
end

section
/- Contracts of dec's Parts. -/
set_option maxRecDepth 100000
set_option linter.unusedVariables false
namespace Go.Proofs.YtfohinlldchdpaaGreatDoor.De
open Go.RowKit Go.Proofs.YtfohinlldchdpaaGreatDoor.Row Go.Proofs.YtfohinlldchdpaaGreatDoor.Rg Go.Proofs.YtfohinlldchdpaaGreatDoor.Sta

/-- Two rows and a number as results. -/
theorem results_two_int {fn : Func} {p q r : Tmp} {t u t' u' : TypeId} {z : Value} (h : fn.results = #[.cell p t, .cell q u, .tmp r]) (tmps : Array Value) (w : World) (g k : Nat) (A B : Array Value) (d d' : TypeDesc)
    (hp : tmps.getD p undef = .pointer (some ⟨g, 0, none⟩)) (hq : tmps.getD q undef = .pointer (some ⟨k, 0, none⟩)) (hr : tmps.getD r undef = z) (hg : At w g A t') (hk : At w k B u')
    (hu : Tryz.prog.underlying t = some d) (hd : d.isRow = true) (hA : (Tryz.prog.info? t).map (·.size) = some A.size)
    (hu' : Tryz.prog.underlying u = some d') (hd' : d'.isRow = true) (hB : (Tryz.prog.info? u).map (·.size) = some B.size) :
    (results fn tmps).run Tryz.prog w = .ok (.tuple #[.agg A, .agg B, z]) w := by
  have hp' : tmps[p]?.getD undef = .pointer (some ⟨g, 0, none⟩) := by simpa using hp
  have hq' : tmps[q]?.getD undef = .pointer (some ⟨k, 0, none⟩) := by simpa using hq
  have hr' : tmps[r]?.getD undef = z := by simpa using hr
  have h1 := run_loadVar_row w g t' t A (0, 0) _ hg hu (by cases d <;> first | rfl | cases hd) hA
  have h2 := run_loadVar_row w k u' u B (0, 0) _ hk hu' (by cases d' <;> first | rfl | cases hd') hB
  simp [results, h, hp', hq', hr', asAddr, h1, h2]

section
variable {ops : Array Oper} {S : World → Prop} {oi : Oper} {a : Act}
/-- A method taken as a function. -/
theorem y_func {f : FuncId} {y : Operand} {v : Value} (hw : Region.wanted oi (yielded ops a.tmps) = true) (ho : oi.op = .makeFunc (.func f) #[y] #[]) (hy : a.eval y = v) : YieldsIf Tryz.prog ops S oi (.func (.func f) #[v] #[]) a :=
  y_run hw fun w => by
    subst hy
    unfold execOp
    simp only [ho, List.map_toArray, List.map_cons, List.map_nil]
    rfl
end

/-- Levels, waves, and how it went. -/
def RetP (w : World) (l u : Nat → Int) (z : Int) (e : Ending) (w' : World) : Prop := (∃ R U, e = .returned (.tuple #[.agg R, .agg U, .int .i64 z]) ∧ IsRow 4 l R ∧ IsRow 16 u U) ∧ Below w.heap.size w w'

/-- What stands while Parts works. -/
def PaS (w : World) (TL A B : Array Value) (w' : World) : Prop :=
  Below w.heap.size w w' ∧ At w' w.heap.size TL 23 ∧ At w' (w.heap.size + 1) A 23 ∧ At w' (w.heap.size + 2) B 32 ∧ Lv.Tab w' ∧ 0 < w.heap.size
theorem PaS.start (w : World) (TL A B : Array Value) (hT : Lv.Tab w) : PaS w TL A B (((w.alloc (.cells TL 23)).alloc (.cells A 23)).alloc (.cells B 32)) := by
  have a1 := At.new (w.alloc (.cells TL 23)) A 23
  have a2 := At.new ((w.alloc (.cells TL 23)).alloc (.cells A 23)) B 32
  simp only [World.size_alloc] at a1 a2
  have hb : Below w.heap.size w (((w.alloc (.cells TL 23)).alloc (.cells A 23)).alloc (.cells B 32)) := (((Below.refl _ _).alloc (Nat.le_refl _) _).alloc (by simp) _).alloc (by simp; omega) _
  exact ⟨hb, ((At.new w TL 23).alloc _).alloc _, a1.alloc _, a2, hT.next hb, hT.lt⟩
theorem PaS.took {w w1 w2 : World} {O : Nat → Prop} {TL A B : Array Value} (h : PaS w TL A B w1) (hF : Fr O w1 w2) (hO : ∀ k, O k → w.heap.size + 2 < k) : PaS w TL A B w2 := by
  obtain ⟨h1, h2, h3, h4, h5, h6⟩ := h
  refine ⟨h1.trans (hF.below h1.size fun k hk => by have := hO k hk; omega), h2.fr hF ?_, h3.fr hF ?_, h4.fr hF ?_, Tab.fr h5 hF ?_, h6⟩ <;> (intro c; have := hO _ c; omega)
theorem PaS.below {w w1 w2 : World} {TL A B : Array Value} (h : PaS w TL A B w1) (hB : Below w1.heap.size w1 w2) : PaS w TL A B w2 := h.took (.of_below (T := fun _ => False) hB) fun _ c => c.elim
theorem PaS.row {w w1 : World} {TL A B : Array Value} (h : PaS w TL A B w1) {g : Nat} (hg : w.heap.size + 2 < g) (C : Array Value) : PaS w TL A B (w1.setRow g C) :=
  h.took (O := Just g) ((Fr.refl _ _).setRow (.inl (Just.self _)) _) fun k hk => by rw [just_iff] at hk; omega
theorem PaS.set1 {w w1 : World} {TL A B : Array Value} (h : PaS w TL A B w1) (C : Array Value) : PaS w TL C B (w1.setRow (w.heap.size + 1) C) := by
  obtain ⟨h1, h2, h3, h4, h5, h6⟩ := h
  exact ⟨below_setRow' h1 (by omega) _, h2.setRow_other (by omega), h3.setRow, h4.setRow_other (by omega), Tab.row h5 (by omega) _, h6⟩
theorem PaS.set2 {w w1 : World} {TL A B : Array Value} (h : PaS w TL A B w1) (C : Array Value) : PaS w TL A C (w1.setRow (w.heap.size + 2) C) := by
  obtain ⟨h1, h2, h3, h4, h5, h6⟩ := h
  exact ⟨below_setRow' h1 (by omega) _, h2.setRow_other (by omega), h3.setRow_other (by omega), h4.setRow, Tab.row h5 (by omega) _, h6⟩

theorem enter_pulses (args : Array Value) (w : World) : (callFunc 75 args).run Tryz.prog w = .ok (.enter 75 args) w := run_enter Tryz.func75 (by kernel_rfl) rfl args w
theorem enter_takeWaves (args : Array Value) (w : World) : (callFunc 86 args).run Tryz.prog w = .ok (.enter 86 args) w := run_enter Tryz.func86 (by kernel_rfl) rfl args w

/-- The waves behind a packet. -/
noncomputable def wB (f : Nat → Nat) (L : Nat → Int) (n : Nat) : Nat → Int := wW f (lB f L) (kS f L n) (dL f 4) 4
theorem wB_le (f : Nat → Nat) (L : Nat → Int) (n i : Nat) : -1048576 ≤ wB f L n i ∧ wB f L n i ≤ 1048576 := wW_le f _ _ (kS_le f L n) 4 (Nat.le_refl _) i

set_option maxHeartbeats 2000000 in
theorem parts_yes (TL : Array Value) (L : Nat → Int) (B : ByteArray) (s : List UInt8) (n : Nat) (w : World) (hR : IsRow 4 L TL) (hs : ⟨s.toArray⟩ = B) (hn : B.size = n) (h : 10 ≤ n ∧ n ≤ 32) (hL : Sp.okL L) (hT : Lv.Tab w) :
    Calls Tryz.prog 36 #[.agg TL, .string B] w (RetP w (lB (byteF s) L) (wB (byteF s) L n) 0) := by
  obtain ⟨Z4, hZ4, _, hz4, hi4⟩ := zero_4
  obtain ⟨Zb, hZb, _, hzb, hib⟩ := zero_b
  have hmf : ∀ (fn : Fn) (first cap : Array Value) (w : World), (Instr.makeFunc fn first cap).run Tryz.prog w = .ok (.func fn first cap) w := fun _ _ _ _ => rfl
  have hsn : s.length = n := by rw [← hn, ← hs]; rfl
  have HS := Lib.hid (PaS.start w TL Z4 Zb hT)
  have HI4 := Lib.hid hi4
  have HIB := Lib.hid hib
  have HZ4 := Lib.hid hZ4.1
  have HZB := Lib.hid hZb.1
  have HN := Lib.hid h
  have HIL := Lib.hid (hi4 TL hR.1)
  have HL := Lib.hid (fun w' => areLevels_yes TL L w' hR hL)
  have HR := Lib.hid hR
  have HOL := Lib.hid hL
  have HB := Lib.hid hs
  have HSN := Lib.hid hsn
  have n32 := h.2
  clear hT hi4 hib hZ4 hZb h hR hL hs hsn
  go_enter Tryz.func36, Tryz.ntmps36
  go_wp2_with fail
  refine (isSize_yes n _ HN.out.1 HN.out.2).mono ?_
  rintro e w1 ⟨rfl, rfl⟩
  go_wp2_with (refine wpList_load_row rfl 23 _ rfl w.heap.size rfl _ _ (0, 0) _ HS.out.2.1 Tryz.underlying23 rfl HIL.out ?_)
  refine (HL.out _).mono ?_
  rintro e w1 ⟨rfl, hb⟩
  replace HS := Lib.hid (HS.out.below hb)
  clear hb HL
  go_wp2_with fail
  refine (newDec_as B s _ HB.out (by have := HSN.out; omega)).mono ?_
  rintro e w2 ⟨b, O0, rfl, hD, hO0, hb⟩
  obtain ⟨O, hD, hO⟩ := hD.tight
  have HO := Lib.hid (fun k (hk : O k) => (show w.heap.size + 2 < k from by have := hO0 k (hO k hk).1; have := HS.out.2.2.2.1.lt; omega))
  have HOT := Lib.hid (fun k (hk : O k) => (hO k hk).2)
  replace HS := Lib.hid (HS.out.below hb)
  have HD := Lib.hid hD
  clear hb hD hO hO0
  go_wp2_with (refine wpList_load_row rfl 23 _ rfl w.heap.size rfl _ _ (0, 0) _ HS.out.2.1 Tryz.underlying23 rfl HIL.out ?_)
  refine (takeLevels_as TL L b O s _ HR.out HOL.out HD.out HOT.out (by have := HSN.out; omega)).mono ?_
  rintro e w3 ⟨⟨R, rfl, hR⟩, hD, hF⟩
  have HR3 := Lib.hid hR
  have HIR := Lib.hid (HI4.out R hR.1)
  replace HOT := Lib.hid (fun k (hk : O k) => Nat.lt_of_lt_of_le (HOT.out k hk) hF.size)
  replace HS := Lib.hid (HS.out.took hF HO.out)
  replace HD := Lib.hid hD
  clear hR hD hF
  have HA8 := Lib.hid ((At.new w3 Z4 23).setRow (C := R))
  have HS8 := Lib.hid (PaS.row (HS.out.below ((Below.refl _ _).alloc (Nat.le_refl _) (.cells Z4 23))) (g := w3.heap.size) (by have := HS.out.2.2.2.1.lt; omega) R)
  have HD8 := Lib.hid (DecIs.row (HD.out.below ((Below.refl _ _).alloc (Nat.le_refl _) (.cells Z4 23))) (g := w3.heap.size) (fun c => by have := HOT.out _ c; omega) R)
  have HO8 := Lib.hid (fun k (hk : O k) => (show k < w3.heap.size from HOT.out k hk))
  have HS3 := Lib.hid (show w.heap.size + 2 < w3.heap.size from HS.out.2.2.2.1.lt)
  have HSZ := Lib.hid (show w3.heap.size < ((w3.alloc (.cells Z4 23)).setRow w3.heap.size R).heap.size by rw [size_setRow]; simp)
  go_wp2_with (refine wpList_store_row rfl 23 _ _ rfl w3.heap.size R rfl rfl _ _ (At.new w3 Z4 23) HIR.out (by rw [HZ4.out, HR3.out.1]) HR3.out.2.1 ?_)
  clear HS HD HOT
  revert HA8 HS8 HD8 HSZ
  generalize World.setRow _ _ _ = W
  intro HA8 HS8 HD8 HSZ
  have hb9 : w.heap.size + 2 < w3.heap.size := HS3.out
  obtain ⟨b8, hb8⟩ : ∃ b8, w3.heap.size = b8 := ⟨_, rfl⟩
  rw [hb8] at HA8 HO8 HSZ hb9 ⊢
  clear hb8 HS3 w3
  obtain ⟨d1, d2⟩ := dL_ok (byteF s) 4
  obtain ⟨u1, u2⟩ := dt_used_bd d1 (by omega)
  obtain ⟨m1, m2⟩ := rmS_bd (byteF s) n
  have HM := Lib.hid (show Sp.rm n (dL (byteF s) 4).used = rmS (byteF s) n from rfl)
  obtain ⟨u, hu⟩ : ∃ u, (dL (byteF s) 4).used = u := ⟨_, rfl⟩
  obtain ⟨m, hm⟩ : ∃ m, rmS (byteF s) n = m := ⟨_, rfl⟩
  rw [hu] at u1 u2 HM
  rw [hm] at m1 m2 HM
  have HU := Lib.hid hu
  have HMM := Lib.hid hm
  clear hu hm
  go_wp2_with fail
  refine (decUsed_as _ b O s _ u HD8.out d1 (by omega) HU.out).mono ?_
  rintro e w4 ⟨rfl, hb⟩
  replace HS8 := Lib.hid (HS8.out.below hb)
  replace HD8 := Lib.hid (HD8.out.below hb)
  replace HA8 := Lib.hid (HA8.out.below hb HA8.out.lt)
  replace HSZ := Lib.hid (Nat.lt_of_lt_of_le HSZ.out hb.size)
  clear hb W HU
  go_wp2_with fail
  refine (Sp.room_any n u _ (by omega)).mono ?_
  rw [HM.out]
  rintro e w5 ⟨rfl, rfl⟩
  clear HM u1 u2
  have HPU := Lib.hid (fun w' (hT : Lv.Tab w') => Sp.pulses_yes R (lB (byteF s) L) m w' HR3.out (lB_ok _ _) m1 m2 hT)
  have HKS := Lib.hid (show ∀ i, Sp.given (lB (byteF s) L) m i = kS (byteF s) L n i by rw [← HMM.out]; exact fun _ => rfl)
  clear m1 m2 HMM
  go_wp2_with fail
  refine mv_startS (fun w' => At w' b8 R 23) HA8.out fun hS => ?_
  refine mv_yield (i := 0) (d := 31) (.agg R) rfl rfl (by kernel_rfl) (by kernel_rfl) (by kernel_rfl) hS (y_loadS (by rfl) rfl rfl (fun _ h => h) Tryz.underlying23 HIR.out) ?_
  simp only [Act.put, List.setIfInBounds_toArray, List.set_cons_zero, List.set_cons_succ]
  refine mv_yield (i := 1) (d := 32) (.agg R) rfl rfl (by kernel_rfl) (by kernel_rfl) (by kernel_rfl) hS (y_loadS (by rfl) rfl rfl (fun _ h => h) Tryz.underlying23 HIR.out) ?_
  simp only [Act.put, List.setIfInBounds_toArray, List.set_cons_zero, List.set_cons_succ]
  refine mv_yield (i := 2) (d := 33) (.agg R) rfl rfl (by kernel_rfl) (by kernel_rfl) (by kernel_rfl) hS (y_loadS (by rfl) rfl rfl (fun _ h => h) Tryz.underlying23 HIR.out) ?_
  simp only [Act.put, List.setIfInBounds_toArray, List.set_cons_zero, List.set_cons_succ]
  refine mv_yield (i := 3) (d := 34) (.int .i64 m) rfl rfl (by kernel_rfl) (by kernel_rfl) (by kernel_rfl) hS (y_run (by rfl) fun _ => by rfl) ?_
  simp only [Act.put, List.setIfInBounds_toArray, List.set_cons_zero, List.set_cons_succ]
  refine mv_yield (i := 5) (d := 36) (.pointer (some ⟨b, 0, none⟩)) rfl rfl (by kernel_rfl) (by kernel_rfl) (by kernel_rfl) hS (y_run (by rfl) fun _ => by rfl) ?_
  simp only [Act.put, List.setIfInBounds_toArray, List.set_cons_zero, List.set_cons_succ]
  refine mv_yield (i := 6) (d := 37) (.func (.func 87) #[.pointer (some ⟨b, 0, none⟩)] #[]) rfl rfl (by kernel_rfl) (by kernel_rfl) (by kernel_rfl) hS (y_func (by rfl) rfl rfl) ?_
  simp only [Act.put, List.setIfInBounds_toArray, List.set_cons_zero, List.set_cons_succ]
  refine mv_ready [4] (by kernel_rfl) (by simp) (ar_callE (i := 4) (d := 35) (R := fun v w' => (∃ T, v = .agg T ∧ IsRow 4 (fun i => (kS (byteF s) L n i : Int)) T) ∧ Below w4.drew.heap.size w4.drew w') #[.agg R, .int .i64 m] rfl rfl (by rfl) rfl enter_pulses (by kernel_rfl)
    ((HPU.out _ (HS8.out.2.2.2.2.1.next (Below.refl _ _).drew)).mono fun e w' ⟨⟨T, he, hT⟩, hb⟩ => ⟨_, he, ⟨T, rfl, hT.ext fun i _ => by rw [HKS.out i]⟩, hb⟩) (fun v w' h => hS.below h.2 hS.lt) ?_ AllReadyH.nil)
  rintro v w5 ⟨⟨K, rfl, hK⟩, hb⟩ hS5
  simp only [Act.put, List.setIfInBounds_toArray, List.set_cons_zero, List.set_cons_succ]
  have hb' : Below w4.heap.size w4 w5 := ⟨hb.os, hb.tape, hb.output, hb.size, hb.block⟩
  have HK := Lib.hid hK
  replace HS8 := Lib.hid (HS8.out.below hb')
  replace HD8 := Lib.hid (HD8.out.below hb')
  replace HSZ := Lib.hid (Nat.lt_of_lt_of_le HSZ.out hb'.size)
  clear hb hb' hK hS HPU HKS HA8
  have HTW := Lib.hid (takeWaves_as R K (lB (byteF s) L) (kS (byteF s) L n) b O s (dL (byteF s) 4) w5 HR3.out HK.out (kS_le _ _ _) HD8.out (fun k hk => Nat.lt_trans (HO8.out k hk) HSZ.out) (fun c => by have := HO.out _ c; have := HS8.out.2.2.2.2.2; omega) d1 (by omega) (by have := HSN.out; omega) HS8.out.2.2.2.2.1)
  refine mv_ready [7] (by kernel_rfl) (by simp) (ar_callE (i := 7) (d := 38) (R := fun v w' => (∃ T, v = .agg T ∧ IsRow 16 (wB (byteF s) L n) T) ∧ Fr O w5 w') #[.agg R, .agg K, .func (.func 87) #[.pointer (some ⟨b, 0, none⟩)] #[]] rfl rfl (by rfl) rfl enter_takeWaves (by kernel_rfl)
    (HTW.out.mono fun e w' ⟨⟨T, he, hT⟩, _, hf⟩ => ⟨_, he, ⟨T, rfl, hT⟩, hf⟩) (fun v w' h => hS5.fr h.2 fun c => by have := HO8.out _ c; omega) ?_ AllReadyH.nil)
  rintro v w6 ⟨⟨U, rfl, hU⟩, hf⟩ hS6
  simp only [Act.put, List.setIfInBounds_toArray, List.set_cons_zero, List.set_cons_succ]
  have HU := Lib.hid hU
  have HIU := Lib.hid (HIB.out U hU.1)
  replace HS8 := Lib.hid (HS8.out.took hf HO.out)
  have hne1 : b8 ≠ w.heap.size + 1 := by omega
  have hne2 : b8 ≠ w.heap.size + 2 := by omega
  clear hf hS5 HTW HD8 hU HSZ
  refine mv_ready [8] (by kernel_rfl) (by simp) (ar_store (i := 8) (w.heap.size + 1) R Z4 rfl rfl (by rfl) rfl rfl rfl HS8.out.2.2.1 (by rw [HZ4.out, HR3.out.1]) HR3.out.2.1 HIR.out (hS6.setRow_other hne1) (fun hS7 => ?_) AllReadyH.nil)
  have HS9 := Lib.hid (HS8.out.set1 R)
  clear HS8 hS6
  refine mv_ready [9] (by kernel_rfl) (by simp) (ar_store (i := 9) (w.heap.size + 2) U Zb rfl rfl (by rfl) rfl rfl rfl HS9.out.2.2.2.1 (by rw [HZB.out, HU.out.1]) HU.out.2.1 HIU.out (hS7.setRow_other hne2) (fun hS8 => ?_) AllReadyH.nil)
  have HS10 := Lib.hid (HS9.out.set2 U)
  clear HS9 hS7
  refine mv_yield (i := 10) (d := 6) (.int .i64 0) rfl rfl (by kernel_rfl) (by kernel_rfl) (by kernel_rfl) hS8 (y_run (by rfl) fun _ => by rfl) ?_
  simp only [Act.put, List.setIfInBounds_toArray, List.set_cons_zero, List.set_cons_succ]
  refine mv_done (by kernel_rfl) ?_
  clear hS8
  go_wp2
  exact bodyPost_ret (v := .tuple #[.agg R, .agg U, .int .i64 0]) (results_two_int rfl _ _ (w.heap.size + 1) (w.heap.size + 2) R U _ _ rfl rfl rfl HS10.out.2.2.1 HS10.out.2.2.2.1 Tryz.underlying23 rfl HIR.out Tryz.underlying32 rfl HIU.out) rfl ⟨⟨R, U, rfl, HR3.out, HU.out⟩, HS10.out.1⟩
end Go.Proofs.YtfohinlldchdpaaGreatDoor.De
end

section
/- Contracts of dec's Decode. -/
set_option maxRecDepth 100000
set_option linter.unusedVariables false
namespace Go.Proofs.YtfohinlldchdpaaGreatDoor.De
open Go.RowKit Go.Proofs.YtfohinlldchdpaaGreatDoor.Row Go.Proofs.YtfohinlldchdpaaGreatDoor.Rg Go.Proofs.YtfohinlldchdpaaGreatDoor.Sta

theorem th_lev {v u : Nat → Int} (hv : Sp.okL v) (hu : ∀ i, -1048576 ≤ u i ∧ u i ≤ 1048576) : Rt (thF v u 0) := by
  refine ⟨fun i hi => ?_, ?_, fun i hi => ?_, fun i hi => ?_, ?_⟩
  · unfold thF; rw [stF_mem _ _ _ _ _ hi]; omega
  · unfold thF; rw [stF_last]; omega
  · unfold thF; rw [stF_lev _ _ _ _ _ hi]; exact hv i hi
  · have := hu i
    have e : thF v u 0 (21 + i) = u i := by unfold thF; exact stF_wav _ _ _ _ _ hi
    show Md.ab (thF v u 0 (21 + i)) ≤ _
    rw [e]
    exact Md.ab_le (by omega) (by omega)
  · unfold thF; rw [stF_lost]; omega

/-- A block, a state, and how it went. -/
def RetD (w : World) (h g : Nat → Int) (z : Int) (e : Ending) (w' : World) : Prop := (∃ R Q, e = .returned (.tuple #[.agg R, .agg Q, .int .i64 z]) ∧ IsRow 16 h R ∧ IsRow 38 g Q) ∧ Below w.heap.size w w'

/-- What stands while Decode works. -/
def DcS (w : World) (T A B : Array Value) (w' : World) : Prop :=
  Below w.heap.size w w' ∧ At w' w.heap.size T 34 ∧ At w' (w.heap.size + 1) A 32 ∧ At w' (w.heap.size + 2) B 34 ∧ Lv.Tab w' ∧ 0 < w.heap.size
theorem DcS.start (w : World) (T A B : Array Value) (hT : Lv.Tab w) : DcS w T A B (((w.alloc (.cells T 34)).alloc (.cells A 32)).alloc (.cells B 34)) := by
  have a1 := At.new (w.alloc (.cells T 34)) A 32
  have a2 := At.new ((w.alloc (.cells T 34)).alloc (.cells A 32)) B 34
  simp only [World.size_alloc] at a1 a2
  have hb : Below w.heap.size w (((w.alloc (.cells T 34)).alloc (.cells A 32)).alloc (.cells B 34)) := (((Below.refl _ _).alloc (Nat.le_refl _) _).alloc (by simp) _).alloc (by simp; omega) _
  exact ⟨hb, ((At.new w T 34).alloc _).alloc _, a1.alloc _, a2, hT.next hb, hT.lt⟩
theorem DcS.below {w w1 w2 : World} {T A B : Array Value} (h : DcS w T A B w1) (hb : Below w1.heap.size w1 w2) : DcS w T A B w2 := by
  obtain ⟨h1, h2, h3, h4, h5, h6⟩ := h
  exact ⟨below_trans h1 hb h1.size, h2.below hb h2.lt, h3.below hb h3.lt, h4.below hb h4.lt, h5.next hb, h6⟩
theorem DcS.set1 {w w1 : World} {T A B : Array Value} (h : DcS w T A B w1) (C : Array Value) : DcS w T C B (w1.setRow (w.heap.size + 1) C) := by
  obtain ⟨h1, h2, h3, h4, h5, h6⟩ := h
  exact ⟨below_setRow' h1 (by omega) _, h2.setRow_other (by omega), h3.setRow, h4.setRow_other (by omega), Tab.row h5 (by omega) _, h6⟩
theorem DcS.set2 {w w1 : World} {T A B : Array Value} (h : DcS w T A B w1) (C : Array Value) : DcS w T A C (w1.setRow (w.heap.size + 2) C) := by
  obtain ⟨h1, h2, h3, h4, h5, h6⟩ := h
  exact ⟨below_setRow' h1 (by omega) _, h2.setRow_other (by omega), h3.setRow_other (by omega), h4.setRow, Tab.row h5 (by omega) _, h6⟩

/-- The sound of a packet, and the state then. -/
noncomputable def soD (F : Nat → Nat) (f : Nat → Int) (n : Nat) : Nat → Int := soF f (wB F (fun i => f (17 + i)) n)
noncomputable def nxD (F : Nat → Nat) (f : Nat → Int) (n : Nat) : Nat → Int := nxF f (lB F fun i => f (17 + i)) (wB F (fun i => f (17 + i)) n) 0

set_option maxHeartbeats 2000000 in
theorem decode_yes (T : Array Value) (f : Nat → Int) (B : ByteArray) (s : List UInt8) (n : Nat) (w : World) (hR : IsRow 38 f T) (hs : ⟨s.toArray⟩ = B) (hn : B.size = n) (h : 10 ≤ n ∧ n ≤ 32) (hr : Rt f) (hT : Lv.Tab w) :
    Calls Tryz.prog 16 #[.agg T, .string B] w (RetD w (soD (byteF s) f n) (nxD (byteF s) f n) 0) := by
  obtain ⟨Zp, hZp, _, hzp, hip⟩ := zero_p
  obtain ⟨Zb, hZb, _, hzb, hib⟩ := zero_b
  obtain ⟨Z4, hZ4, _, hz4, hi4⟩ := zero_4
  have HS := Lib.hid (DcS.start w T Zb Zp hT)
  have HIP := Lib.hid hip
  have HIB := Lib.hid hib
  have HI4 := Lib.hid hi4
  have HZP := Lib.hid hZp.1
  have HZB := Lib.hid hZb.1
  have HZ4 := Lib.hid hZ4.1
  have HN := Lib.hid h
  have HR := Lib.hid hR
  have HRT := Lib.hid hr
  have HL := Lib.hid (fun w' => right_yes T f w' hR hr)
  have HV := Lib.hid (hR.sub (show 17 + 4 ≤ 38 by omega))
  obtain ⟨V, hV⟩ : ∃ M, T.extract 17 (17 + 4) = M := ⟨_, rfl⟩
  rw [hV] at HV
  have HPA := Lib.hid (fun w' (hT : Lv.Tab w') => parts_yes V (fun i => f (17 + i)) B s n w' HV.out hs hn h hr.2.2.1 hT)
  have HTH := Lib.hid (th_lev (lB_ok (byteF s) fun i => f (17 + i)) (wB_le (byteF s) (fun i => f (17 + i)) n))
  clear hT hip hib hi4 hZp hZb hZ4 h hR hr hV hs
  go_enter Tryz.func16, Tryz.ntmps16
  go_wp2_with fail
  refine (isSize_yes n _ HN.out.1 HN.out.2).mono ?_
  rintro e w1 ⟨rfl, rfl⟩
  go_wp2_with (refine wpList_load_all (by rfl) 34 _ rfl w.heap.size rfl HR.out HS.out.2.1 Tryz.underlying34 rfl HIP.out ?_)
  refine (HL.out _).mono ?_
  rintro e w1 ⟨rfl, hb⟩
  replace HS := Lib.hid (HS.out.below hb)
  clear hb HL
  go_wp2_with (refine wpList_load_part (by rfl) 23 _ rfl w.heap.size 17 rfl HR.out HS.out.2.1 HV.out (by omega) (fun i _ => rfl) Tryz.underlying23 rfl (HI4.out _ HV.out.1) ?_)
  refine (HPA.out _ HS.out.2.2.2.2.1).mono ?_
  rintro e w2 ⟨⟨R, U, rfl, hR2, hU2⟩, hb⟩
  have HR2 := Lib.hid hR2
  have HU2 := Lib.hid hU2
  replace HS := Lib.hid (HS.out.below hb)
  have HNX := Lib.hid (fun w' => next_yes T R U f _ _ 0 HR.out hR2 hU2 HRT.out HTH.out w')
  clear hR2 hU2 hb HPA
  have HU := Lib.hid (Duo.start (Below.refl w2.heap.size w2) Z4 Zb 23 32)
  go_wp2_with (first
    | (refine wpList_store_row rfl 23 _ _ rfl w2.heap.size R rfl rfl _ _ HU.out.2.2.1 (HI4.out _ HR2.out.1) (by rw [HZ4.out, HR2.out.1]) HR2.out.2.1 ?_
       replace HU := Lib.hid (HU.out.set1 R)
       revert HU
       generalize World.setRow _ _ _ = W4
       intro HU)
    | (refine wpList_store_row rfl 32 _ _ rfl (w2.heap.size + 1) U rfl rfl _ _ HU.out.2.2.2 (HIB.out _ HU2.out.1) (by rw [HZB.out, HU2.out.1]) HU2.out.2.1 ?_
       replace HU := Lib.hid (HU.out.set2 U)
       have HS5 := Lib.hid (HS.out.below HU.out.1)
       clear HS
       revert HU HS5
       generalize World.setRow _ _ _ = W5
       intro HU HS5)
    | refine wpList_load_all (by rfl) 34 _ rfl w.heap.size rfl HR.out HS5.out.2.1 Tryz.underlying34 rfl HIP.out ?_
    | refine wpList_load_all (by rfl) 23 _ rfl w2.heap.size rfl HR2.out HU.out.2.2.1 Tryz.underlying23 rfl HI4.out ?_
    | refine wpList_load_all (by rfl) 32 _ rfl (w2.heap.size + 1) rfl HU2.out HU.out.2.2.2 Tryz.underlying32 rfl HIB.out ?_)
  refine (HNX.out _).mono ?_
  rintro e w6 ⟨⟨X, Y, rfl, hX, hY⟩, hb⟩
  have HX := Lib.hid hX
  have HY := Lib.hid hY
  have HS6 := Lib.hid (HS5.out.below hb)
  clear hX hY hb HU HS5 HNX HR2 HU2
  have HV6 := Lib.hid (Duo.start (Below.refl w6.heap.size w6) Zb Zp 32 34)
  go_wp2_with (first
    | (refine wpList_store_row rfl 32 _ _ rfl w6.heap.size X rfl rfl _ _ HV6.out.2.2.1 (HIB.out _ HX.out.1) (by rw [HZB.out, HX.out.1]) HX.out.2.1 ?_
       replace HV6 := Lib.hid (HV6.out.set1 X)
       revert HV6
       generalize World.setRow _ _ _ = W4
       intro HV6)
    | (refine wpList_store_row rfl 34 _ _ rfl (w6.heap.size + 1) Y rfl rfl _ _ HV6.out.2.2.2 (HIP.out _ HY.out.1) (by rw [HZP.out, HY.out.1]) HY.out.2.1 ?_
       replace HV6 := Lib.hid (HV6.out.set2 Y)
       have HS7 := Lib.hid (HS6.out.below HV6.out.1)
       have HLT := Lib.hid (HS6.out.2.2.2.1.lt)
       clear HS6
       revert HV6 HS7
       generalize World.setRow _ _ _ = W5
       intro HV6 HS7))
  have hlt := HLT.out
  obtain ⟨g, hg⟩ : ∃ g, w6.heap.size = g := ⟨_, rfl⟩
  have A1 := Lib.hid HV6.out.2.2.1
  have A2 := Lib.hid HV6.out.2.2.2
  rw [hg] at A1 A2 hlt ⊢
  clear hg HV6 HLT w6
  have HIX := Lib.hid (HIB.out X HX.out.1)
  have HIY := Lib.hid (HIP.out Y HY.out.1)
  refine mv_startS (fun w' => At w' g X 32 ∧ At w' (g + 1) Y 34) ⟨A1.out, A2.out⟩ fun hS => ?_
  refine mv_yield (i := 0) (d := 38) (.agg X) rfl rfl (by kernel_rfl) (by kernel_rfl) (by kernel_rfl) hS (y_load_part (l := 0) (by rfl) rfl rfl HX.out (fun _ h => h.1) HX.out (by omega) (fun i _ => by rw [Nat.zero_add]) Tryz.underlying32 rfl HIX.out) ?_
  simp only [Act.put, List.setIfInBounds_toArray, List.set_cons_zero, List.set_cons_succ]
  refine mv_yield (i := 1) (d := 39) (.agg Y) rfl rfl (by kernel_rfl) (by kernel_rfl) (by kernel_rfl) hS (y_load_part (l := 0) (by rfl) rfl rfl HY.out (fun _ h => h.2) HY.out (by omega) (fun i _ => by rw [Nat.zero_add]) Tryz.underlying34 rfl HIY.out) ?_
  simp only [Act.put, List.setIfInBounds_toArray, List.set_cons_zero, List.set_cons_succ]
  have HS8 := Lib.hid (show DcS w T Zb Zp W5.drew from ⟨HS7.out.1.drew, HS7.out.2⟩)
  clear HS7
  refine mv_ready [2] (by kernel_rfl) (by simp) (ar_store (i := 2) (w.heap.size + 1) X Zb rfl rfl (by rfl) rfl rfl rfl HS8.out.2.2.1 (by rw [HZB.out, HX.out.1]) HX.out.2.1 HIX.out ⟨hS.1.setRow_other (by omega), hS.2.setRow_other (by omega)⟩ (fun hS7 => ?_) AllReadyH.nil)
  have HS9 := Lib.hid (HS8.out.set1 X)
  clear HS8 hS
  refine mv_ready [3] (by kernel_rfl) (by simp) (ar_store (i := 3) (w.heap.size + 2) Y Zp rfl rfl (by rfl) rfl rfl rfl HS9.out.2.2.2.1 (by rw [HZP.out, HY.out.1]) HY.out.2.1 HIY.out ⟨hS7.1.setRow_other (by omega), hS7.2.setRow_other (by omega)⟩ (fun hS8 => ?_) AllReadyH.nil)
  have HS10 := Lib.hid (HS9.out.set2 Y)
  clear HS9 hS7
  refine mv_yield (i := 4) (d := 6) (.int .i64 0) rfl rfl (by kernel_rfl) (by kernel_rfl) (by kernel_rfl) hS8 (y_run (by rfl) fun _ => by rfl) ?_
  simp only [Act.put, List.setIfInBounds_toArray, List.set_cons_zero, List.set_cons_succ]
  refine mv_done (by kernel_rfl) ?_
  clear hS8
  go_wp2
  exact bodyPost_ret (v := .tuple #[.agg X, .agg Y, .int .i64 0]) (results_two_int rfl _ _ (w.heap.size + 1) (w.heap.size + 2) X Y _ _ rfl rfl rfl HS10.out.2.2.1 HS10.out.2.2.2.1 Tryz.underlying32 rfl HIX.out Tryz.underlying34 rfl HIY.out) rfl ⟨⟨X, Y, rfl, HX.out, HY.out⟩, HS10.out.1⟩
end Go.Proofs.YtfohinlldchdpaaGreatDoor.De
end

section
/- A row of frames as mathematics: the encoder behind each, their packets; a decoder is in step; nothing stays nothing, sound dies away. -/
set_option maxRecDepth 100000
set_option linter.unusedVariables false
namespace Go.Proofs.YtfohinlldchdpaaGreatDoor.En
open Go.RowKit Go.Proofs.YtfohinlldchdpaaGreatDoor.Row Go.Proofs.YtfohinlldchdpaaGreatDoor.Rg Go.Proofs.YtfohinlldchdpaaGreatDoor.Md Go.Proofs.YtfohinlldchdpaaGreatDoor.Tl Go.Proofs.YtfohinlldchdpaaGreatDoor.Sta

/-- A frame's packet, and the encoder then. -/
def pkt (f b : Nat → Int) (m : Nat) : List UInt8 := pkE (lvA f) (lvE f b) (wvE f b) m
/-- The state in an encoder. -/
def stE (f : Nat → Int) (i : Nat) : Int := f (17 + i)
noncomputable def nxE (f b : Nat → Int) (m : Nat) : Nat → Int := enF (liS (f 16) b) (ct22 (b 15)) (De.nxD (byteF (pkt f b m)) (stE f) m)
theorem pkt_length {f b : Nat → Int} {m : Nat} (hf : Re f) (h1 : 10 ≤ m) (h2 : m ≤ 32) : (pkt f b m).length = m := pkE_length (lvA_ok hf) (lvE_ok _ _) _ h1 h2

theorem re_zero : Re fun _ => 0 := ⟨fun i hi => by dsimp only; omega, by dsimp only; omega, rt_zero⟩

/-! No waves, no levels. -/
theorem lv_no {u : Nat → Int} (hu : ∀ i, i < 16 → u i = 0) {b : Nat} (hb : b < 4) : Lv.lvB u b = 0 := by
  have h := (De.sB_fs b hb)
  have e : Lv.lvB u b = Lv.lvB (fun _ => 0) b := by
    unfold Lv.lvB
    refine Lv.lv_ext _ _ _ fun i hi => ?_
    dsimp only
    rw [hu _ (by omega)]
  rw [e]
  have : ∀ b : Fin 4, Lv.lvB (fun _ => 0) b.val = 0 := by decide +kernel
  exact this ⟨b, hb⟩
section
variable {L l W : Nat → Int} {n : Nat}
theorem wB_none (hL : Sp.okL L) (hl : Sp.okL l) (h0 : ∀ b, b < 4 → l b = 0) : De.wB (fE L l W n) L n = fun _ => 0 := by
  have hk : ∀ b, b < 4 → De.kS (fE L l W n) L n b = 0 := fun b hb => by rw [kS_met hL hl]; exact kE_none (h0 b hb)
  unfold De.wB
  have : ∀ b, b ≤ 4 → De.wW (fE L l W n) (De.lB (fE L l W n) L) (De.kS (fE L l W n) L n) (De.dL (fE L l W n) 4) b = fun _ => 0 := by
    intro b
    induction b with
    | zero => intro _; rfl
    | succ b ih =>
      intro hb
      unfold De.wW
      rw [if_pos (hk b (by omega))]
      exact ih (by omega)
  exact this 4 (Nat.le_refl _)
end
/-- A state that hangs on its four levels and sixteen waves alone. -/
theorem nxF_ext {f v v' u : Nat → Int} {z : Int} (h : ∀ b, b < 4 → v b = v' b) : nxF f v u z = nxF f v' u z := by
  funext k
  unfold nxF stF
  repeat' split
  all_goals first | rfl | exact h _ (by omega)
/-- What a decoder hears of a frame without waves. -/
theorem dec_none {f b : Nat → Int} {m : Nat} (hf : Re f) (hu : ∀ i, i < 16 → wvE f b i = 0) :
    De.nxD (byteF (pkt f b m)) (stE f) m = nxF (stE f) (fun _ => 0) (fun _ => 0) 0 ∧ De.soD (byteF (pkt f b m)) (stE f) m = soF (stE f) (fun _ => 0) := by
  have h0 : ∀ k, k < 4 → lvE f b k = 0 := fun k hk => lv_no hu hk
  have hA := lvA_ok hf
  have hE := lvE_ok f b
  have eA : (fun i => stE f (17 + i)) = lvA f := by
    funext i
    unfold stE lvA
    rw [show 17 + (17 + i) = 34 + i by omega]
  have ew : De.wB (byteF (pkt f b m)) (fun i => stE f (17 + i)) m = fun _ => 0 := by
    unfold pkt
    rw [eA, fE_is]
    exact wB_none hA hE h0
  have el : ∀ k, k < 4 → De.lB (byteF (pkt f b m)) (fun i => stE f (17 + i)) k = (fun _ => 0 : Nat → Int) k := fun k hk => by
    unfold pkt
    rw [eA, fE_is, lB_met hA hE hk]
    exact h0 k hk
  unfold De.nxD De.soD
  rw [ew]
  exact ⟨nxF_ext el, rfl⟩

/-! Frames of nothing. -/
theorem ah_none {z : Int} (k : Nat) : ahS z (fun _ => 0) (k + 1) = 0 := by show ct22 0 = 0; decide
theorem li_none (k : Nat) : liS 0 (fun _ => 0) k = 0 := by
  unfold liS
  have e : ahS 0 (fun _ => 0) k = 0 := by
    cases k with
    | zero => show ct22 0 = 0; decide
    | succ k => exact ah_none k
  rw [e]
  show ct22 0 - prt 0 = 0
  decide
theorem w_none {a b : Nat → Int} (ha : ∀ i, i < 16 → a i = 0) (hb : ∀ i, i < 16 → b i = 0) (k : Nat) : wS a b k = 0 := by
  unfold wS vS
  have h : ∀ m, m ≤ 32 → sum m (fun n => pS a b n * cS n k) = 0 := by
    intro m
    induction m with
    | zero => intro _; rfl
    | succ m ih =>
      intro hm
      show sum m _ + pS a b m * cS m k = 0
      rw [ih (by omega)]
      have e : xs2 a b m = 0 := by
        unfold xs2
        split
        · exact ha m (by omega)
        · exact hb _ (by omega)
      unfold pS
      rw [e, Int.zero_mul, show Ang.near 0 = 0 by decide, Int.zero_mul]; rfl
  rw [h 32 (Nat.le_refl _)]; decide
theorem wv_none {f b : Nat → Int} (hf : ∀ i, i < 16 → f i = 0) (h16 : f 16 = 0) (hb : ∀ i, i < 16 → b i = 0) (k : Nat) : wvE f b k = 0 := by
  unfold wvE
  refine w_none hf (fun i hi => ?_) k
  rw [h16, li_ext (g := fun _ => 0) (n := 16) (fun k hk => hb k hk) i hi]
  exact li_none i

theorem nxF_none : nxF (fun _ => 0) (fun _ => 0) (fun _ => 0) 0 = fun _ => 0 := by
  funext k
  by_cases hk : k < 38
  · exact nx_zero k hk
  · unfold nxF stF
    rw [if_neg (by omega), if_neg (by omega), if_neg (by omega), if_neg (by omega)]
/-- From the zero encoder on nothing stays nothing. -/
theorem nx_none (m : Nat) {b : Nat → Int} (hb : ∀ i, i < 16 → b i = 0) : nxE (fun _ => 0) b m = fun _ => 0 := by
  have hd := (dec_none (f := fun _ => 0) (b := b) (m := m) re_zero fun i hi => wv_none (fun _ _ => rfl) rfl hb i).1
  have e : stE (fun _ => 0) = fun _ => 0 := rfl
  rw [e, nxF_none] at hd
  funext k
  unfold nxE
  rw [e, hd]
  unfold enF
  split
  · rw [li_ext (g := fun _ => 0) (n := 16) (fun k hk => hb k hk) k (by omega)]
    exact li_none k
  · split
    · rw [hb 15 (by omega)]; decide
    · rfl
/-! Nothing behind sound. -/
section
variable {F : Nat → Nat → Int} {m : Nat} {f : Nat → Int}
end
end Go.Proofs.YtfohinlldchdpaaGreatDoor.En
end
