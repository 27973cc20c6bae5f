/- Contract of rang's carry. -/
import Derived.Test.YtidbagkkkpfkbaaDoorRgB
set_option maxRecDepth 100000
set_option linter.unusedVariables false
namespace Go.Proofs.YtidbagkkkpfkbaaDoor.Rg
open Go.RowKit Go.Proofs.YtidbagkkkpfkbaaDoor.Row

/-- A number and the next one: the first i bytes of it, behind them those of the next. -/
def mixd (P n i : Nat) : List UInt8 := (List.range n).map fun j => UInt8.ofNat (if j < i then dg P n j else dg (P + 1) n j)
theorem mixd_length (P n i : Nat) : (mixd P n i).length = n := by unfold mixd; simp
theorem mixd_get (P n i j : Nat) (h : j < n) : (mixd P n i)[j]? = some (UInt8.ofNat (if j < i then dg P n j else dg (P + 1) n j)) := by unfold mixd; simp [h]
theorem mixd_all (P n : Nat) : mixd P n n = dgs P n n := by
  unfold mixd dgs
  exact List.map_congr_left fun j hj => by rw [if_pos (by simpa using hj)]
theorem mixd_none (P n : Nat) : mixd P n 0 = dgs (P + 1) n n := by
  unfold mixd dgs
  exact List.map_congr_left fun j hj => by rw [if_neg (by omega)]
theorem mixd_set (P n i : Nat) (h : i < n) : (mixd P n (i + 1)).set i (UInt8.ofNat (dg (P + 1) n i)) = mixd P n i := by
  apply List.ext_getElem?
  intro j
  by_cases hj : j < n
  · by_cases e : i = j
    · subst e
      rw [List.getElem?_set_self (by rw [mixd_length]; exact h), mixd_get _ _ _ _ hj, if_neg (by omega)]
    · rw [List.getElem?_set_ne e, mixd_get _ _ _ _ hj, mixd_get _ _ _ _ hj]
      by_cases c : j < i
      · rw [if_pos c, if_pos (by omega)]
      · rw [if_neg c, if_neg (by omega)]
  · rw [List.getElem?_eq_none (by rw [List.length_set, mixd_length]; omega), List.getElem?_eq_none (by rw [mixd_length]; omega)]
theorem cr_stays {L a k : Nat} (h : cr L a k = 0) : ∀ t, cr L a (k + t) = 0
  | 0 => h
  | t + 1 => by
    rw [← Nat.add_assoc, cr_next, cr_stays h t]
    exact Nat.div_eq_of_lt (by have := Nat.mod_lt (L / 256 ^ (k + t)) (show 256 > 0 by omega); omega)
theorem mixd_stop {P n m : Nat} (hm : m ≤ n) (h : cr P 1 (n - m) = 0) : mixd P n m = dgs (P + 1) n n := by
  rw [← mixd_none]
  unfold mixd
  refine List.map_congr_left fun j hj => ?_
  have hj : j < n := by simpa using hj
  by_cases c : j < m
  · rw [if_pos c, if_neg (by omega)]
    have h1 := cr_stays h (n - 1 - j - (n - m))
    rw [show n - m + (n - 1 - j - (n - m)) = n - 1 - j by omega] at h1
    have h2 := cr_dg (L := P) (a := 1) (n := n) (i := j)
    rw [h1, Nat.zero_add, Nat.mod_eq_of_lt (dg_lt _ _ _)] at h2
    rw [h2]
  · rw [if_neg c, if_neg (by omega)]

/-- A cell of an own row stored. -/
theorem owns_set {w : World} {B n c g j : Nat} {e : TypeId} {xs : List Value} {v : Value} (h : w.ownsRow B e 1 (.slice (some ⟨g, 0, none⟩) n c) n xs) (hj : j < n) :
    (w.setCell ⟨g, j, none⟩ v).ownsRow B e 1 (.slice (some ⟨g, 0, none⟩) n c) n (xs.set j v) := by
  obtain ⟨h1, h2 | ⟨g', cap, cur, e1, h3, h4, h5, h6, h7, h8⟩⟩ := h
  · exact absurd h2.1 (by simp)
  · simp only [Value.slice.injEq, Option.some.injEq, Addr.mk.injEq, true_and, and_true] at e1
    obtain ⟨rfl, rfl⟩ := e1
    refine ⟨by rw [List.length_set]; exact h1, .inr ⟨g, c, cur.setIfInBounds j v, rfl, h3, heap_setCell_same _ _ _ _ _ _ h4, h5, h6, by rw [Array.size_setIfInBounds]; exact h7, ?_⟩⟩
    rw [← h8, Array.toList_setIfInBounds, List.take_set]
theorem owns_cell {w : World} {B n c g j : Nat} {e : TypeId} {xs : List Value} {v : Value} (h : w.ownsRow B e 1 (.slice (some ⟨g, 0, none⟩) n c) n xs) (hv : xs[j]? = some v) : w.cell? ⟨g, j, none⟩ = some v := by
  have := World.ownsRow.cells h (g := g) rfl j v hv
  unfold Addr.add at this
  by_cases e0 : j = 0
  · subst e0; simpa using this
  · simpa [e0] using this
theorem owns_frozen {w : World} {B n c g : Nat} {e : TypeId} {xs : List Value} (h : w.ownsRow B e 1 (.slice (some ⟨g, 0, none⟩) n c) n xs) (j : Nat) : w.frozen? ⟨g, j, none⟩ = false := by
  obtain ⟨h1, h2 | ⟨g', cap, cur, e1, h3, h4, _⟩⟩ := h
  · exact absurd h2.1 (by simp)
  · simp only [Value.slice.injEq, Option.some.injEq, Addr.mk.injEq, true_and, and_true] at e1
    obtain ⟨rfl, rfl⟩ := e1
    exact frozen_of_row _ _ _ _ _ h4
theorem owns_some {w : World} {B n c : Nat} {a : Option Addr} {e : TypeId} {xs : List Value} (h : w.ownsRow B e 1 (.slice a n c) n xs) (hn : 0 < n) : ∃ g, a = some ⟨g, 0, none⟩ := by
  obtain ⟨h1, h2 | ⟨g', cap, cur, e1, h3, h4, _⟩⟩ := h
  · have := h2.2; omega
  · simp only [Value.slice.injEq] at e1
    exact ⟨g', e1.1⟩

set_option maxHeartbeats 400000 in
theorem carry_stop_as (w : World) (b : Nat) (T : Nat → Prop) (size r g low : Nat) (bs : List UInt8) (rest : Nat) (h : EncMem w b T size r g low bs rest) (hr : rest = 1 ∨ rest = 3) :
    Calls Tryd.prog 27 #[.pointer (some ⟨b, 0, none⟩)] w fun e w' => e = .returned (.tuple #[]) ∧ EncTo w b T size r g low bs 3 w' := by
  obtain ⟨a, c, hA, hO, hK, c0, c1, c2, c3, c4, c5, f3, f4, f5⟩ := h.start
  have HT : Hid (EncTo w b T size r g low bs 3 (w.setCell ⟨b, 5, none⟩ (.int .i64 3))) := by
    refine ⟨T, ⟨h.1, a, c, hA.setCell, ?_, hK⟩, (Fr.refl _ _).setCell (.inl h.1) _, fun i hi => .inl hi⟩
    exact Fr.owns (T := Just b) ((Fr.refl _ _).setCell (.inl (Just.self b)) _) hO fun i hi e => (hK i hi).2 e
  clear hA hO hK h c0 c1 c2 c3 c4 f3 f4
  rcases hr with rfl | rfl
  all_goals
    go_enter Tryd.func27, Tryd.ntmps27
    go_wp2
    refine bodyPost_ret (results_none rfl _ _ _) rfl ?_
    exact ⟨rfl, HT⟩

/-- What holds while a carry goes through the bytes. -/
def CarS (w : World) (b : Nat) (T : Nat → Prop) (size r g low rest c P n : Nat) (a : Option Addr) (i : Nat) (w' : World) : Prop :=
  Fr T w w' ∧ At w' b (encRow size r g low rest a n c) 47 ∧ w'.ownsRow 0 5 1 (.slice a n c) n (Lib.byteCells (mixd P n i)) ∧ T b ∧ (∀ k, (Value.slice a n c).ownBlock = some k → T k ∧ k ≠ b) ∧ cr P 1 (n - i) = 1
theorem CarS.done {w w' : World} {b : Nat} {T : Nat → Prop} {size r g low rest c P n i : Nat} {a : Option Addr} (h : CarS w b T size r g low rest c P n a i w') (e : mixd P n i = dgs (P + 1) n n) : EncTo w b T size r g low (dgs (P + 1) n n) rest w' := by
  obtain ⟨h1, h2, h3, h4, h5, _⟩ := h
  have el : (dgs (P + 1) n n).length = n := dgs_length _ _ _
  refine ⟨T, ⟨h4, a, c, by rw [el]; exact h2, by rw [el, ← e]; exact h3, by rw [el]; exact h5⟩, h1, fun k hk => .inl hk⟩
theorem CarS.put {w w' : World} {b : Nat} {T : Nat → Prop} {size r g low rest c P n m k : Nat} (h : CarS w b T size r g low rest c P n (some ⟨k, 0, none⟩) (m + 1) w') (hm : m < n) :
    Fr T w (w'.setCell ⟨k, m, none⟩ (.int .u8 (dg (P + 1) n m : Nat))) ∧ At (w'.setCell ⟨k, m, none⟩ (.int .u8 (dg (P + 1) n m : Nat))) b (encRow size r g low rest (some ⟨k, 0, none⟩) n c) 47 ∧
      (w'.setCell ⟨k, m, none⟩ (.int .u8 (dg (P + 1) n m : Nat))).ownsRow 0 5 1 (.slice (some ⟨k, 0, none⟩) n c) n (Lib.byteCells (mixd P n m)) := by
  obtain ⟨h1, h2, h3, h4, h5, _⟩ := h
  obtain ⟨h6, h7⟩ := h5 k rfl
  refine ⟨h1.setCell (.inl h6) _, h2.setCell_other (Ne.symm h7), ?_⟩
  have := owns_set (v := .int .u8 (dg (P + 1) n m : Nat)) h3 hm
  have e : (Lib.byteCells (mixd P n (m + 1))).set m (.int .u8 (dg (P + 1) n m : Nat)) = Lib.byteCells (mixd P n m) := by
    rw [← mixd_set P n m hm]
    unfold Lib.byteCells
    rw [List.map_set, byte_nat (by have := dg_lt (P + 1) n m; omega)]
  rwa [e] at this
theorem CarS.next {w w' : World} {b : Nat} {T : Nat → Prop} {size r g low rest c P n m k : Nat} (h : CarS w b T size r g low rest c P n (some ⟨k, 0, none⟩) (m + 1) w') (hm : m < n) (hc : cr P 1 (n - m) = 1) :
    CarS w b T size r g low rest c P n (some ⟨k, 0, none⟩) m (w'.setCell ⟨k, m, none⟩ (.int .u8 (dg (P + 1) n m : Nat))) := by
  obtain ⟨p1, p2, p3⟩ := h.put hm
  exact ⟨p1, p2, p3, h.2.2.2.1, h.2.2.2.2.1, hc⟩

theorem carS_row {w w' : World} {b : Nat} {T : Nat → Prop} {size r g low rest c P n i : Nat} {a : Option Addr} (h : CarS w b T size r g low rest c P n a i w') : w'.cell? ⟨b, 4, none⟩ = some (.slice a n c) := by
  rw [h.2.1.cell]; rfl

set_option maxHeartbeats 1000000 in
theorem carry_loop (w w0 : World) (b : Nat) (T : Nat → Prop) (size r g low rest rest' c P n : Nat) (a : Option Addr) (hn : n ≤ 4096) (h : CarS w0 b T size r g low rest' c P n a n w0)
    (hr : (rest = 0 ∧ w0 = w) ∨ (rest = 2 ∧ w0 = w.setCell ⟨b, 5, none⟩ (.int .i64 1))) (c4 : w.cell? ⟨b, 4, none⟩ = some (.slice a n c)) (c5 : w.cell? ⟨b, 5, none⟩ = some (.int .i64 rest)) (f5 : w.frozen? ⟨b, 5, none⟩ = false) :
    Calls Tryd.prog 27 #[.pointer (some ⟨b, 0, none⟩)] w fun e w' => e = .returned (.tuple #[]) ∧ EncTo w0 b T size r g low (dgs (P + 1) n n) rest' w' := by
  have H := Lib.hid h
  clear h
  rcases hr with ⟨rfl, hw⟩ | ⟨rfl, hw⟩
  all_goals
    have HW := Lib.hid hw
    clear hw
    go_enter Tryd.func27, Tryd.ntmps27
    go_wp2
    go_loopw [2] (fun i w' => ∃ m : Nat, ∃ z : Int, i = .int .i64 z ∧ z = (m : Int) - 1 ∧ m ≤ n ∧ CarS w0 b T size r g low rest' c P n a m w') (fun i _ => (intOf i + 1).toNat)
    case atStart => exact ⟨n, _, rfl, rfl, Nat.le_refl _, by first | (rw [← HW.out]; exact H.out) | exact HW.out ▸ H.out⟩
    case round =>
      obtain ⟨m, z, rfl, hz, hm, hs⟩ := hrel
      have HS := Lib.hid hs
      have d4 := carS_row hs
      clear hs c4 c5 f5
      cases m with
      | zero =>
        obtain rfl : z = -1 := by omega
        clear hz
        go_wp2
        go_end0
        exact ⟨rfl, HS.out.done (mixd_none P n)⟩
      | succ m =>
        obtain rfl : z = (m : Int) := by omega
        clear hz
        obtain ⟨k, rfl⟩ := owns_some HS.out.2.2.1 (by omega)
        have hmn : m < n := by omega
        have hd := dg_lt P n m
        have ck : _ = some (Value.int .u8 (dg P n m : Nat)) := owns_cell (j := m) (v := .int .u8 (dg P n m : Nat)) HS.out.2.2.1 (by unfold Lib.byteCells; rw [List.getElem?_map, mixd_get _ _ _ _ hmn, if_pos (by omega)]; simp [byte_nat (show dg P n m ≤ 255 by omega)])
        have fk := owns_frozen HS.out.2.2.1 m
        obtain ⟨x, hx⟩ : ∃ x, dg P n m = x := ⟨_, rfl⟩
        rw [hx] at ck hd
        have hkb : k ≠ b := (HS.out.2.2.2.2.1 k rfl).2
        have e1 := cr_dg (L := P) (a := 1) (n := n) (i := m)
        have e2 := cr_up (L := P) (a := 1) hmn
        rw [show n - 1 - m = n - (m + 1) by omega, HS.out.2.2.2.2.2, hx] at e1 e2
        by_cases h255 : x = 255
        · subst h255
          have HN := Lib.hid (HS.out.next hmn (by omega))
          rw [show dg (P + 1) n m = 0 by omega] at HN
          clear e1 e2 hx hd
          go_wp2
          go_roundw
          case rel => exact ⟨m, _, rfl, rfl, by omega, HN.out⟩
          case measure => simp [intOf]
        · have hx254 : x ≤ 254 := by omega
          have HN := Lib.hid (HS.out.put hmn)
          rw [show dg (P + 1) n m = x + 1 by omega] at HN
          have HE := Lib.hid (mixd_stop (P := P) (n := n) (m := m) (by omega) (by omega))
          have HK := Lib.hid (⟨HS.out.2.2.2.1, HS.out.2.2.2.2.1⟩ : T b ∧ ∀ i, (Value.slice (some ⟨k, 0, none⟩) n c).ownBlock = some i → T i ∧ i ≠ b)
          obtain ⟨X, hX⟩ : ∃ X : Int, (x : Int) = X := ⟨_, rfl⟩
          have hX0 : 0 ≤ X := by omega
          have hX1 : X ≤ 254 := by omega
          have hne : (X + 1 != 0) = true := by rw [bne_iff_ne]; omega
          have HX := Lib.hid (show (((x + 1 : Nat)) : Int) = X + 1 by omega)
          rw [hX] at ck
          clear e1 e2 hx hd h255 hx254 hX
          go_wp2
          refine bodyPost_ret (results_none rfl _ _ _) rfl ?_
          refine ⟨rfl, T, ?_⟩
          have hN := HN.out
          rw [HX.out, HE.out] at hN
          have el : (dgs (P + 1) n n).length = n := dgs_length _ _ _
          exact ⟨⟨HK.out.1, some ⟨k, 0, none⟩, c, by rw [el]; exact hN.2.1, by rw [el]; exact hN.2.2, by rw [el]; exact HK.out.2⟩, hN.1, fun i hi => .inl hi⟩

theorem EncTo.from {w w0 w' : World} {b : Nat} {T : Nat → Prop} {size r g low rest : Nat} {bs : List UInt8} (h : EncTo w0 b T size r g low bs rest w') (hf : Fr T w w0) : EncTo w b T size r g low bs rest w' := by
  obtain ⟨T', h1, h2, h3⟩ := h
  exact ⟨T', h1, hf.same h2, fun k hk => (h3 k hk).imp_right fun h => Nat.le_trans hf.size h⟩

theorem carry_goes_as (w : World) (b : Nat) (T : Nat → Prop) (size r g low : Nat) (bs : List UInt8) (rest P n : Nat) (h : EncMem w b T size r g low bs rest) (hr : rest = 0 ∨ rest = 2) (hn : n = bs.length) (hb : bs = dgs P n n) (h4 : n ≤ 4096) :
    Calls Tryd.prog 27 #[.pointer (some ⟨b, 0, none⟩)] w fun e w' => e = .returned (.tuple #[]) ∧ EncTo w b T size r g low (dgs (P + 1) n n) (if rest = 2 then 1 else 0) w' := by
  obtain ⟨a, c, hA, hO, hK, c0, c1, c2, c3, c4, c5, f3, f4, f5⟩ := h.start
  have e1 : cr P 1 (n - n) = 1 := by rw [Nat.sub_self, cr_zero]
  have eb : bs = mixd P n n := by rw [mixd_all]; exact hb
  rw [← hn, eb] at hO
  rw [← hn] at hA hK c4
  rcases hr with rfl | rfl
  · exact carry_loop w w b T size r g low 0 0 c P n a h4 ⟨Fr.refl _ _, hA, hO, h.1, hK, e1⟩ (.inl ⟨rfl, rfl⟩) c4 c5 f5
  · have hF := (Fr.refl T w).setCell (p := ⟨b, 5, none⟩) (.inl h.1) (.int .i64 1)
    refine (carry_loop w _ b T size r g low 2 1 c P n a h4 ⟨Fr.refl _ _, hA.setCell, ?_, h.1, hK, e1⟩ (.inr ⟨rfl, rfl⟩) c4 c5 f5).mono fun e w' ⟨he, ht⟩ => ⟨he, ht.from hF⟩
    exact Fr.owns (T := Just b) ((Fr.refl _ _).setCell (.inl (Just.self b)) _) hO fun i hi e => (hK i hi).2 e
end Go.Proofs.YtidbagkkkpfkbaaDoor.Rg
