/- Contract of the document's All. -/
import Derived.Test.YtkpbmhppibfpoaaVeU
set_option maxRecDepth 100000
set_option linter.unusedVariables false
namespace Go.Proofs.Ytkpbmhppibfpoaa.Ve
open Go.RowKit Go.Proofs.Ytkpbmhppibfpoaa.Row Go.Maps Go.WideMaps

/-- A new list of rows is handed back, and all that stood stands. -/
def RetAll (w w' : World) (e : Ending) (L : List (List Int)) : Prop := ∃ a c xs, e = .returned (.slice a L.length c) ∧ AllV w' w.heap.size a c L xs ∧ Below w.heap.size w w'

theorem refAll_none (k : Nat) (w : World) (hk : k ≠ 0) :
    Calls Try.prog 15 #[.int .i64 0, .int .i64 k] w fun e w' => RetAll w w' e (allL 0 k) := by
  have e0 : allL 0 k = [] := by unfold allL; rw [if_neg hk]
  rw [e0]
  have hkz : ((k : Int) == 0) = false := by rw [beq_eq_false_iff_ne]; omega
  go_enter Try.func15, Try.ntmps15
  go_wp2_with fail
  go_ret
  exact ⟨none, 0, [], rfl, allV_nil _ _, Below.refl _ _⟩

theorem refAll_zero (w : World) :
    Calls Try.prog 15 #[.int .i64 0, .int .i64 0] w fun e w' => RetAll w w' e (allL 0 0) := by
  have A0 := At.new w #[] 3
  have A1 := At.new (w.alloc (.cells #[] 3)) #[.slice (some ⟨w.heap.size, 0, none⟩) 0 0] 22
  have HB := Lib.hid (((Below.refl w.heap.size w).alloc (Nat.le_refl _) (.cells #[] 3)).alloc (by simp) (.cells #[.slice (some ⟨w.heap.size, 0, none⟩) 0 0] 22))
  have HA := Lib.hid (show AllV ((w.alloc (.cells #[] 3)).alloc (.cells #[.slice (some ⟨w.heap.size, 0, none⟩) 0 0] 22)) w.heap.size (some ⟨w.heap.size + 1, 0, none⟩) 1 [[]] [.slice (some ⟨w.heap.size, 0, none⟩) 0 0] from by
    refine ⟨⟨rfl, .inr ⟨w.heap.size + 1, 1, #[.slice (some ⟨w.heap.size, 0, none⟩) 0 0], rfl, Nat.le_succ _, ?_, Nat.le_refl _, by unfold maxLen; omega, rfl, rfl⟩⟩, ?_⟩
    · have := A1
      rw [World.size_alloc] at this
      exact this
    · intro i x r hx hr
      match i, hx, hr with
      | 0, hx, hr =>
        obtain rfl : Value.slice (some ⟨w.heap.size, 0, none⟩) 0 0 = x := by simpa using hx
        obtain rfl : ([] : List Int) = r := by simpa using hr
        exact ⟨w.heap.size, 0, #[], rfl, Nat.le_refl _, A0.alloc _, Nat.le_refl _, Nat.zero_le _, rfl, rfl⟩
      | i + 1, hx, hr => simp at hx)
  clear A0 A1
  go_enter Try.func15, Try.ntmps15
  go_wp2_with fail
  go_ret
  exact ⟨_, _, _, rfl, HA.out, HB.out⟩

theorem take_next {α β : Type} (L : List α) (f : α → β) {i : Nat} {r : α} (h : L[i]? = some r) : (L.take (i + 1)).map f = (L.take i).map f ++ [f r] := by
  rw [List.take_add_one, h]
  simp

/-- What stands while the vectors of one first number are made: those that are made, those that are left. -/
structure AlS (W : World) (B : Nat) (P : List (List Int)) (L : List (List Int)) (x : Int) (B2 : Nat) (a2 : Option Addr) (c2 : Nat) (ys : List Value) (i : Nat) (a : Option Addr) (c : Nat) (xs : List Value) (w' : World) : Prop where
  made : AllV w' B a c (P ++ (L.take i).map fun r => x :: r) xs
  left : AllV w' B2 a2 c2 L ys
  apart : ∀ g, a = some g → (Value.slice a2 L.length c2).ownBlock ≠ some g.block
  below : Below W.heap.size W w'
  base : B = W.heap.size
  size : B2 ≤ w'.heap.size

theorem AlS.low {W w w' : World} {B B2 c2 i c : Nat} {P L : List (List Int)} {x : Int} {a2 a : Option Addr} {ys xs : List Value} (h : AlS W B P L x B2 a2 c2 ys i a c xs w) (hb : Below w.heap.size w w') : AlS W B P L x B2 a2 c2 ys i a c xs w' :=
  ⟨h.made.below hb, h.left.below hb, h.apart, h.below.trans (hb.mono h.below.size), h.base, Nat.le_trans h.size hb.size⟩
theorem owns_base {w : World} {B n : Nat} {v : Value} {e : TypeId} {xs : List Value} (h : w.ownsRow B e 1 v n xs) : ∀ g, v.ownBlock = some g → B ≤ g := by
  obtain ⟨_, ⟨rfl, _⟩ | ⟨g, c, cur, rfl, h1, _⟩⟩ := h
  · intro g e; cases e
  · intro g' e
    obtain rfl : g = g' := by injection e
    exact h1
theorem AlS.step {W w w' : World} {B B2 c2 i c g' c' : Nat} {P L : List (List Int)} {x : Int} {a2 a : Option Addr} {ys xs : List Value} {v : Value} {r : List Int} (h : AlS W B P L x B2 a2 c2 ys i a c xs w) (hr : L[i]? = some r)
    (hA : AllV w' B (some ⟨g', 0, none⟩) c' ((P ++ (L.take i).map fun r => x :: r) ++ [x :: r]) (xs ++ [v])) (hg : w.grownBy w' (Value.slice a (P ++ (L.take i).map fun r => x :: r).length c).ownBlock) (hat : a = some ⟨g', 0, none⟩ ∨ g' = w.heap.size) :
    AlS W B P L x B2 a2 c2 ys (i + 1) (some ⟨g', 0, none⟩) c' (xs ++ [v]) w' := by
  refine ⟨?_, h.left.grown hg (owns_row h.made.1) ?_, ?_, h.below.grown hg h.below.size ?_, h.base, Nat.le_trans h.size hg.size⟩
  · rw [take_next L (fun r => x :: r) hr, ← List.append_assoc]
    exact hA
  · intro g e
    cases a with
    | none => cases e
    | some p =>
      have := h.apart p rfl
      simp only [Value.ownBlock, Option.some.injEq] at e
      rw [← e]
      exact this
  · intro g e hb
    obtain rfl : (⟨g', 0, none⟩ : Addr) = g := by injection e
    rcases hat with hat | hat
    · exact h.apart _ hat hb
    · have := h.left.lt _ hb
      dsimp only at this
      omega
  · intro g e
    rw [← h.base]
    exact owns_base h.made.1 g e

set_option maxHeartbeats 800000 in
theorem refAll_as : ∀ (n k : Nat) (w : World), n ≤ 8 → k ≤ 8 → Calls Try.prog 15 #[.int .i64 n, .int .i64 k] w fun e w' => RetAll w w' e (allL n k)
  | 0, k, w, _, hk => by
    by_cases h : k = 0
    · subst h; exact refAll_zero w
    · exact refAll_none k w h
  | n + 1, k, w, hn, hk => by
    have IH := Lib.hid fun k w hk => refAll_as n k w (by omega) hk
    obtain ⟨N, hN⟩ : ∃ N : Nat, n + 1 = N := ⟨_, rfl⟩
    have hN1 : (N : Int) - 1 = n := by omega
    have hNz : ((N : Int) == 0) = false := by rw [beq_eq_false_iff_ne]; omega
    have HE := Lib.hid (show allL N k = allP n k (2 * k + 1) by subst hN; rfl)
    rw [hN, HE.out]
    have hV := V_le (n := n + 1) (k := k) hn hk
    clear hN
    go_enter Try.func15, Try.ntmps15
    go_wp2_with fail
    go_loopw [5, 6] (fun o x w' => ∃ (j : Nat) (a : Option Addr) (c : Nat) (xs : List Value), j ≤ 2 * k + 1 ∧ x = .int .i64 ((j : Int) - k) ∧ o = .slice a (allP n k j).length c ∧ AllV w' w.heap.size a c (allP n k j) xs ∧ Below w.heap.size w w') (fun _ x _ => ((k : Int) + 1 - intOf x).toNat)
    case atStart => exact ⟨0, none, 0, [], by omega, congrArg (Value.int .i64) (by omega), rfl, allV_nil _ _, Below.refl _ _⟩
    case round =>
      obtain ⟨j, a, c, xs, hj, rfl, rfl, hA, hB⟩ := hrel
      have HA := Lib.hid hA
      have HB := Lib.hid hB
      clear hA hB
      by_cases hl : (j : Int) - k ≤ k
      · have hj2 : j ≤ 2 * k := by omega
        have hS := S_step (n := n) hj2
        have HNX := Lib.hid (allP_next n k j)
        have HPL := Lib.hid (allP_len n k j)
        obtain ⟨z, hz⟩ : ∃ z, ((j : Int) - k).natAbs = z := ⟨_, rfl⟩
        have HZ := Lib.hid (show sz ((j : Int) - k) = z by rw [sz_small (by omega) (by omega), hz])
        obtain ⟨t, ht⟩ : ∃ t : Nat, (k : Int) - z = t := ⟨k - z, by omega⟩
        have ht8 : t ≤ 8 := by omega
        have hg : gV n k j = V n t := by unfold gV; rw [hz, show k - z = t by omega]
        rw [hz, show k - z = t by omega] at HNX
        rw [hg] at hS
        have HLL := Lib.hid (allL_len n t)
        obtain ⟨L, hL⟩ : ∃ L, allL n t = L := ⟨_, rfl⟩
        obtain ⟨P, hP⟩ : ∃ P, allP n k j = P := ⟨_, rfl⟩
        have IH2 := Lib.hid (IH.out t)
        rw [hL] at HNX HLL IH2
        rw [hP] at HNX HPL HA
        rw [hP]
        obtain ⟨x, hx⟩ : ∃ x, (j : Int) - k = x := ⟨_, rfl⟩
        have hx8 : -8 ≤ x ∧ x ≤ 8 := by omega
        have hzx : z ≤ 8 := by omega
        rw [hx] at HZ hl HNX
        rw [hx]
        have HX := Lib.hid hx
        have HSZ := Lib.hid hS
        clear hg hz hL hP hx hS
        go_wp2_with fail
        refine (refSize_as _ _ _ HZ.out).mono ?_
        rintro e w2 ⟨rfl, rfl⟩
        go_wp2_with fail
        refine (IH2.out _ ht8).mono ?_
        rintro e w2 ⟨a2, c2, ys, rfl, hA2, hB2⟩
        have HS := Lib.hid (show AlS w w.heap.size P L x wr.heap.size a2 c2 ys 0 a c xs w2 from ⟨by
          rw [List.take_zero, List.map_nil, List.append_nil]
          exact HA.out.below hB2, hA2, fun g hg hb => by
            obtain ⟨cur, hC⟩ := owns_row hA2.1 _ hb
            have h1 := HA.out.lt g.block (by rw [hg]; rfl)
            rcases hA2.1.2 with ⟨e, _⟩ | ⟨g2, _, _, e, h2, _⟩
            · rw [e] at hb; cases hb
            · rw [e] at hb
              have : g2 = g.block := by injection hb
              omega, below_trans HB.out hB2 HB.out.size, rfl, hB2.size⟩)
        have hpp : P.length = (P ++ (L.take 0).map fun r => x :: r).length := by simp
        have HPP := Lib.hid hpp
        clear hpp
        obtain ⟨ln, hln⟩ : ∃ ln, L.length = ln := ⟨_, rfl⟩
        rw [hln]
        have HLN := Lib.hid hln
        have hln9 : ln ≤ 6975757441 := by have := HLL.out.1; rw [hln] at this; rw [this]; exact V_le (by omega) ht8
        clear hA2 hB2 HA HB IH2 IH hln
        go_wp2_with fail
        go_loopw [5, 8] (fun o i w' => ∃ (i' : Nat) (a : Option Addr) (c : Nat) (xs : List Value), i' ≤ ln ∧ i = .int .i64 i' ∧ o = .slice a (P ++ (L.take i').map fun r => x :: r).length c ∧ AlS w w.heap.size P L x wr.heap.size a2 c2 ys i' a c xs w') (fun _ i _ => ln - (intOf i).toNat)
        case atStart => exact ⟨0, a, c, xs, Nat.zero_le _, rfl, congrArg (fun m => Value.slice a m c) HPP.out, HS.out⟩
        case round =>
          obtain ⟨i, a, c, xs, hi, rfl, rfl, hs⟩ := hrel
          have HS2 := Lib.hid hs
          clear hs HS
          by_cases hlt : i < ln
          · obtain ⟨g2, y, r, ha2, hr, hcy, hRy⟩ := HS2.out.left.at (i := i) (by rw [HLN.out]; exact hlt)
            have hrl : r.length = n := HLL.out.2 r (List.mem_of_getElem? hr)
            obtain ⟨gy, cy, rfl⟩ := hRy.shape
            have HRR := Lib.hid hr
            have HRL := Lib.hid hrl
            subst ha2
            have ha : Below wr.heap.size wr (wr.alloc (.cells #[.int .i64 x] 3)) := (Below.refl _ _).alloc (Nat.le_refl _) _
            have HA1 := Lib.hid (At.new wr #[.int .i64 x] 3)
            have HY1 := Lib.hid (hRy.below ha)
            rw [hrl] at hcy HY1
            have hcy' := (Below.cell ha (block_lt_of_cell hcy)).trans hcy
            have HBW := Lib.hid ha
            have HSZ2 := Lib.hid HS2.out.below.size
            have HLL2 := Lib.hid (show (P ++ (L.take i).map fun r => x :: r).length ≤ 6975757441 by
              rw [List.length_append, List.length_map, List.length_take, HPL.out, HLN.out]
              have h1 := HSZ.out
              have h2 := HLL.out.1
              rw [HLN.out] at h2
              omega)
            have HTL := Lib.hid (show (P ++ (L.take (i + 1)).map fun r => x :: r).length = (P ++ (L.take i).map fun r => x :: r).length + 1 by
              rw [take_next L (fun r => x :: r) hr, ← List.append_assoc, List.length_append]; rfl)
            have HR8 := Lib.hid (show r.length ≤ 100 by omega)
            have HNN := Lib.hid (show r.length + 1 = N by omega)
            obtain ⟨Q, hQ⟩ : ∃ Q, (P ++ (L.take i).map fun r => x :: r).length = Q := ⟨_, rfl⟩
            have HQ := Lib.hid hQ
            rw [hQ] at HTL ⊢
            clear hr hRy hrl ha hcy hQ
            go_wp2_with (first
              | (at_builtin; refine wpList_append_tail rfl (.tmp 37) (.tmp 41) rfl w.heap.size wr.heap.size x rfl HA1.out HSZ2.out _ _ r rfl HY1.out HR8.out N HNN.out ?_; intro g3 c3 w3 hR3 hg3
                 have HB3 := Lib.hid (show Below wr.heap.size wr w3 from HBW.out.grown hg3 HBW.out.size fun k e => by cases e; exact Nat.le_refl _)
                 have HS3 := Lib.hid (HS2.out.low HB3.out)
                 have HB4 := Lib.hid (show Below w3.heap.size w3 (w3.alloc (.cells #[.slice (some ⟨g3, 0, none⟩) N c3] 22)) from (Below.refl _ _).alloc (Nat.le_refl _) _)
                 have HS4 := Lib.hid (HS3.out.low HB4.out)
                 have HR4 := Lib.hid (hR3.below HB4.out)
                 have HC4 := Lib.hid (show (w3.alloc (.cells #[.slice (some ⟨g3, 0, none⟩) N c3] 22)).cell? ⟨w3.heap.size, 0, none⟩ = some (.slice (some ⟨g3, 0, none⟩) N c3) from (At.new w3 _ _).cell 0)
                 have HZ4 := Lib.hid HS4.out.below.size
                 clear hR3 hg3 HB3 HS3 HB4 HS2 HA1 HY1 HBW)
              | (at_builtin; refine wpList_append_vec rfl (.tmp 35) (.tmp 43) rfl w.heap.size a Q c _ xs HQ.out rfl HS4.out.made w3.heap.size _ (x :: r) rfl HC4.out HR4.out HLL2.out HZ4.out ?_; intro g5 c5 w5 hA5 hg5 hat5
                 have HS5 := Lib.hid (HS4.out.step HRR.out hA5 (by rw [HQ.out]; exact hg5) hat5)
                 clear hA5 hg5 hat5 HS4 HR4 HC4 HZ4))
            go_roundw
            case rel => exact ⟨i + 1, some ⟨g5, 0, none⟩, c5, _, by omega, by go_num, congrArg (fun m => Value.slice (some ⟨g5, 0, none⟩) m c5) HTL.out.symm, HS5.out⟩
            case measure => simp [intOf]; omega
          · obtain rfl : i = ln := by omega
            have he : P ++ (L.take i).map (fun r => x :: r) = allP n k (j + 1) := by rw [HNX.out, List.take_of_length_le (by rw [HLN.out]; exact Nat.le_refl _)]
            have HM := Lib.hid HS2.out.made
            have HBB := Lib.hid HS2.out.below
            rw [he] at HM ⊢
            clear he HS2
            go_wp2_with fail
            go_roundw
            case rel => exact ⟨j + 1, a, c, xs, by omega, congrArg (Value.int .i64) (by have := HX.out; omega), rfl, HM.out, HBB.out⟩
            case measure => simp [intOf]; omega
      · obtain rfl : j = 2 * k + 1 := by omega
        go_wp2_with fail
        go_ret
        exact ⟨a, c, xs, rfl, HA.out, HB.out⟩
end Go.Proofs.Ytkpbmhppibfpoaa.Ve
