/- Contract of the document's Find. -/
import Derived.Test.YtncieojippiokaaShR
set_option maxRecDepth 100000
set_option linter.unusedVariables false
namespace Go.Proofs.Ytncieojippiokaa.Sh
open Go.RowKit Go.Proofs.Ytncieojippiokaa.Row

/-- What the document's search knows behind j waves. -/
def Bst (u y : Nat → Nat) (A Q j b : Nat) (m up dn : Int) : Prop :=
  (j = 0 ∧ m = -1 ∧ up = 0 ∧ dn = 1) ∨ (0 < j ∧ m = b ∧ up = ((A + u b : Nat) : Int) * ((A + u b : Nat) : Int) ∧ dn = ((Q + 2 * y b + 1 : Nat) : Int))

set_option maxHeartbeats 1000000 in
theorem refFind_as (b o n c K : Nat) (x : Nat → Int) (W : World) (hc : ∀ i, i < n → W.cell? ⟨b, o + i, none⟩ = some (.int .i64 (x i))) (h0 : 0 < n) (h8 : n ≤ 8) (hx : ∀ i, i < n → -1048576 ≤ x i ∧ x i ≤ 1048576) (hK : K ≤ 8) :
    Calls Try.prog 13 #[.slice (some ⟨b, o, none⟩) n c, .int .i64 K] W fun e w' => RetRow W w' e n (fS x n K) := by
  have hbl := block_lt_of_cell (hc 0 h0)
  have HS := Lib.hid (show RfS W W.heap.size b o n x (rowL n (fun _ => 0) 0) (W.alloc (.cells (rowL n (fun _ => 0) 0) 3)) from
    ⟨(Below.refl _ _).alloc (Nat.le_refl _) _, fun i hi => (Below.cell ((Below.refl W.heap.size W).alloc (Nat.le_refl _) _) (block_lt_of_cell (hc i hi))).trans (hc i hi), hbl, Nat.le_refl _, At.new _ _ _⟩)
  have HR := Lib.hid (show IsRow n (yI x n 0) (rowL n (fun _ => 0) 0) by rw [row_of0]; exact isRow_zero n)
  have HX := Lib.hid hx
  clear hc hx
  go_enter Try.func13, Try.ntmps13
  go_wp2_with (at_make; refine wpList_make_rowL (fun _ => 0) rfl _ _ rfl n _ _ rfl rfl (by omega) ?_)
  obtain ⟨g, hg⟩ : ∃ g, W.heap.size = g := ⟨_, rfl⟩
  rw [hg] at HS ⊢
  go_loopw [6] (fun i w' => ∃ (k : Nat) (R : Array Value), k ≤ K ∧ i = .int .i64 k ∧ Hid (IsRow n (yI x n k) R) ∧ RfS W g b o n x R w') (fun i _ => K - (intOf i).toNat)
  case atStart => exact ⟨0, _, Nat.zero_le _, rfl, HR, HS.out⟩
  case round =>
    obtain ⟨k, R, hk, rfl, HR1, hs⟩ := hrel
    have HS1 := Lib.hid hs
    clear hs HS HR
    by_cases hlt : k < K
    · have hA : aS (sz x) n k ≤ 8388608 := by
        have := a_le (U := 1048576) h0 (fun i hi => show sz x i ≤ 1048576 by have := HX.out i hi; unfold sz; omega) k
        omega
      have hQ : qS (sz x) n k ≤ 64 := Nat.le_trans (q_le _ _ _) (Nat.mul_le_mul (show k ≤ 8 by omega) (show k ≤ 8 by omega))
      have hY := Lib.hid (fun i => show yS (sz x) n k i ≤ 8 from Nat.le_trans (y_le _ _ _ _) (by omega))
      have hlb := Lib.hid (fun j (hj : j ≤ n) => b_lt (u := sz x) (k := k) hj h0)
      have HBA := Lib.hid (fun i (hi : i < n) => both_a (u := sz x) (k := k) h0 hi)
      have HBQ := Lib.hid (fun i (hi : i < n) => both_q (u := sz x) (k := k) h0 hi)
      have HN := Lib.hid (b_next (sz x) n k)
      have hbA := Lib.hid (fun i (hi : i < n) => show aS (sz x) n k + sz x i ≤ 9437184 by have := HX.out i hi; unfold sz at *; omega)
      have hbQ := Lib.hid (fun i (hi : i < n) => show qS (sz x) n k + 2 * yS (sz x) n k i + 1 ≤ 81 by have := hY.out i; omega)
      obtain ⟨A, eA⟩ : ∃ A, aS (sz x) n k = A := ⟨_, rfl⟩
      obtain ⟨Q, eQ⟩ : ∃ Q, qS (sz x) n k = Q := ⟨_, rfl⟩
      rw [eA] at HBA hbA
      rw [eQ] at HBQ hbQ
      rw [eA, eQ] at HN
      clear hA hQ eA eQ
      go_wp2_with fail
      go_loopw [7, 8, 9, 10] (fun m up dn i w' => ∃ (j : Nat) (m' u' d' : Int), j ≤ n ∧ i = .int .i64 j ∧ m = .int .i64 m' ∧ up = .int .i64 u' ∧ dn = .int .i64 d' ∧ Hid (Bst (sz x) (yS (sz x) n k) A Q j (bS (sz x) n k j) m' u' d') ∧ RfS W g b o n x R w') (fun _ _ _ i _ => n - (intOf i).toNat)
      case atStart => exact ⟨0, -1, 0, 1, Nat.zero_le _, rfl, rfl, rfl, rfl, Lib.hid (.inl ⟨rfl, rfl, rfl, rfl⟩), HS1.out⟩
      case round =>
        obtain ⟨j, m, up, dn, hj, rfl, rfl, rfl, rfl, HB, hs⟩ := hrel
        have HS2 := Lib.hid hs
        clear hs HS1
        by_cases hlt2 : j < n
        · have hal : Below wr.heap.size wr (wr.alloc (.cells #[] 3)) := (Below.refl _ _).alloc (Nat.le_refl _) _
          have HS3 := Lib.hid (HS2.out.more hal)
          have HE := Lib.hid (show OwnS (wr.alloc (.cells #[] 3)) wr.heap.size (some ⟨wr.heap.size, 0, none⟩) 0 0 (fun _ => 0) from OwnS.empty (Nat.le_refl _) (At.new _ _ _))
          have HL := Lib.hid (Sl.of_isRow HR1.out HS3.out.row (by unfold maxLen; omega))
          have HZ := Lib.hid hal.size
          have HYJ := Lib.hid (show cat (fun _ => 0) 0 (yI x n k) j = ((yS (sz x) n k j : Nat) : Int) from cat_0 _ _ j)
          have hyj := hY.out j
          clear hal
          go_wp2_with (at_builtin; refine wpList_append_many rfl (.tmp 29) (.tmp 30) rfl wr.heap.size (fun _ => 0) (yI x n k) _ 0 0 rfl HE.out _ n n rfl HL.out h0 n (Nat.zero_add n) (by omega) HZ.out ?_; intro g3 c3 w3 hG3 hb3 hgr hat; have cz := hG3.cell j hlt2; have fz := hG3.frozen j; rw [HYJ.out] at cz)
          have hgl := HS2.out.row.lt
          have HS4 := Lib.hid (HS3.out.moreAt hb3 (by have := HS2.out.bl; have := HS2.out.gl; omega) hgl HS2.out.below.size)
          have hG3' := hG3.ext fun i _ => cat_0 (fun _ => 0) (yI x n k) i
          have HS5 := Lib.hid (HS4.out.setOther (h := g3) (by have := hG3'.1; omega) j (.int .i64 ((yS (sz x) n k j : Int) + 1)))
          have HG5 := Lib.hid ((hG3'.set hlt2 ((yS (sz x) n k j : Int) + 1)).ext fun i _ => show _ = (((if i = j then yS (sz x) n k i + 1 else yS (sz x) n k i) : Nat) : Int) by
            by_cases e : i = j
            · subst e; rw [if_pos rfl, if_pos rfl]; rfl
            · rw [if_neg e, if_neg e]; rfl)
          have HCB := Lib.hid (fun w hw1 hw2 => refBoth_as b o g3 0 n c c3 x (fun i => if i = j then yS (sz x) n k i + 1 else yS (sz x) n k i) w hw1 hw2 h8 HX.out (fun i _ => by have := hY.out i; show (if i = j then _ else _) ≤ 9; split <;> omega))
          rw [show S (fun i => sz x i * (if i = j then yS (sz x) n k i + 1 else yS (sz x) n k i)) n = A + sz x j from HBA.out j hlt2, show S (fun i => (if i = j then yS (sz x) n k i + 1 else yS (sz x) n k i) * (if i = j then yS (sz x) n k i + 1 else yS (sz x) n k i)) n = Q + 2 * yS (sz x) n k j + 1 from HBQ.out j hlt2] at HCB
          have HC5 := Lib.hid (HCB.out _ (fun i hi => HS5.out.wave i hi) fun i hi => by rw [Nat.zero_add]; exact HG5.out.cell i hi)
          have hN := HN.out j
          have ha1 := hbA.out j hlt2
          have hq1 := hbQ.out j hlt2
          obtain ⟨a1, ea1⟩ : ∃ a, A + sz x j = a := ⟨_, rfl⟩
          obtain ⟨q1, eq1⟩ : ∃ a, Q + 2 * yS (sz x) n k j + 1 = a := ⟨_, rfl⟩
          have HBT := Lib.hid (show ∀ b, bt (sz x) (yS (sz x) n k) A Q j b = decide ((A + sz x b) * (A + sz x b) * q1 < a1 * a1 * (Q + 2 * yS (sz x) n k b + 1)) from fun b => by rw [← ea1, ← eq1]; rfl)
          have HE1 := Lib.hid (And.intro ea1 eq1)
          rw [ea1] at ha1 HC5
          rw [eq1] at hq1 HC5
          obtain ⟨p, hp⟩ : ∃ p, yS (sz x) n k j = p := ⟨_, rfl⟩
          rw [hp] at HS5 HC5 hyj ⊢
          have HN1 := Lib.hid hN
          clear hN ea1 eq1 hG3 hG3' hb3 hgr hat hgl HG5 HCB HE HL HZ HS3 HS4 hp HYJ cz fz
          obtain ⟨aa1, aa2, aa3, aa4⟩ := prod_bd ha1 hq1
          have fin : bS (sz x) n k (j + 1) = j → Bst (sz x) (yS (sz x) n k) A Q (j + 1) (bS (sz x) n k (j + 1)) j ((a1 : Int) * a1) q1 := fun h1 => by
            rw [h1]
            exact .inr ⟨Nat.succ_pos j, rfl, by rw [← HE1.out.1], by rw [← HE1.out.2]⟩
          have FIN := Lib.hid fin
          clear fin
          rcases HB.out with ⟨rfl, rfl, rfl, rfl⟩ | ⟨hj0, rfl, rfl, rfl⟩
          · have e1 : bS (sz x) n k (0 + 1) = 0 := by rw [HN1.out]; show (if _ then 0 else 0) = 0; split <;> rfl
            have HF := Lib.hid (FIN.out e1)
            clear FIN HN1 HBT e1
            go_wp2_with fail
            refine HC5.out.mono ?_
            rintro e w5 ⟨rfl, d, rfl⟩
            have HS6 := Lib.hid (HS5.out.drewN d)
            clear HC5 HS5 HS2
            go_wp2_with fail
            go_roundw
            case rel => exact ⟨1, 0, _, _, by omega, by go_num, rfl, rfl, rfl, HF, HS6.out⟩
            case measure => simp [intOf]; omega
          · have hmn := hlb.out j (by omega)
            have hb1 := hbA.out _ hmn
            have hr1 := hbQ.out _ hmn
            have hBT := HBT.out (bS (sz x) n k j)
            obtain ⟨m, hm⟩ : ∃ m, bS (sz x) n k j = m := ⟨_, rfl⟩
            have hN1 := HN1.out
            rw [hm] at hb1 hr1 hBT hN1 hmn ⊢
            obtain ⟨b1, eb1⟩ : ∃ a, A + sz x m = a := ⟨_, rfl⟩
            obtain ⟨r1, er1⟩ : ∃ a, Q + 2 * yS (sz x) n k m + 1 = a := ⟨_, rfl⟩
            have HE2 := Lib.hid (And.intro eb1 er1)
            rw [eb1] at hb1 hBT ⊢
            rw [er1] at hr1 hBT ⊢
            obtain ⟨bb1, bb2, bb3, bb4⟩ := prod_bd hb1 hq1
            obtain ⟨cc1, cc2, cc3, cc4⟩ := prod_bd ha1 hr1
            have hBI : decide ((b1 : Int) * b1 * q1 < (a1 : Int) * a1 * r1) = decide (b1 * b1 * q1 < a1 * a1 * r1) := by
              rw [decide_eq_decide]
              constructor
              · intro h; exact_mod_cast h
              · intro h; exact_mod_cast h
            rw [hBT] at hN1
            obtain ⟨r, hr⟩ : ∃ r, decide (b1 * b1 * q1 < a1 * a1 * r1) = r := ⟨_, rfl⟩
            rw [hr] at hN1 hBI
            have HM := Lib.hid hm
            have HN2 := Lib.hid hN1
            clear hBT hN1 hr eb1 er1 hm HBT HN1
            cases r
            · have e1 : bS (sz x) n k (j + 1) = m := HN2.out
              have HF := Lib.hid (show Bst (sz x) (yS (sz x) n k) A Q (j + 1) (bS (sz x) n k (j + 1)) m ((b1 : Int) * b1) r1 from .inr ⟨Nat.succ_pos j, by rw [e1], by rw [e1, HE2.out.1], by rw [e1, HE2.out.2]⟩)
              clear FIN HN2 e1 HB
              go_wp2_with fail
              refine HC5.out.mono ?_
              rintro e w5 ⟨rfl, d, rfl⟩
              have HS6 := Lib.hid (HS5.out.drewN d)
              clear HC5 HS5 HS2
              go_wp2_with fail
              go_roundw
              case rel => exact ⟨j + 1, m, _, _, by omega, by go_num, rfl, rfl, rfl, HF, HS6.out⟩
              case measure => simp [intOf]; omega
            · have HF := Lib.hid (FIN.out HN2.out)
              clear FIN HN2 HB
              go_wp2_with fail
              refine HC5.out.mono ?_
              rintro e w5 ⟨rfl, d, rfl⟩
              have HS6 := Lib.hid (HS5.out.drewN d)
              clear HC5 HS5 HS2
              go_wp2_with fail
              go_roundw
              case rel => exact ⟨j + 1, j, _, _, by omega, by go_num, rfl, rfl, rfl, HF, HS6.out⟩
              case measure => simp [intOf]; omega
        · obtain rfl : j = n := by omega
          rcases HB.out with ⟨e, _⟩ | ⟨_, rfl, _, _⟩
          · omega
          have hm := hlb.out j (Nat.le_refl _)
          have HR2 := Lib.hid ((HR1.out.set (yI x j k (bS (sz x) j k j) + 1) hm).ext fun i _ => yI_next x j k i)
          have hp8 := hY.out (bS (sz x) j k j)
          have cr := HR1.out.cell (HS2.out.row) (bS (sz x) j k j) hm
          rw [show yI x j k (bS (sz x) j k j) = ((yS (sz x) j k (bS (sz x) j k j) : Nat) : Int) from rfl] at HR2 cr
          obtain ⟨p, hp⟩ : ∃ p, yS (sz x) j k (bS (sz x) j k j) = p := ⟨_, rfl⟩
          rw [hp] at HR2 hp8 cr
          obtain ⟨m, hme⟩ : ∃ m, bS (sz x) j k j = m := ⟨_, rfl⟩
          rw [hme] at HR2 hm cr ⊢
          have f2 := HS2.out.row.frozen m
          have HS4 := Lib.hid (HS2.out.set m (.int .i64 ((p : Int) + 1)))
          clear hp hme HB HN HBA HBQ hbA hbQ HS2
          go_wp2_with fail
          go_roundw
          case rel => exact ⟨k + 1, _, by omega, by go_num, HR2, HS4.out⟩
          case measure => simp [intOf]; omega
    · obtain rfl : k = K := by omega
      have HM := Lib.hid (HR1.out.ext fun i _ => mx_zero x n k i)
      clear HR1
      go_wp2_with fail
      go_loopw [14] (fun i w' => ∃ (j : Nat) (R : Array Value), j ≤ n ∧ i = .int .i64 j ∧ Hid (IsRow n (mx x n k j) R) ∧ RfS W g b o n x R w') (fun i _ => n - (intOf i).toNat)
      case atStart => exact ⟨0, R, Nat.zero_le _, rfl, HM, HS1.out⟩
      case round =>
        obtain ⟨j, R, hj, rfl, HR, hs⟩ := hrel
        have HS2 := Lib.hid hs
        clear hs HS1 HM
        by_cases hlt2 : j < n
        · have c0 := HS2.out.wave j hlt2
          have c1 := HR.out.cell HS2.out.row j hlt2
          have f1 := HS2.out.row.frozen j
          have HN := Lib.hid (fun h => (HR.out.set (-(yI x n k j)) hlt2).ext fun i _ => mx_neg h i)
          have HP := Lib.hid (fun h => HR.out.ext fun i _ => mx_pos h i)
          have hy : yI x n k j ≤ 8 ∧ 0 ≤ yI x n k j := by have := y_le (sz x) n k j; unfold yI; omega
          rw [mx_here] at c1
          obtain ⟨p, hp⟩ : ∃ p, yI x n k j = p := ⟨_, rfl⟩
          obtain ⟨v, hv⟩ : ∃ v, x j = v := ⟨_, rfl⟩
          rw [hp] at c1 hy HN
          rw [hv] at c0 HN HP
          clear hp hv
          have HS3 := Lib.hid (HS2.out.set j (.int .i64 (-p)))
          by_cases hneg : v < 0
          · have HN1 := Lib.hid (HN.out hneg)
            clear HN HP
            go_wp2_with fail
            go_roundw
            case rel => exact ⟨j + 1, _, by omega, by go_num, HN1, HS3.out⟩
            case measure => simp [intOf]; omega
          · have HN1 := Lib.hid (HP.out hneg)
            clear HN HP HS3
            go_wp2_with fail
            go_roundw
            case rel => exact ⟨j + 1, _, by omega, by go_num, HN1, HS2.out⟩
            case measure => simp [intOf]; omega
        · obtain rfl : j = n := by omega
          have HR2 := Lib.hid (HR.out.ext fun i hi => mx_all hi)
          go_wp2_with fail
          go_ret
          exact ⟨g, R, rfl, by omega, HR2.out, HS2.out.row, HS2.out.below⟩
