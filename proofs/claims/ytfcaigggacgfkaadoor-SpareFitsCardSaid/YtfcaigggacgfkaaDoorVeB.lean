/- Contract of the counts' function. -/
import Derived.Test.YtfcaigggacgfkaaDoorVeA
set_option maxRecDepth 100000
set_option linter.unusedVariables false
namespace Go.Proofs.YtfcaigggacgfkaaDoor.Ve
open Go.RowKit Go.Proofs.YtfcaigggacgfkaaDoor.Row Go.Maps Go.WideMaps

theorem cI_rec {n k : Int} (hn : 1 ≤ n) (hn8 : n ≤ 8) (hk : 1 ≤ k) (hk8 : k ≤ 8) : cI n k = cI (n - 1) k + cI n (k - 1) + cI (n - 1) (k - 1) := by
  obtain ⟨m, rfl⟩ : ∃ m : Nat, n = m + 1 := ⟨(n - 1).toNat, by omega⟩
  obtain ⟨j, rfl⟩ : ∃ j : Nat, k = j + 1 := ⟨(k - 1).toNat, by omega⟩
  have e1 : ((m : Int) + 1 - 1) = (m : Nat) := by omega
  have e2 : ((j : Int) + 1 - 1) = (j : Nat) := by omega
  rw [e1, e2, show ((m : Int) + 1) = ((m + 1 : Nat) : Int) by omega, show ((j : Int) + 1) = ((j + 1 : Nat) : Int) by omega, cI_nat (by omega) (by omega), cI_nat (by omega) (by omega), cI_nat (by omega) (by omega), cI_nat (by omega) (by omega), V_rec]
theorem cI_zero {n : Int} (hn : 0 ≤ n) (hn8 : n ≤ 8) : cI n 0 = 1 := by
  obtain ⟨m, rfl⟩ := Int.eq_ofNat_of_zero_le hn
  have := cI_nat (n := m) (k := 0) (by omega) (by omega)
  rw [V_one] at this
  exact this
theorem cI_none {k : Int} (hk : 1 ≤ k) : cI 0 k = 0 := by
  unfold cI
  split
  · obtain ⟨j, rfl⟩ : ∃ j : Nat, k = j + 1 := ⟨(k - 1).toNat, by omega⟩
    rw [show ((j : Int) + 1).toNat = j + 1 by omega]
    rfl
  · rfl
theorem cI_out {n k : Int} (h : n < 0 ∨ 8 < n ∨ k < 0 ∨ 8 < k) : cI n k = 0 := by
  unfold cI; rw [if_neg (by omega)]

/-- What the counts' function leaves: the map of counts, all else as it was. -/
def Ofs (w : World) (b : Nat) (w' : World) : Prop := Cn w' b ∧ Fr (Just b) w w'

theorem of_end (w : World) (b : Nat) (n k : Int) (h : Cn w b) (c : (n < 0 ∨ 8 < n ∨ k < 0 ∨ 8 < k) ∨ (0 ≤ n ∧ n ≤ 8 ∧ k = 0) ∨ (n = 0 ∧ 1 ≤ k ∧ k ≤ 8)) :
    Calls Tryd.prog 34 #[.map (some b), .int .i64 n, .int .i64 k] w fun e w' => e = .returned (.int .i64 (cI n k)) ∧ Ofs w b w' := by
  have HO := Lib.hid (show Ofs w b w from ⟨h, Fr.refl _ _⟩)
  have go : ∀ r : Int, r = cI n k → Ending.returned (.int .i64 r) = Ending.returned (.int .i64 (cI n k)) ∧ Ofs w b w := fun r e => ⟨by rw [e], HO.out⟩
  rcases c with (c | c | c | c) | ⟨c1, c2, rfl⟩ | ⟨rfl, c1, c2⟩
  · have e := cI_out (n := n) (k := k) (.inl c)
    go_enter Tryd.func34, Tryd.ntmps34
    go_wp2_with fail
    go_ret
    exact go 0 (by rw [e]; rfl)
  · have e := cI_out (n := n) (k := k) (.inr (.inl c))
    have c' : 0 ≤ n := by omega
    go_enter Tryd.func34, Tryd.ntmps34
    go_wp2_with fail
    go_ret
    exact go 0 (by rw [e]; rfl)
  · have e := cI_out (n := n) (k := k) (.inr (.inr (.inl c)))
    by_cases n0 : n < 0
    · go_enter Tryd.func34, Tryd.ntmps34
      go_wp2_with fail
      go_ret
      exact go 0 (by rw [e]; rfl)
    by_cases n8 : 8 < n
    · go_enter Tryd.func34, Tryd.ntmps34
      go_wp2_with fail
      go_ret
      exact go 0 (by rw [e]; rfl)
    go_enter Tryd.func34, Tryd.ntmps34
    go_wp2_with fail
    go_ret
    exact go 0 (by rw [e]; rfl)
  · have e := cI_out (n := n) (k := k) (.inr (.inr (.inr c)))
    have c' : 0 ≤ k := by omega
    by_cases n0 : n < 0
    · go_enter Tryd.func34, Tryd.ntmps34
      go_wp2_with fail
      go_ret
      exact go 0 (by rw [e]; rfl)
    by_cases n8 : 8 < n
    · go_enter Tryd.func34, Tryd.ntmps34
      go_wp2_with fail
      go_ret
      exact go 0 (by rw [e]; rfl)
    go_enter Tryd.func34, Tryd.ntmps34
    go_wp2_with fail
    go_ret
    exact go 0 (by rw [e]; rfl)
  · have e := cI_zero c1 c2
    go_enter Tryd.func34, Tryd.ntmps34
    go_wp2_with fail
    go_ret
    exact go 1 (by rw [e]; rfl)
  · have e := cI_none c1
    have c3 : 0 ≤ k := by omega
    have c4 : ¬ k = 0 := by omega
    go_enter Tryd.func34, Tryd.ntmps34
    go_wp2_with fail
    go_ret
    exact go 0 (by rw [e]; rfl)

/-- What stands while it works: the map, the key's block. -/
def OfS (w : World) (b : Nat) (n k : Int) (w' : World) : Prop := Cn w' b ∧ Fr (Just b) w w' ∧ b ≠ w.heap.size ∧ At w' w.heap.size #[.int .i64 n, .int .i64 k] 58
theorem OfS.start {w : World} {b : Nat} (h : Cn w b) (n k : Int) : OfS w b n k (w.alloc (.cells #[.int .i64 n, .int .i64 k] 58)) :=
  ⟨h.below ((Below.refl _ _).alloc (Nat.le_refl _) _), (Fr.refl _ _).alloc _, by have := h.lt; omega, At.new _ _ _⟩
theorem OfS.next {w w1 w2 : World} {b : Nat} {n k : Int} (h : OfS w b n k w1) (h2 : Ofs w1 b w2) : OfS w b n k w2 :=
  ⟨h2.1, h.2.1.same h2.2, h.2.2.1, h.2.2.2.fr h2.2 fun e => h.2.2.1 e.symm⟩
theorem OfS.put {w w1 w2 : World} {b : Nat} {n k : Int} (h : OfS w b n k w1) (h2 : Cn w2 b) (hg : w1.grownBy w2 (some b)) : Ofs w b w2 :=
  ⟨h2, h.2.1.grown hg fun k hk => .inl (by cases hk; rfl)⟩
theorem size_key : (Tryd.prog.info? 58).map (·.size) = some 2 := by kernel_rfl

set_option maxHeartbeats 400000 in
theorem of_in (b : Nat) (d : Nat) : ∀ (n k : Int) (w : World), n + k ≤ d → 0 ≤ n → n ≤ 8 → 0 ≤ k → k ≤ 8 → Cn w b →
    Calls Tryd.prog 34 #[.map (some b), .int .i64 n, .int .i64 k] w fun e w' => e = .returned (.int .i64 (cI n k)) ∧ Ofs w b w' := by
  induction d with
  | zero => intro n k w hd h0 h8 k0 k8 h; exact of_end w b n k h (.inr (.inl ⟨h0, h8, by omega⟩))
  | succ d ih =>
    intro n k w hd h0 h8 k0 k8 h
    by_cases ck : k = 0
    · exact of_end w b n k h (.inr (.inl ⟨h0, h8, ck⟩))
    by_cases cn : n = 0
    · exact of_end w b n k h (.inr (.inr ⟨cn, by omega, k8⟩))
    have HS := Lib.hid (OfS.start h n k)
    obtain ⟨D, hD⟩ := h
    have hA := hD.below ((Below.refl _ _).alloc (Nat.le_refl _) (.cells #[.int .i64 n, .int .i64 k] 58))
    have l1 := cI_le (n - 1) k
    have l2 := cI_le n (k - 1)
    have l3 := cI_le (n - 1) (k - 1)
    have hsum := cI_rec (n := n) (k := k) (by omega) h8 (by omega) k8
    have HK := Lib.hid hsum
    clear hsum
    rcases hr : Maps.has D (kL n k) with _ | _
    · have hl := run_look_no hA h0 h8 k0 k8 hr
      clear hA hD hr
      go_enter Tryd.func34, Tryd.ntmps34
      go_wp2_with fail
      refine (ih (n - 1) k _ (by omega) (by omega) (by omega) (by omega) (by omega) HS.out.1).mono ?_
      rintro e w1 ⟨rfl, h1⟩
      have HS1 := Lib.hid (HS.out.next h1)
      clear HS h1
      go_wp2_with fail
      refine (ih n (k - 1) _ (by omega) (by omega) (by omega) (by omega) (by omega) HS1.out.1).mono ?_
      rintro e w2 ⟨rfl, h2⟩
      have HS2 := Lib.hid (HS1.out.next h2)
      clear HS1 h2
      go_wp2_with fail
      refine (ih (n - 1) (k - 1) _ (by omega) (by omega) (by omega) (by omega) (by omega) HS2.out.1).mono ?_
      rintro e w3 ⟨rfl, h3⟩
      have HS3 := Lib.hid (HS2.out.next h3)
      clear HS2 h3
      go_wp2_with (first
        | (refine wpList_load_wanted (by rfl) 58 _ rfl w.heap.size rfl _ _ _ _ HS3.out.2.2.2 Tryd.underlying58 size_key ?_)
        | (at_mapUpdate; refine wpList_put_count rfl _ _ _ rfl b n k h0 h8 k0 k8 rfl HS3.out.1 rfl ?_ ?_))
      · have e : (cI (n - 1) k : Int) + cI n (k - 1) + cI (n - 1) (k - 1) = cI n k := by have := HK.out; omega
        rw [← e]
        rfl
      · intro w4 h4 hg4
        go_wp2_with fail
        go_ret
        exact ⟨ret_int (by have := HK.out; omega), HS3.out.put h4 hg4⟩
    · have hl := run_look_yes hA h0 h8 k0 k8 hr
      clear hA hD hr
      go_enter Tryd.func34, Tryd.ntmps34
      go_wp2_with fail
      go_ret
      exact ⟨rfl, HS.out.1, HS.out.2.1⟩

end Go.Proofs.YtfcaigggacgfkaaDoor.Ve
