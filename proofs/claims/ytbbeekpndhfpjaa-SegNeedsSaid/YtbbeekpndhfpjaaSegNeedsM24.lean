/- Texts of the walk, one behind the other. -/
import Derived.Test.YtbbeekpndhfpjaaSegNeedsM15
import Derived.Test.YtbbeekpndhfpjaaSlA9
import Derived.BigQuiet

section
/- The statements' own functions of layer 19: few, Begins; lists of texts. -/
set_option maxRecDepth 100000
set_option linter.unusedVariables false
set_option linter.unusedSimpArgs false
namespace Go.Proofs.Ytbbeekpndhfpjaa.Sg
open Go.RowKit Go.Proofs.Ytbbeekpndhfpjaa.Row Go.Proofs.Ytbbeekpndhfpjaa.Pa Go.Proofs.Ytbbeekpndhfpjaa.Fg Go.Proofs.Ytbbeekpndhfpjaa.Dk

def zA9 : Array Value := #[.int .u8 0, .string ⟨#[]⟩, .slice none 0 0, .int .u8 0]
theorem elt_a9 : ElT 22 36 4 56 zA9 :=
  ⟨Try.underlying22, ⟨_, _, rfl, rfl, by kernel_rfl, by kernel_rfl, by kernel_rfl⟩, rfl, by omega, by omega⟩
theorem elt_rec : ElT 30 79 2 24 #[.int .i64 0, .string ⟨#[]⟩] :=
  ⟨Try.underlying30, ⟨_, _, rfl, rfl, by kernel_rfl, by kernel_rfl, by kernel_rfl⟩, rfl, by omega, by omega⟩
theorem elt_s : ElT 33 9 1 16 #[.string ⟨#[]⟩] :=
  ⟨Try.underlying33, ⟨_, _, rfl, rfl, by kernel_rfl, by kernel_rfl, by kernel_rfl⟩, rfl, by omega, by omega⟩
/-- Texts as elements. -/
def strF (all : List (List UInt8)) (i : Nat) : Array Value := #[.string (tx (all.getD i []))]
/-- A list of texts of one's own. -/
def Txs (w : World) (B : Nat) (a : Option Addr) (n c : Nat) (all : List (List UInt8)) : Prop := all.length = n ∧ Els w B 9 1 a n c (strF all)

/-- What few answers. -/
def RetFew9 (w : World) (n : Nat) (A : Nat → Ac9) (e : Ending) (w' : World) : Prop := ∃ bb, e = .returned (.bool bb) ∧ w' = w ∧ (bb = true → n ≤ 30 ∧ ∀ i, i < n → (A i).tx.size ≤ 5000 ∧ (A i).kn ≤ 300)
set_option maxHeartbeats 1000000 in
theorem few_as (w : World) (a : Option Addr) (n c : Nat) (A : Nat → Ac9) (h : SlA9 w a n c A) : Calls Try.prog 8 #[.slice a n c] w (RetFew9 w n A) := by
  have HA := Lib.hid h
  clear h
  go_enter Try.func8, Try.ntmps8
  go_wp2_with fail
  go_loopw [3] (fun i w' => ∃ k : Nat, k ≤ n ∧ k ≤ 31 ∧ i = .int .i64 k ∧ w' = w ∧ Hid (∀ j, j < k → (A j).tx.size ≤ 5000 ∧ (A j).kn ≤ 300)) (fun i _ => n - (intOf i).toNat)
  case atStart => exact ⟨0, Nat.zero_le _, by omega, rfl, rfl, Lib.hid fun j hj => absurd hj (Nat.not_lt_zero j)⟩
  case round =>
    obtain ⟨k, hk, hk6, rfl, rfl, HK⟩ := hrel
    by_cases hlt : k < n
    · have k1 : (k : Int) < (n : Int) := by omega
      by_cases h60 : k ≤ 30
      · have k2 : (k : Int) ≤ 30 := by omega
        obtain ⟨g, o, hg, hat⟩ := HA.out.2.2.2 (by omega)
        have hsz := (HA.out.2.2.1 k hlt).2.2
        have hc1 := (hat k hlt).2.1
        have hc2 := (hat k hlt).2.2.1
        have rx := run_ex (g := g) (o := o) (n := n) (c := c) elt_a9 hlt
        subst hg
        obtain ⟨q, hq⟩ : ∃ q, (A k).kn = q := ⟨_, rfl⟩
        obtain ⟨X, hX⟩ : ∃ X, (A k).tx = X := ⟨_, rfl⟩
        obtain ⟨y, hy⟩ : ∃ y, X.size = y := ⟨_, rfl⟩
        have HQ := Lib.hid (And.intro hq (And.intro hX hy))
        rw [hq] at hc2
        rw [hX] at hc1 hsz
        unfold maxLen at hsz
        clear hat hq hX
        by_cases hy2 : y ≤ 5000
        · have k4 : ¬ (5000 : Int) < (y : Int) := by omega
          by_cases hq2 : q ≤ 300
          · have k3 : ¬ (300 : Int) < (q : Int) := by omega
            go_wp2_with fail
            go_roundw
            case rel => exact ⟨k + 1, by omega, by omega, by go_num, by first | rfl | trivial, Lib.hid fun j hj => by
              by_cases e : j = k
              · subst e; rw [HQ.out.1, HQ.out.2.1, HQ.out.2.2]; exact ⟨hy2, hq2⟩
              · exact HK.out j (by omega)⟩
            case measure => simp [intOf]; omega
          · have k3 : (300 : Int) < (q : Int) := by omega
            go_wp2_with fail
            go_ret
            exact ⟨false, rfl, rfl, fun h => by cases h⟩
        · have k4 : (5000 : Int) < (y : Int) := by omega
          go_wp2_with fail
          go_ret
          exact ⟨false, rfl, rfl, fun h => by cases h⟩
      · have k2 : ¬ (k : Int) ≤ 30 := by omega
        go_wp2_with fail
        go_ret
        exact ⟨_, rfl, rfl, fun h => by simp at h; omega⟩
    · obtain rfl : k = n := by omega
      have k1 : ¬ (k : Int) < (k : Int) := by omega
      go_wp2_with fail
      go_ret
      exact ⟨_, rfl, rfl, fun h => ⟨by simp at h; omega, HK.out⟩⟩

set_option maxHeartbeats 1000000 in
theorem begins_as {w : World} {B B' n c m c' : Nat} {a b : Option Addr} {l : List (Nat × List UInt8)} {all : List (List UInt8)} (hl : l.length = n) (hE : Els w B 79 2 a n c (recF l)) (hT : Txs w B' b m c' all) (hp : ∃ y, all = l.map (·.2) ++ y) :
    Calls Try.prog 16 #[.slice a n c, .slice b m c'] w fun e w' => e = .returned (.int .i64 1) ∧ Below w.heap.size w w' := by
  have hnm : n ≤ m := by
    obtain ⟨y, hy⟩ := hp
    rw [← hT.1, hy, List.length_append, List.length_map, hl]; omega
  have hsame : ∀ k, k < n → all.getD k [] = (l.getD k (0, [])).2 := fun k hk => by
    obtain ⟨y, hy⟩ := hp
    rw [hy, List.getD_eq_getElem?_getD, List.getElem?_append_left (by rw [List.length_map, hl]; exact hk), List.getElem?_map, List.getD_eq_getElem?_getD, List.getElem?_eq_getElem (by omega)]
    rfl
  have HS := Lib.hid hsame
  have HE := Lib.hid (And.intro hE hT.2)
  have hcap := hE.cap.2
  unfold maxLen at hcap
  have hcap1 := hE.cap.1
  have hcap2 := hT.2.cap
  unfold maxLen at hcap2
  clear hE hT hp hsame hl
  go_enter Try.func16, Try.ntmps16
  go_wp2_with fail
  go_loopw [5] (fun i w' => ∃ k : Nat, k ≤ n ∧ i = .int .i64 k ∧ Hid (Below w.heap.size w w')) (fun i _ => n - (intOf i).toNat)
  case atStart => exact ⟨0, Nat.zero_le _, rfl, Lib.hid (Below.refl _ _)⟩
  case round =>
    obtain ⟨k, hk, rfl, HB⟩ := hrel
    by_cases hlt : k < n
    · have k1 : decide ((k : Int) < (n : Int)) = true := decide_eq_true (by omega)
      have k2 : decide ((m : Int) ≤ (k : Int)) = false := decide_eq_false (by omega)
      have k3 : decide (m ≤ k) = false := decide_eq_false (by omega)
      obtain ⟨g, rfl, _, hgl⟩ := HE.out.1.addr (by omega)
      obtain ⟨q, rfl, _, hql⟩ := HE.out.2.addr (by omega)
      obtain ⟨X, hX⟩ : ∃ X, tx (l.getD k (0, [])).2 = X := ⟨_, rfl⟩
      have c1 : wr.cell? ⟨g, k * 2 + 1, none⟩ = some (.string X) := by
        have h1 := (HE.out.1.below HB.out).range hlt 1 (.string X) (by rw [Array.getElem?_toList, ← hX]; rfl)
        exact h1
      have c2 : wr.cell? ⟨q, k, none⟩ = some (.string X) := by
        have h1 := (HE.out.2.below HB.out).range (i := k) (by omega) 0 (.string X) (by rw [Array.getElem?_toList, ← hX, ← HS.out k hlt]; rfl)
        rwa [Nat.add_zero, Nat.mul_one] at h1
      have r1 := run_ex (g := g) (o := 0) (n := n) (c := c) elt_rec hlt
      have r2 := run_ex (g := q) (o := 0) (n := m) (c := c') elt_s (show k < m by omega)
      have hxx : (X.toList != X.toList) = false := by simp
      clear hX
      go_wp2_with fail
      go_quiet (fail)
      go_wp2
      go_roundw
      case rel => exact ⟨k + 1, by omega, by go_num, Lib.hid (below_drewN HB.out _)⟩
      case measure => simp [intOf]; omega
    · obtain rfl : k = n := by omega
      have k1 : decide ((k : Int) < (k : Int)) = false := decide_eq_false (by omega)
      go_wp2_with fail
      go_ret
      exact ⟨rfl, HB.out⟩
end Go.Proofs.Ytbbeekpndhfpjaa.Sg
end
