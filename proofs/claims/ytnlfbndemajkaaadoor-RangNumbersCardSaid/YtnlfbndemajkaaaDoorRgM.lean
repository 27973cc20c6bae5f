/- Contract of the laws' cells: the walk. -/
import Derived.Test.YtnlfbndemajkaaaDoorRgL
set_option maxRecDepth 100000
set_option linter.unusedVariables false
namespace Go.Proofs.YtnlfbndemajkaaaDoor.Rg
open Go.RowKit Go.Proofs.YtnlfbndemajkaaaDoor.Row

theorem cellsOf_take (f : Nat → Tr) (n k : Nat) (hk : k < min n 100) : (cellsOf f n).take (k + 1) = (cellsOf f n).take k ++ [(f k).cl] := by
  have hl : k < (cellsOf f n).length := by rw [cellsOf_length]; exact hk
  have hg : (cellsOf f n)[k]? = some (f k).cl := by unfold cellsOf; rw [List.getElem?_map, List.getElem?_range hk]; rfl
  rw [List.take_add_one, hg]
  rfl
theorem new_cell (w : World) (C : Cl) (s v t : Int) (h : (C.t : Int) = t ∧ (C.s : Int) = s ∧ (C.w : Int) = v) :
    At ((w.alloc (.cells #[.int .i64 s, .int .i64 v, .int .i64 t] 32)).alloc (.cells #[.int .i64 s, .int .i64 v, .int .i64 t] 32)) (w.heap.size + 1) #[.int .i64 C.s, .int .i64 C.w, .int .i64 C.t] 32 := by
  obtain ⟨rfl, rfl, rfl⟩ := h
  have := At.new (w.alloc (.cells #[.int .i64 C.s, .int .i64 C.w, .int .i64 C.t] 32)) #[.int .i64 C.s, .int .i64 C.w, .int .i64 C.t] 32
  simpa using this
theorem two_below (w : World) (o1 o2 : Obj) : Below w.heap.size w ((w.alloc o1).alloc o2) := ((Below.refl _ _).alloc (Nat.le_refl _) _).alloc (by simp) _

/-- What holds while the cells are made. -/
def MkS (w : World) (f : Nat → Tr) (n k : Nat) (v : Value) (w' : World) : Prop := ∃ a c, v = .slice a k c ∧ Cls w' w.heap.size a k c ((cellsOf f n).take k) ∧ Below w.heap.size w w'

set_option maxHeartbeats 2000000 in
theorem cells_as (a : Option Addr) (n c : Nat) (f : Nat → Tr) (w : World) (hS : SlC w a n c f) :
    Calls Tryd.prog 11 #[.slice a n c] w fun e w' => RetCls w (cellsOf f n) e w' := by
  have HS := Lib.hid hS
  have hn := hS.1
  have hc := hS.2.1
  unfold maxLen at hc
  clear hS
  go_enter Tryd.func11, Tryd.ntmps11
  go_wp2
  go_loopw [3, 4] (fun v i w' => ∃ k : Nat, k ≤ min n 100 ∧ i = .int .i64 k ∧ MkS w f n k v w') (fun _ i _ => 100 - (intOf i).toNat)
  case atStart => exact ⟨0, Nat.zero_le _, rfl, none, 0, rfl, Cls.nil _ _, Below.refl _ _⟩
  case round =>
    obtain ⟨k, hk, rfl, a', c', rfl, hC, hB⟩ := hrel
    have HC := Lib.hid hC
    have HB := Lib.hid hB
    clear hC hB
    by_cases hlt : k < min n 100
    · obtain ⟨b, o, rfl, hcell⟩ := HS.out.2.2 (by omega)
      obtain ⟨c0, c1, c2⟩ := (hcell k (by omega)).below HB.out
      have k1 : k < n := by omega
      have k2 : k < 100 := by omega
      obtain ⟨t, s, d, r, e1, e2, e3, e4, e5, e6, e7, b1, b2, b3, b4, b5, b6, b7, b8⟩ := cl_parts (f k)
      have HCL := Lib.hid (⟨e5, e6, e7⟩ : ((f k).cl.t : Int) = t ∧ ((f k).cl.s : Int) = s ∧ ((f k).cl.w : Int) = 1 + r)
      obtain ⟨S, hSS⟩ : ∃ S, (f k).s = S := ⟨_, rfl⟩
      obtain ⟨V, hVV⟩ : ∃ V, (f k).v = V := ⟨_, rfl⟩
      obtain ⟨T, hTT⟩ : ∃ T, (f k).t = T := ⟨_, rfl⟩
      rw [hSS] at c0 e2
      rw [hVV] at c1 e4
      rw [hTT] at c2 e1
      have a1 := and15 S
      have a2 := and15 V
      have a3 := and15 T
      clear hcell e5 e6 e7 hSS hVV hTT hlt hk
      go_wp2_with (at_builtin; refine wpList_append_cell rfl _ _ rfl w.heap.size ((cellsOf f n).take k) (f k).cl a' k c' rfl (HC.out.below (two_below _ _ _)) (wr.heap.size + 1) rfl (new_cell _ _ _ _ _ HCL.out) (by omega) (by have := HB.out.size; simp; omega) ?_)
      intro a9 c9 w9 hC2 hB2 _
      have HC2 := Lib.hid hC2
      have HB2 := Lib.hid ((below_trans HB.out (two_below wr (.cells #[.int .i64 s, .int .i64 (1 + r), .int .i64 t] 32) (.cells #[.int .i64 s, .int .i64 (1 + r), .int .i64 t] 32)) HB.out.size).trans hB2)
      clear hC2 hB2 c0 c1 c2 e1 e2 e3 e4 a1 a2 a3
      go_wp2
      go_roundw
      case rel => exact ⟨k + 1, by omega, by go_num, a9, c9, rfl, by rw [cellsOf_take f n k (by omega)]; exact HC2.out, HB2.out⟩
      case measure => simp [intOf]; omega
    · have hk' : (k = n ∧ n ≤ 100) ∨ (k = 100 ∧ 100 < n) := by omega
      have HR : Hid (RetCls w (cellsOf f n) (.returned (.slice a' k c')) wr) := by
        have e : (cellsOf f n).length = k := by rw [cellsOf_length]; omega
        have h := HC.out
        rw [List.take_of_length_le (by omega)] at h
        exact ⟨a', c', by rw [e], by rw [e]; exact h, HB.out⟩
      clear hlt hk
      rcases hk' with ⟨rfl, h1⟩ | ⟨rfl, h1⟩
      · have hd : decide ((k : Int) < (k : Int)) = false := by simp
        go_wp2
        go_ret
        exact HR
      · go_wp2
        go_ret
        exact HR
end Go.Proofs.YtnlfbndemajkaaaDoor.Rg
