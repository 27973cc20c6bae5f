/- SpareRooms: the walk. -/
import Derived.Test.YtfcaigggacgfkaaDoorSpI
set_option maxRecDepth 100000
set_option linter.unusedVariables false
namespace Go.Proofs.YtfcaigggacgfkaaDoor.Sp
open Go.RowKit Go.Proofs.YtfcaigggacgfkaaDoor.Row

theorem room_as (s u r : Int) (w : World) (hu : u ≤ 9223372036854775807) (h : rm s u = r) :
    Calls Tryd.prog 17 #[.int .i64 s, .int .i64 u] w fun e w' => e = .returned (.int .i64 r) ∧ w = w' := by
  rw [← h]; exact room_any s u w hu

set_option maxHeartbeats 800000 in
theorem spareRooms_nat (s u : Nat) (w : World) (hs : s ≤ 255) (hu : u ≤ 255) (hT : Lv.Tab w) :
    Calls Tryd.prog 7 #[.int .u8 s, .int .u8 u] w fun e w' => e = .returned (.bool true) ∧ Below w.heap.size w w' := by
  obtain ⟨n, hn⟩ : ∃ n : Nat, (s : Int) % 22 = n := ⟨s % 22, by omega⟩
  have n22 : n < 22 := by omega
  obtain ⟨a, ha⟩ : ∃ a, rm (10 + (n : Int)) u = a := ⟨_, rfl⟩
  obtain ⟨b, hb⟩ : ∃ b, rm (10 + (n : Int) + 1) u = b := ⟨_, rfl⟩
  obtain ⟨c, hc⟩ : ∃ c, rm (10 + (n : Int)) ((u : Int) + 1) = c := ⟨_, rfl⟩
  obtain ⟨d, hd⟩ : ∃ d, rm (10 + (n : Int)) 0 = d := ⟨_, rfl⟩
  have CA := Lib.hid (fun w => room_as (10 + (n : Int)) u a w (by omega) ha)
  have CB := Lib.hid (fun w => room_as (10 + (n : Int) + 1) u b w (by omega) hb)
  have CC := Lib.hid (fun w => room_as (10 + (n : Int)) ((u : Int) + 1) c w (by omega) hc)
  have CD := Lib.hid (fun w => room_as (10 + (n : Int)) 0 d w (by omega) hd)
  have HA := Lib.hid (awake_yes w hT)
  have facts : 0 ≤ a ∧ a ≤ b ∧ b ≤ a + 8 ∧ c ≤ a ∧ a - 1 ≤ c ∧ (a = 0 ∨ b = a + 8 ∧ c = a - 1) ∧ d = 8 * (10 + (n : Int)) - 40 ∧ a ≤ 300 := by
    unfold rm at ha hb hc hd
    split at ha <;> split at hb <;> split at hc <;> split at hd <;> omega
  obtain ⟨f1, f2, f3, f4, f5, f6, f7, f8⟩ := facts
  have b1 : decide (0 ≤ a) = true := decide_eq_true f1
  have b2 : decide (a ≤ b) = true := decide_eq_true f2
  have b3 : decide (b ≤ a + 8) = true := decide_eq_true f3
  have b4 : decide (c ≤ a) = true := decide_eq_true f4
  have b5 : decide (a - 1 ≤ c) = true := decide_eq_true f5
  have b7 : (d == 8 * (10 + (n : Int)) - 40) = true := by rw [f7]; simp
  clear ha hb hc hd hT
  by_cases z : a = 0
  · have b6 : (a == 0) = true := by simp [z]
    clear f6 z f7 f2 f3 f4 f5
    go_enter Tryd.func7, Tryd.ntmps7
    go_wp2_with fail
    refine (CA.out _).mono ?_
    rintro e w1 ⟨rfl, rfl⟩
    go_wp2_with fail
    refine (CB.out _).mono ?_
    rintro e w1 ⟨rfl, rfl⟩
    go_wp2_with fail
    refine (CC.out _).mono ?_
    rintro e w1 ⟨rfl, rfl⟩
    go_wp2_with fail
    refine HA.out.mono ?_
    rintro e w1 ⟨rfl, h1⟩
    go_wp2_with fail
    refine (CD.out _).mono ?_
    rintro e w2 ⟨rfl, rfl⟩
    go_wp2_with fail
    go_ret
    exact ⟨rfl, h1⟩
  · have b6 : (a == 0) = false := by simp [z]
    have b8 : (b == a + 8) = true := by simp; omega
    have b9 : (c == a - 1) = true := by simp; omega
    clear f6 z f7 f2 f3 f4 f5
    go_enter Tryd.func7, Tryd.ntmps7
    go_wp2_with fail
    refine (CA.out _).mono ?_
    rintro e w1 ⟨rfl, rfl⟩
    go_wp2_with fail
    refine (CB.out _).mono ?_
    rintro e w1 ⟨rfl, rfl⟩
    go_wp2_with fail
    refine (CC.out _).mono ?_
    rintro e w1 ⟨rfl, rfl⟩
    go_wp2_with fail
    refine HA.out.mono ?_
    rintro e w1 ⟨rfl, h1⟩
    go_wp2_with fail
    refine (CD.out _).mono ?_
    rintro e w2 ⟨rfl, rfl⟩
    go_wp2_with fail
    go_ret
    exact ⟨rfl, h1⟩

theorem spareRooms_walk (a0 : Int) (w0 : (Lit.int .u8 a0).wf = true) (a1 : Int) (w1 : (Lit.int .u8 a1).wf = true) (W : World) (hT : Lv.Tab W) :
    Calls Tryd.prog 7 #[.int .u8 a0, .int .u8 a1] W fun e w' => e = .returned (.bool true) ∧ Below W.heap.size W w' := by
  obtain ⟨s, rfl, hs⟩ := u8_bd w0
  obtain ⟨u, rfl, hu⟩ := u8_bd w1
  exact spareRooms_nat s u W hs hu hT
end Go.Proofs.YtfcaigggacgfkaaDoor.Sp
