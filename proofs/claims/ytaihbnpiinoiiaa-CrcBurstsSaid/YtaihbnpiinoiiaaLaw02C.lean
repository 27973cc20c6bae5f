/- The walk of CrcLine. -/
import Derived.Test.YtaihbnpiinoiiaaCrcWith
import Derived.Deep.QuietTactic
import Derived.BigQuiet
namespace Go.Proofs.Ytaihbnpiinoiiaa.Crc
open Go.RowKit

section
variable {B : Nat} {w0 : World}
theorem with_as (s t z : ByteArray) (w : World) (hs : s.size ≤ 800) (h1 : s.size ≤ t.size) (h2 : t.size ≤ s.size) (hz : Hid (z = ⟨(xors s.data.toList t.data.toList).toArray⟩)) (h : In B w0 w) :
    Calls Try.prog 15 #[.string s, .string t] w fun e w' => e = .returned (.string z) ∧ In B w0 w' :=
  (with_any s t w hs h1 h2).mono fun _ _ ⟨he, hb⟩ => ⟨by rw [he, hz.out], h.of hb⟩
end

theorem In.drewN {B : Nat} {w0 w : World} (h : In B w0 w) (k : Nat) : In B w0 (w.drewN k) := ⟨⟨h.1.os, h.1.tape, h.1.output, h.1.size, h.1.block⟩, h.2⟩

theorem extract_size (s : ByteArray) (n : Nat) (h : n ≤ s.size) : (s.extract 0 n).size = n := by
  rw [ByteArray.size_extract]; omega

/-- What the line's numbers are. -/
theorem line_of (a b c : ByteArray) (h1 : a.size = b.size) (h2 : b.size = c.size) : ∃ (d f : ByteArray) (x1 x2 x3 y z : Nat),
    Hid (d = ⟨(xors a.data.toList b.data.toList).toArray⟩) ∧ Hid (f = ⟨(xors d.data.toList c.data.toList).toArray⟩) ∧ Hid (d.size = a.size) ∧ Hid (f.size = a.size) ∧
    Hid (moreS 0 a.data.toList = x1) ∧ Hid (moreS 0 b.data.toList = x2) ∧ Hid (moreS 0 c.data.toList = x3) ∧ Hid (moreS 0 f.data.toList = z) ∧
    bits .xor .u32 (x1 : Int) (x2 : Int) = (y : Int) ∧ bits .xor .u32 (y : Int) (x3 : Int) = (z : Int) := by
  have hl (q : ByteArray) : q.data.toList.length = q.size := rfl
  have k1 := moreS_lt 0 a.data.toList
  have k2 := moreS_lt 0 b.data.toList
  have k3 := moreS_lt 0 c.data.toList
  have e := line a.data.toList b.data.toList c.data.toList (by rw [hl, hl, h1]) (by rw [hl, hl, h2])
  have z1 : (xors a.data.toList b.data.toList).length = a.size := by unfold xors; rw [List.length_zipWith, hl, hl]; omega
  refine ⟨⟨(xors a.data.toList b.data.toList).toArray⟩, ⟨(xors (xors a.data.toList b.data.toList) c.data.toList).toArray⟩, _, _, _, moreS 0 a.data.toList ^^^ moreS 0 b.data.toList, _,
    Lib.hid rfl, Lib.hid rfl, Lib.hid z1, Lib.hid ?_, Lib.hid rfl, Lib.hid rfl, Lib.hid rfl, Lib.hid e.symm, u32_xor_nat _ _ k1 k2, u32_xor_nat _ _ (xor_lt32 k1 k2) k3⟩
  show (xors (xors a.data.toList b.data.toList) c.data.toList).length = a.size
  unfold xors at z1 ⊢
  rw [List.length_zipWith, z1, hl]
  omega

theorem min3 (a b c : Nat) (w : World) : ∃ n : Nat, n ≤ a ∧ n ≤ b ∧ n ≤ c ∧
    Sem.run Try.prog (Builtin.min_ #[3, 3, 3] 3 #[.int .i64 (a : Int), .int .i64 (b : Int), .int .i64 (c : Int)]) w = .ok (.int .i64 (n : Int)) w := by
  refine ⟨min c (min b a), by omega, by omega, by omega, ?_⟩
  have e : (if (c : Int) < (if (b : Int) < (a : Int) then (b : Int) else (a : Int)) then (c : Int) else (if (b : Int) < (a : Int) then (b : Int) else (a : Int))) = ((min c (min b a) : Nat) : Int) := by
    by_cases h : (b : Int) < (a : Int)
    · rw [if_pos h]; split <;> omega
    · rw [if_neg h]; split <;> omega
  rw [← e]
  simp [Builtin.min_, Builtin.min2]

set_option maxHeartbeats 1000000 in
theorem crcLine_walk (s t u : ByteArray) (_w0 : s.size ≤ maxLen) (_w1 : t.size ≤ maxLen) (_w2 : u.size ≤ maxLen) (w : World) :
    Calls Try.prog 6 #[.string s, .string t, .string u] w fun e w' => e = .returned (.bool true) ∧ Below w.heap.size w w' := by
  have hin := In.refl w
  obtain ⟨n, n1, n2, n3, hmin⟩ := min3 s.size t.size u.size w
  by_cases hn : 800 < n
  · go_enter Try.func6, Try.ntmps6
    go_wp2_with (go_at_call 8; refine (awake_in _ (by assumption)).mono ?_; rintro e w1 ⟨rfl, hw1⟩)
    go_ret
    exact ⟨rfl, And.left ‹_›⟩
  have hn800 : n ≤ 800 := by omega
  go_enter Try.func6, Try.ntmps6
  go_wp2_with (go_at_call 8; refine (awake_in _ (by assumption)).mono ?_; rintro e w1 ⟨rfl, hw1⟩)
  go_quiet (fail)
  have hw2 := In.drewN hw1 nq
  clear hw1 hmin hn
  have a1 := extract_size s n n1
  have a2 := extract_size t n n2
  have a3 := extract_size u n n3
  generalize s.extract 0 n = a at *
  generalize t.extract 0 n = b at *
  generalize u.extract 0 n = c at *
  obtain ⟨d, f, x1, x2, x3, y, z, D, F, S1, S2, X1, X2, X3, Z, e1, e2⟩ := line_of a b c (by omega) (by omega)
  have s1 := S1.out
  have s2 := S2.out
  have h1 : a.size ≤ b.size := by omega
  have h2 : b.size ≤ a.size := by omega
  have h3 : d.size ≤ c.size := by omega
  have h4 : c.size ≤ d.size := by omega
  have h5 : a.size ≤ 800 := by omega
  have h6 : d.size ≤ 800 := by omega
  have m1 : a.size ≤ maxLen := by unfold maxLen; omega
  have m2 : b.size ≤ maxLen := by unfold maxLen; omega
  have m3 : c.size ≤ maxLen := by unfold maxLen; omega
  have m4 : f.size ≤ maxLen := by unfold maxLen; omega
  have M1 := Lib.hid m1
  have M2 := Lib.hid m2
  have M3 := Lib.hid m3
  have M4 := Lib.hid m4
  clear m1 m2 m3 m4 a1 a2 a3 s1 s2
  go_wp2_with (first
    | (go_at_call 9; (with_reducible refine (sum_as a x1 _ M1.out X1 (by assumption)).mono ?_); rintro e w1 ⟨rfl, hw1⟩)
    | (go_at_call 9; (with_reducible refine (sum_as b x2 _ M2.out X2 (by assumption)).mono ?_); rintro e w1 ⟨rfl, hw1⟩)
    | (go_at_call 9; (with_reducible refine (sum_as c x3 _ M3.out X3 (by assumption)).mono ?_); rintro e w1 ⟨rfl, hw1⟩)
    | (go_at_call 9; (with_reducible refine (sum_as f z _ M4.out Z (by assumption)).mono ?_); rintro e w1 ⟨rfl, hw1⟩)
    | (go_at_call 15; (with_reducible refine (with_as a b d _ h5 h1 h2 D (by assumption)).mono ?_); rintro e w1 ⟨rfl, hw1⟩)
    | (go_at_call 15; (with_reducible refine (with_as d c f _ h6 h3 h4 F (by assumption)).mono ?_); rintro e w1 ⟨rfl, hw1⟩))
  go_ret
  exact ⟨rfl, And.left ‹_›⟩
end Go.Proofs.Ytaihbnpiinoiiaa.Crc
