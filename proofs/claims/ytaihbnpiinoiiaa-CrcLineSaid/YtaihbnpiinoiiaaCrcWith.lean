/- The contract of 'with' (two texts of one length, byte by byte made one). -/
import Derived.Test.YtaihbnpiinoiiaaLaw02A
import Derived.Deep.RegionHeld3
import Derived.Deep.AppendLies
import Derived.OwnWalk
namespace Go.Proofs.Ytaihbnpiinoiiaa.Crc
open Go.RowKit

theorem info5 : (Try.prog.info? 5).map (fun i => (i.zero, i.size, i.bytes)) = some (some (.int .u8 0), 1, 1) := by kernel_rfl

/-- Bytes as cells. -/
def bv (l : List UInt8) : List Value := l.map fun c => Value.int .u8 (c.toNat : Int)
theorem bv_snoc (l : List UInt8) (c : UInt8) : bv (l ++ [c]) = bv l ++ [.int .u8 (c.toNat : Int)] := by unfold bv; simp
theorem bv_length (l : List UInt8) : (bv l).length = l.length := by unfold bv; simp

theorem xors_snoc (s t : ByteArray) (k : Nat) (h1 : k < s.size) (h2 : k < t.size) :
    (xors s.data.toList t.data.toList).take (k + 1) = (xors s.data.toList t.data.toList).take k ++ [s[k] ^^^ t[k]] := by
  rw [List.take_succ_eq_append_getElem (by unfold xors; rw [List.length_zipWith]; simp; omega)]
  congr 1
  unfold xors
  rw [List.getElem_zipWith]
  rfl

theorem conv_own {w : World} {base : Nat} {v : Value} {n : Nat} (l : List UInt8) (hl : l.length = n) (h : w.ownsRow base 5 1 v n (bv l)) :
    Sem.run Try.prog (convert 25 9 v) w = .ok (.string ⟨l.toArray⟩) w := by
  subst hl
  have h0 := h
  rcases h.2 with ⟨rfl, hz⟩ | ⟨g, cap, cur, rfl, hg, hh, hnc, hcp, hcs, htake⟩
  · obtain rfl : l = [] := List.eq_nil_of_length_eq_zero hz
    rw [run_convert_bytes_string w 25 9 5 none 0 0 Try.underlying25 Try.underlying5 Try.underlying9]
    rfl
  · refine run_convert_bytes_back (P := Try.prog) w 25 9 5 ⟨g, 0, none⟩ cap l Try.underlying25 Try.underlying5 Try.underlying9 ?_
    intro j hj
    rw [Addr.add_lit, Nat.zero_add, h0.cellAt j (by omega)]
    unfold bv
    simp [hj]

set_option maxHeartbeats 1000000 in
set_option maxRecDepth 100000 in
theorem with_any (s t : ByteArray) (w : World) (hs : s.size ≤ 800) (h1 : s.size ≤ t.size) (h2 : t.size ≤ s.size) :
    Calls Try.prog 15 #[.string s, .string t] w fun e w' => e = .returned (.string ⟨(xors s.data.toList t.data.toList).toArray⟩) ∧ Below w.heap.size w w' := by
  obtain ⟨i0, hi0, hz0, hz1, hz2⟩ := info_parts info5
  have I0 := Lib.hid hi0; clear hi0
  have Z0 := Lib.hid hz0; clear hz0
  have Z1 := Lib.hid hz1; clear hz1
  have Z2 := Lib.hid hz2; clear hz2
  go_enter Try.func15, Try.ntmps15
  go_wp2
  go_loopw [5, 6] (fun v i wr => ∃ k : Nat, k ≤ s.size ∧ i = .int .i64 k ∧ wr.ownsRow w.heap.size 5 1 v k (bv ((xors s.data.toList t.data.toList).take k)) ∧ Below w.heap.size w wr) (fun _ i _ => s.size - (intOf i).toNat)
  case atStart => exact ⟨0, Nat.zero_le _, rfl, World.ownsRow_nil _ _ _ _, Below.refl _ _⟩
  case round =>
    obtain ⟨k, hk, rfl, hown, hb⟩ := hrel
    have hbs := hb.size
    by_cases hks : k < s.size
    · have hkt : k < t.size := by omega
      have hk1 : (k : Int) < (s.size : Int) := by omega
      have hk2 : (k : Int) < (t.size : Int) := by omega
      have HX := xors_snoc s t k hks hkt
      have hc1 := byte_lt s[k]
      have hc2 := byte_lt t[k]
      have hx := u8_xor_nat s[k].toNat t[k].toNat hc1 hc2
      rw [← UInt8.toNat_xor] at hx
      generalize s[k] ^^^ t[k] = c at *
      have HX' := Lib.hid HX
      clear HX
      go_wp2_with fail
      go_region_held3 (fun _ => True) (trivial)
        ((refine step_append_lies _ (by rfl) _ _ _ (by rfl) w.heap.size 5 i0 _ 1 1 Try.underlying25 I0.out Z0.out Z1.out Z2.out rfl (by omega) u5 k (bv ((xors s.data.toList t.data.toList).take k)) (by rfl) ((hown.alloc _).drew) ⟨wr.heap.size, 0, none⟩ 1 1 [.int .u8 (c.toNat : Int)] (by rfl) (by rfl) (World.news_of_block (cs := #[.int .u8 (c.toNat : Int)]) (t := 5) (fr := (0, 0)) (heap_alloc_new wr _)) (by simp [Value.oneCell']) (by omega) (by unfold maxLen; omega) (by omega) (by simp; omega) (wr.heap.size + 1) (by simp) ?_; intro g cap w1 hown1 hgrow hat hlt))
      all_goals
        go_wp2
        go_roundw
        case rel => exact ⟨k + 1, by omega, by go_num, by rw [HX'.out, bv_snoc]; exact hown1, ((hb.alloc hbs _).drew).grown hgrow (by simp; omega) (fun j hj => (hown.lt j hj).1)⟩
        case measure => simp [intOf]; omega
    · obtain rfl : k = s.size := by omega
      have hnk : ¬ (s.size : Int) < (s.size : Int) := by omega
      have hl : (xors s.data.toList t.data.toList).length = s.size := by unfold xors; rw [List.length_zipWith]; simp; omega
      rw [List.take_of_length_le (by omega)] at hown
      have hcv := conv_own _ hl hown
      have HL := Lib.hid hl
      clear hl
      go_wp2
      go_ret
      exact ⟨rfl, hb⟩
end Go.Proofs.Ytaihbnpiinoiiaa.Crc
