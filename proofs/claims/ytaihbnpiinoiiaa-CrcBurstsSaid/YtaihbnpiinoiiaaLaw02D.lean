/- The walk of CrcBursts. -/
import Derived.Test.YtaihbnpiinoiiaaLaw02C
namespace Go.Proofs.Ytaihbnpiinoiiaa.Crc
open Go.RowKit

/-- The block g holds the bytes l, none of them frozen. -/
def Row (w : World) (g : Nat) (l : List UInt8) : Prop :=
  (∀ j (hj : j < l.length), w.cell? ⟨g, j, none⟩ = some (.int .u8 (l[j].toNat : Int))) ∧ ∀ j, j < l.length → w.frozen? ⟨g, j, none⟩ = false

theorem Row.drewN {w : World} {g : Nat} {l : List UInt8} (h : Row w g l) (k : Nat) : Row (w.drewN k) g l := h
theorem Row.drew {w : World} {g : Nat} {l : List UInt8} (h : Row w g l) : Row w.drew g l := h
theorem Row.below {w w' : World} {g B : Nat} {l : List UInt8} (h : Row w g l) (hb : Below B w w') (hg : g < B) : Row w' g l :=
  ⟨fun j hj => (hb.cell (p := ⟨g, j, none⟩) hg).trans (h.1 j hj), fun j hj => (hb.frozen (p := ⟨g, j, none⟩) hg).trans (h.2 j hj)⟩

theorem Row.set {w : World} {g i : Nat} {l : List UInt8} (h : Row w g l) (hi : i < l.length) (c : UInt8) :
    Row (w.setCell ⟨g, i, none⟩ (.int .u8 (c.toNat : Int))) g (l.set i c) := by
  refine ⟨fun j hj => ?_, fun j hj => ?_⟩
  · have hj' : j < l.length := by simpa using hj
    by_cases e : i = j
    · subst e
      rw [List.getElem_set_self]
      exact World.cell?_setCell_same w _ _ (h.1 i hi)
    · rw [List.getElem_set_ne e, World.cell?_setCell_other w _ _ _ (by intro h; injection h with _ h; exact e h)]
      exact h.1 j hj'
  · have hj' : j < l.length := by simpa using hj
    rw [World.frozen?_setCell]
    exact h.2 j hj'

theorem bytes_of (s : ByteArray) (w : World) : ∃ cap W, Sem.run Try.prog (convert 9 25 (.string s)) w = .ok (.slice (some ⟨w.heap.size, 0, none⟩) s.size cap) W ∧
    Row W w.heap.size s.data.toList ∧ Below w.heap.size w W ∧ w.heap.size < W.heap.size := by
  refine ⟨_, _, run_bytes_of_string (P := Try.prog) w 9 25 5 s Try.underlying9 Try.underlying25 Try.underlying5, ⟨fun j hj => ?_, fun j hj => ?_⟩, ((Below.refl _ _).drew).alloc (Nat.le_refl _) _, ?_⟩
  · have hg := heap_alloc_new w.drew (.cells (bytesRow s (grownCap w s.size 0 5)) 5 ((bytesRow s (grownCap w s.size 0 5)).size, (bytesRow s (grownCap w s.size 0 5)).size + 1))
    rw [cell_of_row _ w.heap.size _ _ _ _ hg, bytesRow_at s _ j (by simpa using hj)]
    simp
  · have hg := heap_alloc_new w.drew (.cells (bytesRow s (grownCap w s.size 0 5)) 5 ((bytesRow s (grownCap w s.size 0 5)).size, (bytesRow s (grownCap w s.size 0 5)).size + 1))
    have hlt : j < (bytesRow s (grownCap w s.size 0 5)).size := by
      have := bytesRow_at s (grownCap w s.size 0 5) j (by simpa using hj)
      exact (Array.getElem?_eq_some_iff.1 this).1
    unfold World.frozen?
    simp only [show w.drew.heap.size = w.heap.size from rfl] at hg
    rw [hg]
    simp
    omega
  · show w.heap.size < (w.heap.push _).size
    simp

theorem flip_byte (b : UInt8) (j : Nat) (hj : j < 8) : ∃ c : UInt8, bits .xor .u8 (b.toNat : Int) ((2 : Int) ^ j % 256) = (c.toNat : Int) ∧ c.toNat = b.toNat ^^^ 2 ^ j := by
  have h2 : 2 ^ j < 256 := Nat.lt_of_lt_of_le (Nat.pow_lt_pow_right (by omega) hj) (by decide : 2 ^ 8 ≤ 256)
  have h3 : b.toNat ^^^ 2 ^ j < 2 ^ 8 := Nat.xor_lt_two_pow (byte_lt b) h2
  have e : (2 : Int) ^ j % 256 = ((2 ^ j : Nat) : Int) := by
    have : ((2 ^ j : Nat) : Int) = (2 : Int) ^ j := by push_cast; rfl
    rw [← this]
    exact Int.emod_eq_of_lt (Int.natCast_nonneg _) (Int.ofNat_lt.2 h2)
  have hc : (UInt8.ofNat (b.toNat ^^^ 2 ^ j)).toNat = b.toNat ^^^ 2 ^ j := ofNat_toNat _ h3
  exact ⟨UInt8.ofNat (b.toNat ^^^ 2 ^ j), by rw [e, u8_xor_nat _ _ (byte_lt b) h2, hc], hc⟩

theorem In.set {B : Nat} {w0 w : World} (h : In B w0 w) {g i : Nat} (hg : B ≤ g) (v : Value) : In B w0 (w.setCell ⟨g, i, none⟩ v).drew :=
  ⟨(h.1.setCell (p := ⟨g, i, none⟩) hg v).drew, by show B ≤ (w.setCell ⟨g, i, none⟩ v).heap.size; simpa using h.2⟩

/-- What holds while the law's last statement is reckoned. -/
def St (B : Nat) (w0 : World) (g : Nat) (l : List UInt8) (w : World) : Prop := Row w g l ∧ In B w0 w ∧ g < w.heap.size

theorem St.drew {B : Nat} {w0 w : World} {g : Nat} {l : List UInt8} (h : St B w0 g l w) : St B w0 g l w.drew := ⟨h.1, ⟨h.2.1.1.drew, h.2.1.2⟩, h.2.2⟩

theorem sum_st {B : Nat} {w0 : World} {g : Nat} {l : List UInt8} (s : ByteArray) (n : Nat) (w : World) (hs : s.size ≤ maxLen) (hn : Hid (moreS 0 s.data.toList = n)) (h : St B w0 g l w) :
    Calls Try.prog 9 #[.string s] w fun e w' => e = .returned (.int .u32 (n : Int)) ∧ St B w0 g l w' :=
  (sum_any s w hs).mono fun _ _ ⟨he, hb⟩ => ⟨by rw [he, hn.out], h.1.below hb h.2.2, h.2.1.of hb, Nat.lt_of_lt_of_le h.2.2 hb.size⟩

theorem conv_st {B : Nat} {w0 : World} {g n cap : Nat} {l : List UInt8} (hl : l.length = n) (w : World) (h : St B w0 g l w) :
    Sem.run Try.prog (convert 25 9 (.slice (some ⟨g, 0, none⟩) n cap)) w = .ok (.string ⟨l.toArray⟩) w := by
  subst hl
  refine run_convert_bytes_back (P := Try.prog) w 25 9 5 ⟨g, 0, none⟩ cap l Try.underlying25 Try.underlying5 Try.underlying9 ?_
  intro j hj
  rw [Addr.add_lit, Nat.zero_add]
  exact h.1.1 j hj

theorem u16_nat {a : Int} (h : (Lit.int .u16 a).wf = true) : ∃ n : Nat, a = (n : Int) ∧ n < 65536 := by
  have hb := bounds_u16 h
  exact ⟨a.toNat, by omega, by omega⟩

set_option maxHeartbeats 1000000 in
theorem crcBursts_walk (s : ByteArray) (a1 a2 : Int) (w0 : s.size ≤ maxLen) (w1 : (Lit.int .u16 a1).wf = true) (w2 : (Lit.int .u32 a2).wf = true) (w : World) :
    Calls Try.prog 3 #[.string s, .int .u16 a1, .int .u32 a2] w fun e w' => e = .returned (.bool true) ∧ Below w.heap.size w w' := by
  obtain ⟨p, rfl, hp⟩ := u16_nat w1
  obtain ⟨x, rfl, hx⟩ := u32_nat w2
  clear w1 w2
  have hin := In.refl w
  by_cases hn : 800 < s.size
  · unfold maxLen at w0
    go_enter Try.func3, Try.ntmps3
    go_wp2_with (go_at_call 8; refine (awake_in _ (by assumption)).mono ?_; rintro e w1 ⟨rfl, hw1⟩)
    go_ret
    exact ⟨rfl, And.left ‹_›⟩
  by_cases hz : s.size = 0
  · obtain rfl : s = ⟨#[]⟩ := by
      apply ByteArray.ext
      exact Array.eq_empty_of_size_eq_zero hz
    clear hn hz w0
    go_enter Try.func3, Try.ntmps3
    go_wp2_with (go_at_call 8; refine (awake_in _ (by assumption)).mono ?_; rintro e w1 ⟨rfl, hw1⟩)
    go_ret
    exact ⟨rfl, And.left ‹_›⟩
  have hpos : 0 < s.size := by omega
  have h800 : s.size ≤ 800 := by omega
  have hze : ((s.size : Int) == 0) = false := by rw [beq_eq_false_iff_ne]; omega
  clear hn hz w0
  obtain ⟨f, hf, hf8⟩ : ∃ f : Nat, (p : Int) % (8 * (s.size : Int)) = (f : Int) ∧ f < 8 * s.size := ⟨p % (8 * s.size), by push_cast; rfl, Nat.mod_lt _ (by omega)⟩
  have HF := Lib.hid hf
  clear hf
  go_enter Try.func3, Try.ntmps3
  go_wp2_with (go_at_call 8; refine (awake_in _ (by assumption)).mono ?_; rintro e w1 ⟨rfl, hw1⟩; obtain ⟨cap, W, hcv, hrow, hbel, hlt⟩ := bytes_of s w1)
  rw [HF.out]
  have hin2 : In w.heap.size w W := hw1.of hbel
  have hgw := hw1.2
  clear HF hcv hw1 hin hbel hze
  revert hrow hlt hgw
  generalize w1.heap.size = g
  intro hrow hlt hgw
  go_loopw [9] (fun i wr => ∃ (k : Nat) (l : List UInt8), k ≤ 32 ∧ i = .int .i64 k ∧ Row wr g l ∧ Turned s.data.toList l f k ∧ In w.heap.size w wr ∧ g < wr.heap.size) (fun i _ => 32 - (intOf i).toNat)
  case atStart => exact ⟨0, _, Nat.zero_le _, rfl, hrow, turned_zero _ _, hin2, hlt⟩
  case round =>
    clear hrow hin2 hlt
    obtain ⟨k, l, hk, rfl, hrow, htur, hin, hlt⟩ := hrel
    have hll : l.length = s.size := htur.1
    by_cases hk32 : k < 32
    · by_cases hbit : f + k < 8 * s.size
      · have hi : (f + k) / 8 < l.length := by omega
        have hcell := hrow.1 _ hi
        have hfro := hrow.2 _ hi
        have i1 : (0 : Int) ≤ ((f : Int) + (k : Int)) / 8 := by omega
        have i2 : ((f : Int) + (k : Int)) / 8 < (s.size : Int) := by omega
        obtain ⟨c, hce, hcx⟩ := flip_byte l[(f + k) / 8] ((f + k) % 8) (by omega)
        have EC := Lib.hid hce
        have HC := Lib.hid hcx
        have HT := Lib.hid htur
        clear htur hll hce hcx
        go_wp2
        · go_region
          go_wp2
          go_roundw
          case rel => exact ⟨k + 1, l.set ((f + k) / 8) c, by omega, by go_num, by rw [EC.out]; exact (hrow.set hi c).drew, turned_flip HT.out hi c HC.out, hin.set hgw _, by show g < (wr.setCell _ _).heap.size; simpa using hlt⟩
          case measure => simp [intOf]; omega
        · go_roundw
          case rel => exact ⟨k + 1, l, by omega, by go_num, hrow, turned_skip HT.out, hin, hlt⟩
          case measure => simp [intOf]; omega
      · have HT := Lib.hid htur
        clear htur hll
        have hbit' : ¬ (f : Int) + (k : Int) < 8 * (s.size : Int) := by omega
        go_wp2
        all_goals
          go_roundw
          case rel => exact ⟨k + 1, l, by omega, by go_num, hrow, turned_skip HT.out, hin, hlt⟩
          case measure => simp [intOf]; omega
    · obtain rfl : k = 32 := by omega
      have hst : St w.heap.size w g l wr := ⟨hrow, hin, hlt⟩
      have hcv := fun w' => conv_st (B := w.heap.size) (w0 := w) (g := g) (cap := cap) hll w'
      have hbu := burst htur (by simp; omega)
      have hsz : (⟨l.toArray⟩ : ByteArray).size ≤ maxLen := by show l.length ≤ maxLen; rw [hll]; unfold maxLen; omega
      have hss : s.size ≤ maxLen := by unfold maxLen; omega
      clear hrow hin hlt htur hgw hll
      obtain ⟨z, hz⟩ : ∃ z : ByteArray, z = ⟨l.toArray⟩ := ⟨_, rfl⟩
      have hzl : z.data.toList = l := by rw [hz]
      rw [← hz] at hsz
      simp only [← hz] at hcv
      obtain ⟨m, hm⟩ : ∃ m, moreS 0 z.data.toList = m := ⟨_, rfl⟩
      obtain ⟨n, hn⟩ : ∃ n, moreS 0 s.data.toList = n := ⟨_, rfl⟩
      have hmn : ((m : Int) == (n : Int)) = (z.toList == s.toList) := by
        rw [ByteArray.toList_eq, ByteArray.toList_eq, hzl, Bool.eq_iff_iff, beq_iff_eq, beq_iff_eq, ← hbu, ← hzl, hm, hn]
        omega
      have M := Lib.hid hm
      have N := Lib.hid hn
      have MN := Lib.hid hmn
      have Z := Lib.hid hsz
      have SS := Lib.hid hss
      clear hm hn hmn hzl hz hbu hsz hss
      go_wp2_with fail
      go_region_held3 (fun w' => St w.heap.size w g l w') (first | assumption | (exact St.drew (by assumption)))
        (first
          | ((go_at_call 9; refine (sum_st (B := w.heap.size) (w0 := w) (g := g) (l := l) z m _ Z.out M (by first | assumption | exact St.drew (by assumption))).mono ?_; rintro e w1 ⟨rfl, hw1⟩))
          | ((go_at_call 9; refine (sum_st (B := w.heap.size) (w0 := w) (g := g) (l := l) s n _ SS.out N (by first | assumption | exact St.drew (by assumption))).mono ?_; rintro e w1 ⟨rfl, hw1⟩)))
      all_goals
        go_wp2
        go_ret
        exact ⟨ret_bool (by rw [MN.out]; exact beq_self_eq_true _), hw1.2.1.1⟩
end Go.Proofs.Ytaihbnpiinoiiaa.Crc
