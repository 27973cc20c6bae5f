/- Texts of the walk, one behind the other. -/
import Derived.Test.YtfohinlldchdpaaGreatDoorEncPlaysM30
import Derived.Test.YtfohinlldchdpaaGreatDoorEncPlaysM11
import Derived.Test.YtfohinlldchdpaaGreatDoorShelf
import Derived.StillTailTactics
import Derived.Laws.IdiomStrings
import Derived.Lib.BufferRead
import Derived.Test.YtfohinlldchdpaaGreatDoorEncPlaysM31

section
/- Contracts of rang's NewEnc, Used, Done (of a coder). -/
set_option maxRecDepth 100000
set_option linter.unusedVariables false
namespace Go.Proofs.YtfohinlldchdpaaGreatDoor.Rg
open Go.RowKit Go.Proofs.YtfohinlldchdpaaGreatDoor.Row

theorem encUsed_as (w : World) (b : Nat) (T : Nat → Prop) (size : Nat) (x : St) (u : Int) (h : EncIs w b T size x) (hr : x.r ≤ 4294967295) (hg : x.g ≤ 1000000000) (hu : x.used = u) :
    Calls Tryz.prog 77 #[.pointer (some ⟨b, 0, none⟩)] w fun e w' => e = .returned (.int .i64 u) ∧ Below w.heap.size w w' := by
  obtain ⟨low, bs, rest, hM, hR⟩ := h
  obtain ⟨a, c, hA, hO, hK, c0, c1, c2, c3, c4, c5, f3, f4, f5⟩ := hM.start
  have HU := Lib.hid (show 8 * (x.g : Int) + 32 - (Lib.bitLen x.r : Nat) = u from hu)
  clear hu hM hR hA hO hK
  go_enter Tryz.func77, Tryz.ntmps77
  go_wp2_with (go_at_call 119; (with_reducible refine (used_as b 1 x.r x.g u _ c1 c2 hr hg HU.out).mono ?_); rintro e w' ⟨rfl, hb⟩; have HB := Lib.hid hb; clear hb)
  go_ret
  exact ⟨rfl, HB.out⟩
/-- 'string(b)' of a slice of bytes that is owned. -/
theorem run_string {w : World} {a : Option Addr} {c : Nat} {bs : List UInt8} (h : w.ownsRow 0 5 1 (.slice a bs.length c) bs.length (Lib.byteCells bs)) :
    (convert 139 9 (.slice a bs.length c)).run Tryz.prog w = .ok (.string ⟨bs.toArray⟩) w := by
  by_cases h0 : bs = []
  · subst h0
    rcases h.2 with ⟨h2, _⟩ | ⟨g, cap, cur, h2, _⟩
    · simp only [Value.slice.injEq] at h2
      obtain ⟨rfl, _, rfl⟩ := h2
      exact Lib.run_convert_nil_bytes w _ _ 5 0 Tryz.underlying139 Tryz.underlying5 Tryz.underlying9
    · simp only [Value.slice.injEq] at h2
      obtain ⟨rfl, _, rfl⟩ := h2
      exact run_convert_bytes_back w _ _ 5 ⟨g, 0, none⟩ _ [] Tryz.underlying139 Tryz.underlying5 Tryz.underlying9 (fun j hj => by simp at hj)
  · obtain ⟨g, rfl⟩ := owns_some h (by cases bs with | nil => exact absurd rfl h0 | cons => simp)
    refine run_convert_bytes_back w _ _ 5 ⟨g, 0, none⟩ _ bs Tryz.underlying139 Tryz.underlying5 Tryz.underlying9 (fun j hj => ?_)
    exact World.ownsRow.cells h (g := g) rfl j _ (by unfold Lib.byteCells; rw [List.getElem?_map, List.getElem?_eq_getElem hj]; rfl)

theorem low_row (w : World) (low : Nat) (L : Int) (hl : low ≤ 4294967295) (hL : (low : Int) = L) :
    ((w.alloc (.cells #[.int .u8 (L / 16777216), .int .u8 (L / 65536 % 256), .int .u8 (L / 256 % 256), .int .u8 (L % 256)] 5)).drew).ownsRow 0 5 1 (.slice (some ⟨w.heap.size, 0, none⟩) (lowB low).length 4) (lowB low).length (Lib.byteCells (lowB low)) := by
  subst hL
  refine ⟨rfl, .inr ⟨w.heap.size, 4, _, rfl, Nat.zero_le _, At.new _ _ _, Nat.le_refl _, by decide, rfl, ?_⟩⟩
  unfold lowB Lib.byteCells
  simp only [List.length_cons, List.length_nil, List.map_cons, List.map_nil]
  rw [byte_nat (by omega), byte_nat (by omega), byte_nat (by omega), byte_nat (by omega)]
  rfl

/-- What stands behind the last four bytes' slice. -/
def DoneS (w : World) (b size low rest c : Nat) (a : Option Addr) (bs : List UInt8) (w2 : World) : Prop :=
  ∃ B1 B2 B3 : ByteArray, Hid (⟨(bs ++ lowB low).toArray⟩ = B3) ∧ (∀ n, (convert 139 9 (.slice a bs.length c)).run Tryz.prog (w2.drewN n) = .ok (.string B1) (w2.drewN n)) ∧
    (∀ n, (convert 139 9 (.slice (some ⟨w.heap.size, 0, none⟩) 4 4)).run Tryz.prog (w2.drewN n) = .ok (.string B2) (w2.drewN n)) ∧
    (∀ W, (Op.stringOp .add B1 B2).run Tryz.prog W = .ok (.string B3) W) ∧
    w2.cell? ⟨b, 0, none⟩ = some (.int .i64 size) ∧ w2.cell? ⟨b, 4, none⟩ = some (.slice a bs.length c) ∧ w2.cell? ⟨b, 5, none⟩ = some (.int .i64 rest) ∧ Hid (Below w.heap.size w w2)
theorem doneS_of {w : World} {b size low rest c : Nat} {a : Option Addr} {bs : List UInt8} {L : Int} (hl : low ≤ 4294967295) (hL : (low : Int) = L) (hO : w.ownsRow 0 5 1 (.slice a bs.length c) bs.length (Lib.byteCells bs))
    (hlen : bs.length ≤ 8388608) (c0 : w.cell? ⟨b, 0, none⟩ = some (.int .i64 size)) (c4 : w.cell? ⟨b, 4, none⟩ = some (.slice a bs.length c)) (c5 : w.cell? ⟨b, 5, none⟩ = some (.int .i64 rest)) :
    ∀ w2, (w.alloc (.cells #[.int .u8 (L / 16777216), .int .u8 (L / 65536 % 256), .int .u8 (L / 256 % 256), .int .u8 (L % 256)] 5)).drew = w2 → DoneS w b size low rest c a bs w2 := by
  intro w2 hw2
  have hB2 : Below w.heap.size w w2 := by rw [← hw2]; exact ((Below.refl _ _).alloc (Nat.le_refl _) _).drew
  have hO2 := owns_below hO hB2
  have hOl : w2.ownsRow 0 5 1 (.slice (some ⟨w.heap.size, 0, none⟩) (lowB low).length 4) (lowB low).length (Lib.byteCells (lowB low)) := by
    rw [← hw2]
    exact low_row w low L hl hL
  exact ⟨_, _, _, rfl, fun n => run_string hO2, fun n => run_string (w := w2.drewN n) (bs := lowB low) hOl, fun W => run_string_add_lists W _ _ (by omega) (by unfold lowB; simp),
    (Below.cell hB2 (block_lt_of_cell c0)).trans c0, (Below.cell hB2 (block_lt_of_cell c4)).trans c4, (Below.cell hB2 (block_lt_of_cell c5)).trans c5, hB2⟩

theorem trim_as {w : World} (s t : ByteArray) (l : List UInt8) (t' : List UInt8) (hs : ⟨l.toArray⟩ = s) (ht : ⟨t'.toArray⟩ = t) (h : Lib.trimRightB l 0 = t' ∧ l.length ≤ 1000000) :
    Calls Tryz.prog 124 #[.string s, .string ⟨#[0]⟩] w fun e w' => e = .returned (.string t) ∧ w' = w := by
  obtain ⟨rfl, hl⟩ := h
  subst hs ht
  have := Tryz.strings_TrimRight_one ⟨l.toArray⟩ 0 (by decide) w (by rw [Lib.size_mk]; omega)
  exact this
theorem repeat_as (n : Nat) (z : Int) (t : ByteArray) (w : World) (hz : z = n) (ht : ⟨(List.replicate n (0 : UInt8)).toArray⟩ = t) (hn : n ≤ 1000000) :
    Calls Tryz.prog 125 #[.string ⟨#[0]⟩, .int .i64 z] w fun e w' => e = .returned (.string t) ∧ Below w.heap.size w w' := by
  subst hz ht
  have := Tryz.strings_Repeat ⟨#[0]⟩ n w (by omega) (by show 1 * n ≤ _; omega)
  rw [show Lib.repeatL (⟨#[0]⟩ : ByteArray).data.toList n = List.replicate n 0 by
    have := Lib.repeatL_replicate 0 1 n
    rw [Nat.mul_one] at this
    exact this] at this
  exact this

def St.out (x : St) (size : Nat) : List UInt8 := if x.trim.length ≤ size then x.text size else []
def St.err (x : St) (size : Nat) : Int := if x.trim.length ≤ size then 0 else 5

set_option maxHeartbeats 2000000 in
theorem done_as (w : World) (b : Nat) (T : Nat → Prop) (size : Nat) (x : St) (t : ByteArray) (z : Int) (h : EncIs w b T size x) (hsz : size ≤ 4096) (ht : ⟨(x.out size).toArray⟩ = t) (hz : x.err size = z) :
    Calls Tryz.prog 79 #[.pointer (some ⟨b, 0, none⟩)] w fun e w' => e = .returned (.tuple #[.string t, .int .i64 z]) ∧ Below w.heap.size w w' := by
  obtain ⟨low, bs, rest, hM, hR⟩ := h
  obtain ⟨a, c, hA, hO, hK, c0, c1, c2, c3, c4, c5, f3, f4, f5⟩ := hM.start
  have hl := hR.low_le
  have hlen := hR.len
  obtain ⟨p1, p2⟩ := done_spec hR
  have h3 := restOk_le hR.rest
  obtain ⟨L, hL⟩ : ∃ L : Int, (low : Int) = L := ⟨_, rfl⟩
  have HX := Lib.hid (doneS_of hl hL hO (by omega) c0 c4 c5)
  rw [hL] at c3
  have l0 : 0 ≤ L := by omega
  have l1 : L ≤ 4294967295 := by omega
  obtain ⟨t4, ht4⟩ : ∃ t4, Lib.trimRightB (bs ++ lowB low) 0 = t4 := ⟨_, rfl⟩
  rw [ht4] at p1 p2
  have h4len : t4.length ≤ 5000 := by
    have := trim_le _ (bs ++ lowB low) rfl
    rw [ht4] at this
    have e : (bs ++ lowB low).length = bs.length + 4 := by simp [lowB]
    omega
  have HS := Lib.hid (show Lib.trimRightB (bs ++ lowB low) 0 = t4 ∧ (bs ++ lowB low).length ≤ 1000000 from ⟨ht4, by simp [lowB]; omega⟩)
  obtain ⟨B4, hB4⟩ : ∃ B4 : ByteArray, ⟨t4.toArray⟩ = B4 := ⟨_, rfl⟩
  obtain ⟨n4, hn4⟩ : ∃ n4, t4.length = n4 := ⟨_, rfl⟩
  have e4 : B4.size = n4 := by rw [← hB4, Lib.size_mk, hn4]
  rw [hn4] at p1 h4len
  have HB4 := Lib.hid hB4
  have HN4 := Lib.hid hn4
  clear ht4 hB4 hn4 hL hM hR hA hO hK f3 f4 f5
  by_cases hbad : size < x.trim.length
  · have e1 : x.out size = [] := by unfold St.out; rw [if_neg (by omega)]
    have e2 : x.err size = 5 := by unfold St.err; rw [if_neg (by omega)]
    rw [e1] at ht
    rw [e2] at hz
    subst ht hz
    have hw := p1.2 hbad
    clear p1 p2 hbad e1 e2
    by_cases h01 : rest ≤ 1
    · have s1 : ((rest : Int) == 2) = false := by rw [beq_eq_false_iff_ne]; omega
      have s2 : ((rest : Int) == 3) = false := by rw [beq_eq_false_iff_ne]; omega
      have s3 : decide (size < n4) = true := by simp; omega
      clear hw h01 h3
      go_enter Tryz.func79, Tryz.ntmps79
      go_wp2
      go_still_tail 23, (by kernel_rfl)
      go_wp2
      obtain ⟨w2, hw2⟩ : ∃ w2, (w.alloc (.cells #[.int .u8 (L / 16777216), .int .u8 (L / 65536 % 256), .int .u8 (L / 256 % 256), .int .u8 (L % 256)] 5)).drew = w2 := ⟨_, rfl⟩
      obtain ⟨B1, B2, B3, HB3, v1, v2, v3, d0, d4, d5, HB2⟩ := HX.out w2 hw2
      rw [hw2]
      clear hw2 c0 c1 c2 c3 c4 c5
      go_quiet ((go_at_call 124; exact Calls.quiet_of_same (trim_as B3 B4 _ _ HB3.out HB4.out HS.out)))
      go_wp2
      go_ret2
      exact ⟨rfl, below_drewN HB2.out _⟩
    · have h23 : rest = 2 ∨ rest = 3 := by omega
      clear hw h01 h3
      rcases h23 with rfl | rfl
      all_goals
        go_enter Tryz.func79, Tryz.ntmps79
        go_wp2
        go_still_tail 23, (by kernel_rfl)
        go_wp2
        obtain ⟨w2, hw2⟩ : ∃ w2, (w.alloc (.cells #[.int .u8 (L / 16777216), .int .u8 (L / 65536 % 256), .int .u8 (L / 256 % 256), .int .u8 (L % 256)] 5)).drew = w2 := ⟨_, rfl⟩
        obtain ⟨B1, B2, B3, HB3, v1, v2, v3, d0, d4, d5, HB2⟩ := HX.out w2 hw2
        rw [hw2]
        clear hw2 c0 c1 c2 c3 c4 c5
        go_quiet ((go_at_call 124; exact Calls.quiet_of_same (trim_as B3 B4 _ _ HB3.out HB4.out HS.out)))
        go_wp2
        go_ret2
        exact ⟨rfl, below_drewN HB2.out _⟩
  · have e1 : x.out size = x.text size := by unfold St.out; rw [if_pos (by omega)]
    have e2 : x.err size = 0 := by unfold St.err; rw [if_pos (by omega)]
    rw [e1] at ht
    rw [e2] at hz
    have hw : ¬ (rest = 2 ∨ rest = 3 ∨ size < n4) := fun h => hbad (p1.1 h)
    have e3 := p2 (by omega)
    obtain ⟨B5, hB5⟩ : ∃ B5 : ByteArray, ⟨(List.replicate (size - n4) (0 : UInt8)).toArray⟩ = B5 := ⟨_, rfl⟩
    have hv4 : ∀ W, (Op.stringOp .add B4 B5).run Tryz.prog W = .ok (.string t) W := fun W => by
      rw [← HB4.out, ← hB5, ← ht]
      unfold St.text
      rw [← e3, HN4.out]
      exact run_string_add_lists W _ _ (by rw [HN4.out]; omega) (by simp; omega)
    have HB5 := Lib.hid hB5
    have hn : n4 ≤ size := by omega
    have s1 : ((rest : Int) == 2) = false := by rw [beq_eq_false_iff_ne]; omega
    have s2 : ((rest : Int) == 3) = false := by rw [beq_eq_false_iff_ne]; omega
    have s3 : decide (size < n4) = false := by simp; omega
    subst hz
    clear p1 p2 hbad e1 e2 hw e3 hB5 h3 ht
    go_enter Tryz.func79, Tryz.ntmps79
    go_wp2
    go_still_tail 23, (by kernel_rfl)
    go_wp2
    obtain ⟨w2, hw2⟩ : ∃ w2, (w.alloc (.cells #[.int .u8 (L / 16777216), .int .u8 (L / 65536 % 256), .int .u8 (L / 256 % 256), .int .u8 (L % 256)] 5)).drew = w2 := ⟨_, rfl⟩
    obtain ⟨B1, B2, B3, HB3, v1, v2, v3, d0, d4, d5, HB2⟩ := HX.out w2 hw2
    rw [hw2]
    clear hw2 c0 c1 c2 c3 c4 c5
    go_quiet ((go_at_call 124; exact Calls.quiet_of_same (trim_as B3 B4 _ _ HB3.out HB4.out HS.out)))
    go_wp2_with (go_at_call 125; (with_reducible refine (repeat_as (size - n4) _ B5 _ (by omega) HB5.out (by omega)).mono ?_); rintro e w' ⟨rfl, hb⟩; have HB := Lib.hid hb; clear hb)
    go_ret2
    exact ⟨rfl, below_trans (below_drewN HB2.out _) HB.out (below_drewN HB2.out _).size⟩
end Go.Proofs.YtfohinlldchdpaaGreatDoor.Rg
end

section
/- Contracts of a coder's Used and Done in a world that goes on. -/
set_option maxRecDepth 100000
set_option linter.unusedVariables false
namespace Go.Proofs.YtfohinlldchdpaaGreatDoor.Rg
open Go.RowKit Go.Proofs.YtfohinlldchdpaaGreatDoor.Row

theorem used_off (w0 w : World) (b : Nat) (size : Nat) (x : St) (A : Nat → Prop) (u : Int) (h : EncOff w0 b size x A w) (hr : x.r ≤ 4294967295) (hg : x.g ≤ 1000000000) (hu : x.used = u) :
    Calls Tryz.prog 77 #[.pointer (some ⟨b, 0, none⟩)] w fun e w' => e = .returned (.int .i64 u) ∧ EncOff w0 b size x A w' ∧ Below w.heap.size w w' := by
  obtain ⟨T, h1, _⟩ := id h
  exact (encUsed_as w b T size x u h1 hr hg hu).mono fun e w' ⟨he, hb⟩ => ⟨he, h.below hb, hb⟩

theorem done_off (w0 w : World) (b : Nat) (size : Nat) (x : St) (A : Nat → Prop) (t : ByteArray) (z : Int) (h : EncOff w0 b size x A w) (hsz : size ≤ 4096) (ht : ⟨(x.out size).toArray⟩ = t) (hz : x.err size = z) :
    Calls Tryz.prog 79 #[.pointer (some ⟨b, 0, none⟩)] w fun e w' => e = .returned (.tuple #[.string t, .int .i64 z]) ∧ EncOff w0 b size x A w' ∧ Below w.heap.size w w' := by
  obtain ⟨T, h1, _⟩ := id h
  exact (done_as w b T size x t z h1 hsz ht hz).mono fun e w' ⟨he, hb⟩ => ⟨he, h.below hb, hb⟩
end Go.Proofs.YtfohinlldchdpaaGreatDoor.Rg
end
