/- Texts of the walk, one behind the other. -/
import Derived.Test.YtinbdkneakblfaaStatePlaysM16
import Derived.Test.YtinbdkneakblfaaStatePlaysM33

section
/- Contracts: the document's Bytes. -/
set_option maxRecDepth 100000
set_option linter.unusedVariables false
namespace Go.Proofs.Ytinbdkneakblfaa.Sta
open Go.RowKit Go.Proofs.Ytinbdkneakblfaa.Row Go.Proofs.Ytinbdkneakblfaa.Crc

theorem refWord_as (x : Int) (l : List UInt8) (w : World) (h1 : -2147483648 ≤ x) (h2 : x ≤ 2147483647) (h : wordL x = l) :
    Calls Try.prog 30 #[.int .i64 x] w fun e w' => e = .returned (.string ⟨l.toArray⟩) ∧ Below w.heap.size w w' := by
  subst h; exact refWord_any x w h1 h2
theorem cells_byte (x : Int) (w : World) (h0 : 0 ≤ x) (h1 : x ≤ 255) : Sem.run Try.prog (convert 48 9 (.slice (some ⟨w.heap.size, 0, none⟩) 1 1)) (w.alloc (.cells #[.int .u8 x] 5)) =
    .ok (.string ⟨(byteL x).toArray⟩) (w.alloc (.cells #[.int .u8 x] 5)) := by
  have h := cells_one x.toNat w
  rw [show ((x.toNat : Nat) : Int) % 256 = x by omega] at h
  unfold byteL
  rw [show (x % 256).toNat = x.toNat % 256 by omega]
  exact h
theorem join_wds (A : List UInt8) {f : Nat → Int} {k : Nat} {l l' m : List UInt8} (h1 : A ++ wds f k = l) (h2 : wordL (f k) = l') (h3 : A ++ wds f (k + 1) = m) : (⟨l.toArray⟩ : ByteArray) ++ (⟨l'.toArray⟩ : ByteArray) = ⟨m.toArray⟩ := by
  rw [join_str, ← h1, ← h2, ← h3, wds, List.append_assoc]
theorem join_bts (A : List UInt8) {f : Nat → Int} {k : Nat} {l l' m : List UInt8} (h1 : A ++ bts f k = l) (h2 : byteL (f k) = l') (h3 : A ++ bts f (k + 1) = m) : (⟨l.toArray⟩ : ByteArray) ++ (⟨l'.toArray⟩ : ByteArray) = ⟨m.toArray⟩ := by
  rw [join_str, ← h1, ← h2, ← h3, bts, List.append_assoc]

set_option maxHeartbeats 1000000 in
theorem refBytes_as (T : Array Value) (f : Nat → Int) (hT : IsRow 38 f T) (h : Rt f) (w : World) :
    Calls Try.prog 17 #[.agg T] w fun e w' => e = .returned (.string ⟨(stL f).toArray⟩) ∧ Below w.heap.size w w' := by
  have HT := Lib.hid hT
  have HR := Lib.hid h
  have HA := Lib.hid (One.start w T 25)
  obtain ⟨A0, hA0⟩ : ∃ A0 : List UInt8, [] = A0 := ⟨_, rfl⟩
  have HE := Lib.hid (show (⟨#[]⟩ : ByteArray) = ⟨(A0 ++ wds f 0).toArray⟩ by rw [← hA0]; rfl)
  have hl0 : A0.length = 0 := by rw [← hA0]; rfl
  have HA0 := Lib.hid hA0
  clear hA0
  clear hT h
  go_enter Try.func17, Try.ntmps17
  go_wp2_with fail
  rw [HE.out]
  clear HE
  revert HA
  generalize w.alloc _ = W
  intro HA
  go_loopw [3, 4] (fun s i wx => ∃ k : Nat, k ≤ 16 ∧ i = .int .i64 k ∧ s = .string ⟨(A0 ++ wds f k).toArray⟩ ∧ Hid (One w T 25 wx)) (fun _ i _ => 16 - (intOf i).toNat)
  case atStart => exact ⟨0, Nat.zero_le _, rfl, rfl, HA⟩
  case round =>
    obtain ⟨k, hk, rfl, rfl, HK⟩ := hrel
    clear HA
    by_cases hk16 : k < 16
    · have hc := HT.out.cell HK.out.2 k (by omega)
      have hx := HR.out.1 k hk16
      obtain ⟨l, hl⟩ : ∃ l, A0 ++ wds f k = l := ⟨_, rfl⟩
      obtain ⟨m, hm⟩ : ∃ l, A0 ++ wds f (k + 1) = l := ⟨_, rfl⟩
      obtain ⟨l', hl'⟩ : ∃ l, wordL (f k) = l := ⟨_, rfl⟩
      have HJ := Lib.hid (join_wds A0 hl hl' hm)
      have HM := Lib.hid hm
      have hlen : ¬ 9223372036854775807 < l.length + l'.length := by rw [← hl, ← hl', List.length_append, wds_len, wordL_len, hl0]; omega
      obtain ⟨x, hfx⟩ : ∃ x, f k = x := ⟨_, rfl⟩
      rw [hfx] at hc hx hl'
      rw [hl]
      have HL := Lib.hid hl'
      have k1 : (k : Int) < 16 := by omega
      clear hfx hl hl' hm
      go_wp2_with fail
      refine (refWord_as x l' _ hx.1 hx.2 HL.out).mono ?_
      rintro e w1 ⟨rfl, hb⟩
      have HK2 := Lib.hid (HK.out.next hb)
      clear HK hb hc
      go_wp2_with fail
      go_roundw
      case rel => exact ⟨k + 1, by omega, by go_num, by rw [HM.out, ← HJ.out], HK2⟩
      case measure => simp [intOf]; omega
    · have e16 : k = 16 := by omega
      have hn16 : ¬ (k : Int) < 16 := by omega
      rw [e16]
      clear e16 hk hk16
      have hc := HT.out.cell HK.out.2 16 (by omega)
      have hx := HR.out.2.1
      obtain ⟨l, hl⟩ : ∃ l, A0 ++ wds f 16 = l := ⟨_, rfl⟩
      obtain ⟨A, hm⟩ : ∃ l, A0 ++ wds f (16 + 1) = l := ⟨_, rfl⟩
      obtain ⟨l', hl'⟩ : ∃ l, wordL (f 16) = l := ⟨_, rfl⟩
      have HJ := Lib.hid (join_wds A0 hl hl' hm)
      have HAe := Lib.hid (show wds f 17 = A by rw [← hm, ← HA0.out]; rfl)
      have hlA : A.length = 68 := by rw [← hm, List.length_append, wds_len, hl0]
      have hlen : ¬ 9223372036854775807 < l.length + l'.length := by rw [← hl, ← hl', List.length_append, wds_len, wordL_len, hl0]; omega
      obtain ⟨x, hfx⟩ : ∃ x, f 16 = x := ⟨_, rfl⟩
      rw [hfx] at hc hx hl'
      rw [hl]
      have HL := Lib.hid hl'
      clear hfx hl hl' hm
      go_wp2_with fail
      clear hn16
      refine (refWord_as x l' _ (by omega) (by omega) HL.out).mono ?_
      rintro e w1 ⟨rfl, hb⟩
      have HK2 := Lib.hid (HK.out.next hb)
      clear HK hb hc
      have hE : (⟨A.toArray⟩ : ByteArray) = ⟨(A ++ bts (fun i => f (17 + i)) 0).toArray⟩ := by rw [bts, List.append_nil]
      have HJ2 := Lib.hid (HJ.out.trans hE)
      clear HJ hE
      go_wp2_with fail
      rw [HJ2.out]
      clear HJ2 hlen
      go_loopw [3, 5] (fun s i wx => ∃ k : Nat, k ≤ 4 ∧ i = .int .i64 k ∧ s = .string ⟨(A ++ bts (fun i => f (17 + i)) k).toArray⟩ ∧ Hid (One w T 25 wx)) (fun _ i _ => 4 - (intOf i).toNat)
      case atStart => exact ⟨0, Nat.zero_le _, rfl, rfl, HK2⟩
      case round =>
        obtain ⟨k, hk, rfl, rfl, HK⟩ := hrel
        clear HK2
        by_cases hk4 : k < 4
        · have hc := HT.out.cell HK.out.2 (17 + k) (by omega)
          have hx := HR.out.2.2.1 k hk4
          obtain ⟨l, hl⟩ : ∃ l, A ++ bts (fun i => f (17 + i)) k = l := ⟨_, rfl⟩
          obtain ⟨m, hm⟩ : ∃ l, A ++ bts (fun i => f (17 + i)) (k + 1) = l := ⟨_, rfl⟩
          obtain ⟨l', hl'⟩ : ∃ l, byteL (f (17 + k)) = l := ⟨_, rfl⟩
          have HJ := Lib.hid (join_bts A hl hl' hm)
          have HM := Lib.hid hm
          have hlen : ¬ 9223372036854775807 < l.length + l'.length := by rw [← hl, ← hl', List.length_append, bts_len, hlA]; simp [byteL]; omega
          obtain ⟨x, hfx⟩ : ∃ x, f (17 + k) = x := ⟨_, rfl⟩
          rw [hfx] at hc hx hl'
          rw [hl]
          obtain ⟨x0, x1⟩ := hx
          have hcv := cells_byte x wr (by omega) (by omega)
          rw [hl'] at hcv
          have k1 : (k : Int) < 4 := by omega
          have HK2 := Lib.hid (HK.out.alloc (.cells #[.int .u8 x] 5))
          clear hfx hl hl' hm HK
          go_wp2_with fail
          go_roundw
          case rel => exact ⟨k + 1, by omega, by go_num, by rw [HM.out, ← HJ.out], HK2⟩
          case measure => simp [intOf]; omega
        · have e4 : k = 4 := by omega
          have hn4 : ¬ (k : Int) < 4 := by omega
          rw [e4]
          clear e4 hk hk4
          obtain ⟨C, hC⟩ : ∃ C, A ++ bts (fun i => f (17 + i)) 4 = C := ⟨_, rfl⟩
          have hlC : C.length = 72 := by rw [← hC, List.length_append, bts_len, hlA]
          have HCe := Lib.hid hC
          rw [hC]
          clear hC hlA
          have hE : (⟨C.toArray⟩ : ByteArray) = ⟨(C ++ wds (fun i => f (21 + i)) 0).toArray⟩ := by rw [wds, List.append_nil]
          rw [hE]
          clear hE
          go_wp2_with fail
          clear hn4
          go_loopw [3, 6] (fun s i wx => ∃ k : Nat, k ≤ 16 ∧ i = .int .i64 k ∧ s = .string ⟨(C ++ wds (fun i => f (21 + i)) k).toArray⟩ ∧ Hid (One w T 25 wx)) (fun _ i _ => 16 - (intOf i).toNat)
          case atStart => exact ⟨0, Nat.zero_le _, rfl, rfl, HK⟩
          case round =>
            obtain ⟨k, hk, rfl, rfl, HK⟩ := hrel
            by_cases hk16 : k < 16
            · have hc := HT.out.cell HK.out.2 (21 + k) (by omega)
              have hx := Md.le_ab (HR.out.2.2.2.1 k hk16)
              dsimp only at hx
              obtain ⟨l, hl⟩ : ∃ l, C ++ wds (fun i => f (21 + i)) k = l := ⟨_, rfl⟩
              obtain ⟨m, hm⟩ : ∃ l, C ++ wds (fun i => f (21 + i)) (k + 1) = l := ⟨_, rfl⟩
              obtain ⟨l', hl'⟩ : ∃ l, wordL (f (21 + k)) = l := ⟨_, rfl⟩
              have HJ := Lib.hid (join_wds C hl hl' hm)
              have HM := Lib.hid hm
              have hlen : ¬ 9223372036854775807 < l.length + l'.length := by rw [← hl, ← hl', List.length_append, wds_len, wordL_len, hlC]; omega
              obtain ⟨x, hfx⟩ : ∃ x, f (21 + k) = x := ⟨_, rfl⟩
              rw [hfx] at hc hx hl'
              rw [hl]
              have HL := Lib.hid hl'
              have k1 : (k : Int) < 16 := by omega
              clear hfx hl hl' hm
              go_wp2_with fail
              refine (refWord_as x l' _ (by omega) (by omega) HL.out).mono ?_
              rintro e w1 ⟨rfl, hb⟩
              have HK2 := Lib.hid (HK.out.next hb)
              clear HK hb hc
              go_wp2_with fail
              go_roundw
              case rel => exact ⟨k + 1, by omega, by go_num, by rw [HM.out, ← HJ.out], HK2⟩
              case measure => simp [intOf]; omega
            · have e16 : k = 16 := by omega
              have hn16 : ¬ (k : Int) < 16 := by omega
              rw [e16]
              clear e16 hk hk16
              have hc := HT.out.cell HK.out.2 37 (by omega)
              have hx := HR.out.2.2.2.2
              obtain ⟨l, hl⟩ : ∃ l, C ++ wds (fun i => f (21 + i)) 16 = l := ⟨_, rfl⟩
              obtain ⟨l', hl'⟩ : ∃ l, byteL (f 37) = l := ⟨_, rfl⟩
              have HJ := Lib.hid (show (⟨l.toArray⟩ : ByteArray) ++ (⟨l'.toArray⟩ : ByteArray) = ⟨(stL f).toArray⟩ by
                rw [join_str, ← hl, ← hl', ← HCe.out, ← HAe.out]
                unfold stL
                rw [List.append_assoc, List.append_assoc])
              have hlen : ¬ 9223372036854775807 < l.length + l'.length := by rw [← hl, ← hl', List.length_append, wds_len, hlC]; simp [byteL]
              obtain ⟨x, hfx⟩ : ∃ x, f 37 = x := ⟨_, rfl⟩
              rw [hfx] at hc hx hl'
              rw [hl]
              obtain ⟨x0, x1⟩ := hx
              have hcv := cells_byte x wr (by omega) (by omega)
              rw [hl'] at hcv
              have HK2 := Lib.hid (HK.out.alloc (.cells #[.int .u8 x] 5))
              clear hfx hl hl' HK
              go_wp2_with fail
              go_ret
              exact ⟨by rw [← HJ.out]; rfl, HK2.out.1⟩
end Go.Proofs.Ytinbdkneakblfaa.Sta
end
