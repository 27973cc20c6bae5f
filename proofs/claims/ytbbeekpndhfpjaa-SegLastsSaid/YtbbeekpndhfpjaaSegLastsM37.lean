/- Texts of the walk, one behind the other. -/
import Derived.Test.YtbbeekpndhfpjaaSegLastsM31
import Derived.Test.YtbbeekpndhfpjaaSegLastsM36
import Derived.RangeFuncCalls
import Derived.RangeFuncBound
import Derived.Shelf.RegionOpen
import Derived.OwnWalkIn
import Derived.TacticsInMore
import Derived.LoopIn
import Derived.Deep.DeepCutAuto

section
/- frag's pieces: an iterator over a record's pieces. -/
set_option maxRecDepth 100000
set_option linter.unusedVariables false
set_option linter.unusedSimpArgs false
namespace Go.Proofs.Ytbbeekpndhfpjaa.Fg
open Go.RowKit Go.Proofs.Ytbbeekpndhfpjaa.Row Go.Proofs.Ytbbeekpndhfpjaa.Pa Go.Proofs.Ytbbeekpndhfpjaa.Rf Go.Shelf
attribute [local go_sem] Oper.semAt_some

/-- The i-th piece, with the place where it starts, as it is handed over. -/
def pE (r : List UInt8) (i : Nat) : Array Value := #[.int .i64 ((49 * i : Nat) : Int), .string (tx ((r.drop (49 * i)).take 49))]

theorem run_min2 (x y u : Int) (h : min x y = u) (w : World) :
    Sem.run Try.prog (Builtin.min_ #[3, 3] 3 #[.int .i64 x, .int .i64 y]) w = .ok (.int .i64 u) w := by
  have e : (if y < x then y else x) = u := by
    rw [← h]; split <;> omega
  rw [← e]
  simp [Builtin.min_, Builtin.min2]

set_option maxHeartbeats 2000000 in
theorem pieces_yields (n : Nat) (r : List UInt8) (b : Nat) (hr : r.length ≤ 4096) :
    HandsC n Try.prog 60 #[.pointer (some ⟨b, 0, none⟩)] (fun W => W.cell? ⟨b, 0, none⟩ = some (.string (tx r))) (np r.length) (pE r) := fun l J Jx W hJ hJx hP hY h0 => by
  refine callsIn_of_wp Try.func60 rfl trivial ?_ rfl
  simp only [Try.ntmps60, List.size_toArray, List.length_cons, List.length_nil, Nat.reduceAdd, Nat.reduceSub, Array.replicate_succ, Array.replicate_zero, List.push_toArray, List.append_toArray, List.nil_append, List.cons_append]
  obtain ⟨R, hR⟩ : ∃ R, tx r = R := ⟨_, rfl⟩
  obtain ⟨m, hm⟩ : ∃ m, r.length = m := ⟨_, rfl⟩
  have hs : R.size = m := by rw [← hR, tx_size, hm]
  have HR := Lib.hid hR
  have HM := Lib.hid hm
  rw [hm] at hr
  have HY := Lib.hid hY
  have HP := Lib.hid hP
  clear hR hY hP hJ hJx
  gi_wp2_with fail
  gi_loopw [3] (fun z wr => ∃ k : Nat, k ≤ np m ∧ z = .int .i64 ((49 * k : Nat) : Int) ∧ Hid (J k wr)) (fun z _ => 5000 - (intOf z).toNat)
  case atStart => exact ⟨0, Nat.zero_le _, rfl, Lib.hid h0⟩
  case round =>
    obtain ⟨k, hk, rfl, hK⟩ := hrel
    have c0 : wr.cell? ⟨b, 0, none⟩ = some (.string R) := by rw [← HR.out]; exact HP.out k wr hK.out
    by_cases hlt : k < np m
    · have h49 := np_lt hlt
      obtain ⟨f1, t1, a1, b1, hy1, hR1⟩ := HY.out k wr (by rw [HM.out]; exact hlt) hK.out
      have HKK := Lib.hid (show 49 * (k + 1) = 49 * k + 49 by omega)
      unfold pE at hy1
      obtain ⟨M, hM⟩ : ∃ M, 49 * k = M := ⟨_, rfl⟩
      rw [hM] at h49 hy1 HKK ⊢
      obtain ⟨e, he⟩ : ∃ e : Nat, min (M + 49) m = e := ⟨_, rfl⟩
      have he1 : M ≤ e := by omega
      have he2 : e ≤ m := by omega
      have hmn := run_min2 ((M : Int) + 49) (m : Int) (e : Int) (by omega)
      obtain ⟨X, hX⟩ : ∃ X, R.extract M e = X := ⟨_, rfl⟩
      have hrun : ∀ w, Sem.run Try.prog (Instr.slice 9 (.string R) (some (.int .i64 (M : Int))) (some (.int .i64 (e : Int))) none) w = .ok (.string X) w := fun w => by
        rw [run_slice_string w 9 R .i64 .i64 (M : Int) (e : Int) Try.underlying9 (by omega) (by omega) (by rw [hs]; omega), ← hX]
        congr 3
      have hx : tx ((r.drop M).take 49) = X := by
        rw [← hX, ← HR.out, tx_cut]
        by_cases c : M + 49 ≤ m
        · rw [show e - M = 49 by omega]
        · rw [List.take_of_length_le (by rw [List.length_drop, HM.out]; omega), List.take_of_length_le (by rw [List.length_drop, HM.out]; omega)]
      rw [hx] at hy1
      have HR1 := Lib.hid hR1
      clear hR1 hx hX hM he
      gi_wp2_with fail
      refine ⟨(fun h => nomatch h), HR1.out.mono ?_⟩
      rintro en W4 (⟨rfl, hJ4, hk4⟩ | ⟨rfl, hx4⟩)
      · have HJ4 := Lib.hid hJ4
        clear hJ4 hk4 HR1 hy1 c0 hmn hrun
        gi_wp2
        go_roundw
        case rel => exact ⟨k + 1, by omega, by rw [HKK.out]; go_num, HJ4⟩
        case measure => simp [intOf]; omega
      · gi_wp2
        refine bodyPost_ret (results_none rfl _ _ _) rfl ?_
        exact ⟨⟨_, rfl⟩, .inr hx4⟩
    · have h49 := np_ge hlt
      obtain rfl : k = np m := by omega
      generalize 49 * np m = M at *
      gi_wp2
      go_end0
      exact ⟨⟨_, rfl⟩, .inl (by rw [HM.out]; exact hK.out)⟩

theorem pieces_as (R : ByteArray) (w : World) :
    Calls Try.prog 57 #[.string R] w fun e w' => e = .returned (.func (.func 60) #[] #[.pointer (some ⟨w.heap.size, 0, none⟩)]) ∧ w' = w.alloc (.cells #[.string R] 9) := by
  have hmf : ∀ (w : World) (cs : Array Value), (Instr.makeFunc (.func 60) #[] cs).run Try.prog w = .ok (.func (.func 60) #[] cs) w := fun w cs => rfl
  go_enter Try.func57, Try.ntmps57
  go_wp2
  go_ret
  exact ⟨rfl, rfl⟩
end Go.Proofs.Ytbbeekpndhfpjaa.Fg
end
