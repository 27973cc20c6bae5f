/- Contract: lost.Run. -/
import Derived.Test.YtfpmajlgbipbmaaLoC
set_option maxRecDepth 100000
set_option linter.unusedVariables false
namespace Go.Proofs.Ytfpmajlgbipbmaa.Lo
open Go.RowKit Go.Proofs.Ytfpmajlgbipbmaa.Row Go.Proofs.Ytfpmajlgbipbmaa.Md Go.Proofs.Ytfpmajlgbipbmaa.Tl Go.Proofs.Ytfpmajlgbipbmaa.Sta

/-- What Run answers: so many sounds of its own, and the state then. -/
def RetRun (w : World) (st so : Nat → Nat → Int) (N : Nat) (e : Ending) (w' : World) : Prop :=
  ∃ a c Q, e = .returned (.tuple #[.slice a N c, .agg Q]) ∧ IsRow 38 (st N) Q ∧ Bks w' w.heap.size a N c so ∧ Below w.heap.size w w'

theorem results_slice_row {fn : Func} {p q : Tmp} {t : TypeId} {z : Value} (h : fn.results = #[.tmp q, .cell p t]) (tmps : Array Value) (w : World) (g : Nat) (A : Array Value) {u : TypeId} (d : TypeDesc)
    (hq : tmps.getD q undef = z) (hp : tmps.getD p undef = .pointer (some ⟨g, 0, none⟩)) (hg : At w g A u)
    (hu : Try.prog.underlying t = some d) (hd : d.isRow = true) (hA : (Try.prog.info? t).map (·.size) = some A.size) :
    (results fn tmps).run Try.prog w = .ok (.tuple #[z, .agg A]) w := by
  have hp' : tmps[p]?.getD undef = .pointer (some ⟨g, 0, none⟩) := by simpa using hp
  have hq' : tmps[q]?.getD undef = z := by simpa using hq
  have h1 := run_loadVar_row w g u t A (0, 0) _ hg hu (by cases d <;> first | rfl | cases hd) hA
  simp [results, h, hp', hq', asAddr, h1]

set_option maxHeartbeats 4000000 in
theorem run_gen (T : Array Value) (st so : Nat → Nat → Int) (n m : Int) (N : Nat) (hm : min n 1000 = m) (hN : (N : Int) = max m 0) (hT : IsRow 38 (st 0) T)
    (hL : ∀ k, k < N → ∀ X, IsRow 38 (st k) X → ∃ R Q, IsRow 16 (so k) R ∧ IsRow 38 (st (k + 1)) Q ∧ ∀ w, Calls Try.prog 12 #[.agg X] w fun e w' => e = .returned (.tuple #[.agg R, .agg Q]) ∧ Below w.heap.size w w') (w : World) :
    Calls Try.prog 10 #[.agg T, .int .i64 n] w (RetRun w st so N) := by
  obtain ⟨Zp, hZp, _, hzp, hip⟩ := zero_p
  obtain ⟨Zb, hZb, _, hzb, hib⟩ := zero_b
  have rm := run_min2 n 1000 m hm
  have hN3 : N ≤ 1000 := by omega
  have HL := Lib.hid hL
  have HIP := Lib.hid hip
  have HIB := Lib.hid hib
  have HZB := Lib.hid hZb.1
  have HZP := Lib.hid hZp.1
  have HT := Lib.hid hT
  have HS := Lib.hid (RuS.start w (T := T) so hZp.1)
  have HN3 := Lib.hid hN3
  have HN := Lib.hid hN
  clear hip hib hL hT hZb hZp hm hN3 hN
  go_enter Try.func10, Try.ntmps10
  go_wp2_with fail
  clear rm
  go_loopw [6, 11] (fun s i w' => ∃ (k : Nat) (a : Option Addr) (c : Nat) (Q : Array Value), k ≤ N ∧ i = .int .i64 k ∧ s = .slice a k c ∧ Hid (RuS w Q a k c so w') ∧ Hid (IsRow 38 (st k) Q)) (fun _ i _ => N - (intOf i).toNat)
  case atStart => exact ⟨0, none, 0, T, Nat.zero_le _, rfl, rfl, HS, HT⟩
  case round =>
    obtain ⟨k, a, c, Q, hk, rfl, rfl, HS', HQ⟩ := hrel
    clear HS HT
    by_cases hlt : k < N
    · have k1 : (k : Int) < m := by have := HN.out; omega
      obtain ⟨R, Q2, hR, hQ2, hC⟩ := HL.out k hlt Q HQ.out
      have HR := Lib.hid hR
      have HQ2 := Lib.hid hQ2
      have HC := Lib.hid hC
      have hk3 : k + 1 ≤ 1000000 := by have := HN3.out; omega
      clear hR hQ2 hC
      go_wp2_with (refine wpList_load_all (by rfl) 31 _ rfl w.heap.size rfl HQ.out HS'.out.2.2.1 Try.underlying31 rfl HIP.out ?_)
      refine (HC.out wr).mono ?_
      rintro e W1 ⟨rfl, hb⟩
      have HS1 := Lib.hid (HS'.out.next hb)
      have HD := Lib.hid (fun g hg => (HS1.out.2.2.2.2.block g hg).2)
      have HGE := Lib.hid HS1.out.2.1
      have HU := Lib.hid (Duo.start (Below.refl W1.heap.size W1) Zb Zp 29 31)
      have HX := Lib.hid (HS1.out.next HU.out.1)
      clear hb HC HS' HS1
      go_wp2_with (first
        | (refine wpList_store_row rfl 29 _ _ rfl W1.heap.size R rfl rfl _ _ HU.out.2.2.1 (HIB.out _ HR.out.1) (by rw [HZB.out, HR.out.1]) HR.out.2.1 ?_
           replace HX := Lib.hid (RuS.other (R := R) HX.out HGE.out fun g hg => Nat.ne_of_lt (HD.out g hg))
           replace HU := Lib.hid (HU.out.set1 R)
           revert HX HU
           generalize World.setRow _ _ _ = W4
           intro HX HU)
        | (refine wpList_store_row rfl 31 _ _ rfl (W1.heap.size + 1) Q2 rfl rfl _ _ HU.out.2.2.2 (HIP.out _ HQ2.out.1) (by rw [HZP.out, HQ2.out.1]) HQ2.out.2.1 ?_
           replace HX := Lib.hid (RuS.other (R := Q2) HX.out (Nat.le_succ_of_le HGE.out) fun g hg => Nat.ne_of_lt (Nat.lt_succ_of_lt (HD.out g hg)))
           replace HU := Lib.hid (HU.out.set2 Q2)
           revert HX HU
           generalize World.setRow _ _ _ = W5
           intro HX HU)
        | refine wpList_load_all (by rfl) 29 _ rfl W1.heap.size rfl HR.out HU.out.2.2.1 Try.underlying29 rfl HIB.out ?_
        | (refine wpList_slice_one rfl _ rfl rfl HR.out ?_
           replace HX := Lib.hid (HX.out.next ((Below.refl _ _).alloc (Nat.le_refl _) (.cells R 29)))
           replace HU := Lib.hid (HU.out.next ((Below.refl _ _).alloc (Nat.le_refl _) (.cells R 29)))
           have HA := Lib.hid (At.new W5 R 29)
           revert HX HU HA
           generalize W5.alloc _ = W6
           intro HX HU HA)
        | (refine wpList_append_block rfl _ _ rfl (w.heap.size + 1 + 1) so a k c rfl HX.out.2.2.2.2 W5.heap.size rfl HA.out HR.out hk3 HX.out.2.1 ?_
           intro a' c' w7 hB hbel hg
           have HX7 := Lib.hid (HX.out.grown hg hB)
           have HQ7 := Lib.hid (HU.out.2.2.2.grown hg fun e => absurd (HD.out _ e) (by omega))
           clear hB hbel hg HX HA)
        | refine wpList_load_all (by rfl) 31 _ rfl (W1.heap.size + 1) rfl HQ2.out HQ7.out Try.underlying31 rfl HIP.out ?_
        | (refine wpList_store_row rfl 31 _ _ rfl w.heap.size Q2 rfl rfl _ _ HX7.out.2.2.1 (HIP.out _ HQ2.out.1) (by rw [HQ.out.1, HQ2.out.1]) HQ2.out.2.1 ?_
           have HX8 := Lib.hid (HX7.out.setQ (R := Q2))
           revert HX8
           generalize World.setRow _ _ _ = W8
           intro HX8))
      go_roundw
      case rel => exact ⟨k + 1, _, _, Q2, by omega, by go_num, rfl, HX8, HQ2⟩
      case measure => simp [intOf]; omega
    · have k1 : ¬ (k : Int) < m := by have := HN.out; omega
      obtain rfl : k = N := by omega
      clear hlt
      go_wp2_with fail
      refine mv_startS (RuS w Q a k c so) (HS'.out.next ((Below.refl _ _).drew)) fun hS => ?_
      refine mv_yield (i := 0) (d := 24) (.slice a k c) rfl rfl (by kernel_rfl) (by kernel_rfl) (by kernel_rfl) hS (y_run (by rfl) fun _ => by rfl) ?_
      simp only [Act.put, List.setIfInBounds_toArray, List.set_cons_zero, List.set_cons_succ]
      refine mv_yield (i := 1) (d := 25) (.agg Q) rfl rfl (by kernel_rfl) (by kernel_rfl) (by kernel_rfl) hS (y_load_part (l := 0) (by rfl) rfl rfl HQ.out (fun w' h => h.2.2.1) HQ.out (by omega) (fun i _ => by rw [Nat.zero_add]) Try.underlying31 rfl (HIP.out _ HQ.out.1)) ?_
      simp only [Act.put, List.setIfInBounds_toArray, List.set_cons_zero, List.set_cons_succ]
      refine mv_yield (i := 2) (d := 4) (.slice a k c) rfl rfl (by kernel_rfl) (by kernel_rfl) (by kernel_rfl) hS (y_run (by rfl) fun _ => by rfl) ?_
      simp only [Act.put, List.setIfInBounds_toArray, List.set_cons_zero, List.set_cons_succ]
      obtain ⟨Z, hZ, hz⟩ := hS.2.2.2.1
      refine mv_ready [3] (by kernel_rfl) (by simp) (ar_store (i := 3) (w.heap.size + 1) Q Z rfl rfl (by rfl) rfl rfl rfl hz (by rw [hZ, HQ.out.1]) HQ.out.2.1 (HIP.out _ HQ.out.1) (hS.setZ HQ.out.1) (fun hS' => ?_) AllReadyH.nil)
      have PX := Lib.hid (hz.setRow (C := Q))
      have PS := Lib.hid hS'
      refine mv_done (by kernel_rfl) ?_
      clear hS hS' hz HS'
      go_wp2_with fail
      exact bodyPost_ret (v := .tuple #[.slice a k c, .agg Q]) (results_slice_row rfl _ _ (w.heap.size + 1) Q _ rfl rfl PX.out Try.underlying31 rfl (HIP.out _ HQ.out.1)) rfl ⟨a, c, Q, rfl, HQ.out, PS.out.2.2.2.2.wide (by omega), PS.out.1⟩
theorem enter_run (args : Array Value) (w : World) : (callFunc 10 args).run Try.prog w = .ok (.enter 10 args) w := run_enter Try.func10 (by kernel_rfl) rfl args w
end Go.Proofs.Ytfpmajlgbipbmaa.Lo
