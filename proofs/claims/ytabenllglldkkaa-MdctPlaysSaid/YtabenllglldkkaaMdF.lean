/- Contracts: the closure of mdct.Back that makes a number of the way back. -/
import Derived.Test.YtabenllglldkkaaMdE
namespace Go.Proofs.Ytabenllglldkkaa.Md
open Go.RowKit Go.Proofs.Ytabenllglldkkaa.Ang

theorem quiet_int {f : FuncId} {xs : Array Value} {w0 : World} {n : Nat} {c : Int}
    (h : Calls Try.prog f xs (w0.drewN n) fun e w' => e = .returned (.int .i64 c) ∧ w0.drewN n = w') :
    Calls Try.prog f xs (w0.drewN n) fun e w' => e = .returned (.int .i64 c) ∧ ∃ m, w' = w0.drewN m :=
  h.mono fun _ _ ⟨he, hw⟩ => ⟨he, n, hw.symm⟩

theorem shift16_as (x r : Int) (w : World) (h1 : -1099511627776 ≤ x) (h2 : x ≤ 1099511627776) (h : nr16 x = r) :
    Calls Try.prog 24 #[.int .i64 x, .int .i64 16] w fun e w' => e = .returned (.int .i64 r) ∧ w = w' := by
  subst h; exact shift_16 x w h1 h2
theorem shift17_as (x r : Int) (w : World) (h1 : -1099511627776 ≤ x) (h2 : x ≤ 1099511627776) (h : nr17 x = r) :
    Calls Try.prog 24 #[.int .i64 x, .int .i64 17] w fun e w' => e = .returned (.int .i64 r) ∧ w = w' := by
  subst h; exact shift_17 x w h1 h2
theorem gatherB_as (T V : Array Value) (f : Nat → Int) (n bx bc : Nat) (u : Int) (w : World) (hn : n < 32) (hT : IsRow 16 f T) (hV : IsRow 128 tabS V) (hf : Le 1048576 f)
    (h1 : At w bx T 24) (h2 : At w bc V 40) (hu : uS f n 16 = u) :
    Calls Try.prog 21 #[.int .i64 n, .pointer (some ⟨bx, 0, none⟩), .pointer (some ⟨bc, 0, none⟩)] w fun e w' => e = .returned (.int .i64 u) ∧ w = w' := by
  subst hu; exact gatherB_any T V f n bx bc w hn hT hV hf h1 h2

theorem g_bd {f : Nat → Int} (hf : Le 1048576 f) (n : Nat) : ab (gS f n) ≤ 16777216 :=
  near_bd (Int.le_trans (u_bd hf n 16 (by omega)) (by omega))

set_option maxRecDepth 100000 in
set_option maxHeartbeats 1000000 in
theorem at_any (T V W : Array Value) (f : Nat → Int) (n bx bc bg bw : Nat) (w : World) (hn : n < 32) (hT : IsRow 16 f T) (hV : IsRow 128 tabS V) (hW : IsRow 32 winS W) (hf : Le 1048576 f)
    (h1 : At w bx T 24) (h2 : At w bc V 40) (h3 : At w bw W 35) (h4 : w.cell? ⟨bg, 0, none⟩ = some (.func (.func 21) #[] #[.pointer (some ⟨bx, 0, none⟩), .pointer (some ⟨bc, 0, none⟩)])) :
    Calls Try.prog 23 #[.int .i64 n, .pointer (some ⟨bg, 0, none⟩), .pointer (some ⟨bw, 0, none⟩)] w fun e w' => e = .returned (.int .i64 (bS f n)) ∧ ∃ m, w' = w.drewN m := by
  have cw := hW.cell h3 n hn
  obtain ⟨u, hu⟩ : ∃ u, uS f n 16 = u := ⟨_, rfl⟩
  obtain ⟨g, hg⟩ : ∃ g, near u = g := ⟨_, rfl⟩
  obtain ⟨v, hv⟩ : ∃ v, winS n = v := ⟨_, rfl⟩
  obtain ⟨r, hr⟩ : ∃ r, nr16 (g * v) = r := ⟨_, rfl⟩
  obtain ⟨u1, u2⟩ := le_ab (u_bd hf n 16 (by omega))
  obtain ⟨p1, p2⟩ := le_ab (ab_prod (g_bd hf n) (win_bd n))
  have e : bS f n = r := by unfold bS gS; rw [hu, hg, hv, hr]
  rw [show gS f n = g by unfold gS; rw [hu, hg], hv] at p1 p2
  rw [hu] at u1 u2
  rw [hv] at cw
  rw [e]
  have HU := Lib.hid hu
  have HG := Lib.hid hg
  have HR := Lib.hid hr
  have HT := Lib.hid hT
  have HV := Lib.hid hV
  have HF := Lib.hid hf
  have H1 := Lib.hid h1
  have H2 := Lib.hid h2
  have k1 : (n : Int) < 32 := by omega
  simp only [Int.reduceMul] at p1 p2
  have hm : IntKind.i64.wrap (g * v) = g * v := IntWalk.i64_in _ (by omega)
  have w1 : -1099511627776 ≤ u := by omega
  have w2 : u ≤ 1099511627776 := by omega
  have w3 : -1099511627776 ≤ g * v := by omega
  have w4 : g * v ≤ 1099511627776 := by omega
  clear hu hg hv hr hT hV hW hf h1 h2 h3 e u1 u2 p1 p2
  go_enter Try.func23, Try.ntmps23
  go_wp2_with fail
  go_quiet (first
    | (go_at_call 21; with_reducible exact quiet_int (gatherB_as T V f n bx bc u _ hn HT.out HV.out HF.out (H1.out.drewN _) (H2.out.drewN _) HU.out))
    | (go_at_call 24; with_reducible exact quiet_int (shift15_as u g _ w1 w2 HG.out))
    | (go_at_call 24; with_reducible exact quiet_int (shift16_as (g * v) r _ w3 w4 HR.out)))
  go_wp2
  go_ret
  exact ⟨rfl, _, rfl⟩
end Go.Proofs.Ytabenllglldkkaa.Md
