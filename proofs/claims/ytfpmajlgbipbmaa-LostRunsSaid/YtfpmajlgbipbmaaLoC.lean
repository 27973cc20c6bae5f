/- Contracts: lost.Gap and lost.Run. -/
import Derived.Test.YtfpmajlgbipbmaaLoB
import Derived.Test.YtfpmajlgbipbmaaBks
import Derived.Deep.DeepCutAuto
set_option maxRecDepth 100000
set_option linter.unusedVariables false
namespace Go.Proofs.Ytfpmajlgbipbmaa.Lo
open Go.RowKit Go.Proofs.Ytfpmajlgbipbmaa.Row Go.Proofs.Ytfpmajlgbipbmaa.Md Go.Proofs.Ytfpmajlgbipbmaa.Tl Go.Proofs.Ytfpmajlgbipbmaa.Sta

theorem Tri.other {w w1 : World} {T V U : Array Value} {t v u : TypeId} (h : Tri w T V U t v u w1) {b : Nat} (hb : w.heap.size + 1 + 1 < b) (R : Array Value) : Tri w T V U t v u (w1.setRow b R) :=
  ⟨below_setRow' h.1 (by omega) R, h.2.1.setRow_other (by omega), h.2.2.1.setRow_other (by omega), h.2.2.2.setRow_other (by omega)⟩
theorem Tri.setV {w w1 : World} {T V U : Array Value} {t v u : TypeId} (h : Tri w T V U t v u w1) (R : Array Value) : Tri w T R U t v u (w1.setRow (w.heap.size + 1) R) :=
  ⟨below_setRow' h.1 (by omega) R, h.2.1.setRow_other (by omega), h.2.2.1.setRow, h.2.2.2.setRow_other (by omega)⟩
theorem Tri.setU {w w1 : World} {T V U : Array Value} {t v u : TypeId} (h : Tri w T V U t v u w1) (R : Array Value) : Tri w T V R t v u (w1.setRow (w.heap.size + 1 + 1) R) :=
  ⟨below_setRow' h.1 (by omega) R, h.2.1.setRow_other (by omega), h.2.2.1.setRow_other (by omega), h.2.2.2.setRow⟩

set_option maxHeartbeats 2000000 in
theorem gap_of {T R Q E : Array Value} {h g : Nat → Int} {f : Nat → Int} (hT : IsRow 38 f T) (hE : IsRow 38 (fun _ => 0) E)
    (hC : ∀ w, Calls Try.prog 12 #[.agg T] w fun e w' => e = .returned (.tuple #[.agg R, .agg Q]) ∧ Below w.heap.size w w') (hR : IsRow 16 h R) (hQ : IsRow 38 g Q) (w : World) :
    Calls Try.prog 13 #[.agg T] w fun e w' => e = .returned (.tuple #[.agg R, .agg E]) ∧ Below w.heap.size w w' := by
  obtain ⟨Zp, hZp, _, hzp, hip⟩ := zero_p
  obtain ⟨Zb, hZb, _, hzb, hib⟩ := zero_b
  obtain ⟨E', hE', bE⟩ := built_0 isSt_p
  obtain rfl : E' = E := hE'.eq hE fun _ _ => rfl
  have HC := Lib.hid hC
  have HT := Lib.hid hT
  have HIP := Lib.hid hip
  have HIB := Lib.hid hib
  have HR := Lib.hid hR
  have HQ := Lib.hid hQ
  have HE := Lib.hid hE
  have HBE := Lib.hid bE
  have HZB := Lib.hid hZb.1
  have HZP := Lib.hid hZp.1
  have HW := Lib.hid (show Los w T _ from ⟨Zb, Zp, hZb.1, hZp.1, Tri.start w T Zb Zp 31 29 31⟩)
  clear hT hC hR hQ hip hib hZb hZp hE hE' bE
  go_enter Try.func13, Try.ntmps13
  go_wp2_with (refine wpList_load_all (by rfl) 31 _ rfl w.heap.size rfl HT.out HW.out.atT Try.underlying31 rfl HIP.out ?_)
  revert HW
  generalize World.alloc _ _ = W
  intro HW
  refine (HC.out W).mono ?_
  rintro e W1 ⟨rfl, hb⟩
  replace HW := Lib.hid (HW.out.next hb)
  have HU := Lib.hid (Duo.start (Below.refl W1.heap.size W1) Zb Zp 29 31)
  clear hb HC W
  obtain ⟨A, B, hA, hB, hX⟩ := HW.out
  have HA := Lib.hid hA
  have HB' := Lib.hid hB
  have HX := Lib.hid (hX.next HU.out.1)
  have HG := Lib.hid hX.2.2.2.lt
  clear hA hB hX HW
  go_wp2_with (first
    | (refine wpList_store_row rfl 29 _ _ rfl W1.heap.size R rfl rfl _ _ HU.out.2.2.1 (HIB.out _ HR.out.1) (by rw [HZB.out, HR.out.1]) HR.out.2.1 ?_
       replace HX := Lib.hid (Tri.other HX.out HG.out R)
       replace HU := Lib.hid (HU.out.set1 R)
       revert HX HU
       generalize World.setRow _ _ _ = W4
       intro HX HU)
    | (refine wpList_store_row rfl 31 _ _ rfl (W1.heap.size + 1) Q rfl rfl _ _ HU.out.2.2.2 (HIP.out _ HQ.out.1) (by rw [HZP.out, HQ.out.1]) HQ.out.2.1 ?_
       replace HX := Lib.hid (Tri.other HX.out (Nat.lt_succ_of_lt HG.out) Q)
       replace HU := Lib.hid (HU.out.set2 Q)
       revert HX HU
       generalize World.setRow _ _ _ = W5
       intro HX HU)
    | refine wpList_load_all (by rfl) 29 _ rfl W1.heap.size rfl HR.out HU.out.2.2.1 Try.underlying29 rfl HIB.out ?_
    | refine wpList_build_parts (by rfl) 31 [] rfl _ rfl HBE.out ?_
    | (refine wpList_store_row rfl 29 _ _ rfl (w.heap.size + 1) R rfl rfl _ _ HX.out.2.2.1 (HIB.out _ HR.out.1) (by rw [HA.out, HR.out.1]) HR.out.2.1 ?_
       have HY := Lib.hid (Tri.setV HX.out R)
       revert HY
       generalize World.setRow _ _ _ = W6
       intro HY)
    | (refine wpList_store_row rfl 31 _ _ rfl (w.heap.size + 1 + 1) E' rfl rfl _ _ HY.out.2.2.2 (HIP.out _ HE.out.1) (by rw [HB'.out, HE.out.1]) HE.out.2.1 ?_
       have HF := Lib.hid (Tri.setU HY.out E')
       revert HF
       generalize World.setRow _ _ _ = W7
       intro HF))
  exact bodyPost_ret (v := .tuple #[.agg R, .agg E']) (results_any_two rfl _ _ (w.heap.size + 1) (w.heap.size + 1 + 1) R E' _ _ rfl rfl HF.out.2.2.1 HF.out.2.2.2 Try.underlying29 rfl (HIB.out _ HR.out.1) Try.underlying31 rfl (HIP.out _ HE.out.1)) rfl ⟨rfl, HF.out.1⟩
theorem enter_gap (args : Array Value) (w : World) : (callFunc 13 args).run Try.prog w = .ok (.enter 13 args) w := run_enter Try.func13 (by kernel_rfl) rfl args w

/-- What stands while frames are lost: the state so far, one of one's own, the sounds so far. -/
def RuS (w : World) (Q : Array Value) (a : Option Addr) (k c : Nat) (so : Nat → Nat → Int) (w' : World) : Prop :=
  Below w.heap.size w w' ∧ w.heap.size + 1 + 1 ≤ w'.heap.size ∧ At w' w.heap.size Q 31 ∧ (∃ Z : Array Value, Z.size = 38 ∧ At w' (w.heap.size + 1) Z 31) ∧ Bks w' (w.heap.size + 1 + 1) a k c so
theorem RuS.start (w : World) {T Z : Array Value} (so : Nat → Nat → Int) (hZ : Z.size = 38) : RuS w T none 0 0 so ((w.alloc (.cells T 31)).alloc (.cells Z 31)) := by
  have a1 := At.new (w.alloc (.cells T 31)) Z 31
  simp only [World.size_alloc] at a1
  exact ⟨((Below.refl _ _).alloc (Nat.le_refl _) _).alloc (by simp) _, by simp, (At.new _ _ _).alloc _, ⟨Z, hZ, a1⟩, Bks.nil _ _ _⟩
theorem RuS.next {w w1 w2 : World} {Q : Array Value} {a : Option Addr} {k c : Nat} {so : Nat → Nat → Int} (h : RuS w Q a k c so w1) (hb : Below w1.heap.size w1 w2) : RuS w Q a k c so w2 := by
  obtain ⟨h1, h2, h3, ⟨Z, h4, h5⟩, h6⟩ := h
  exact ⟨below_trans h1 hb h1.size, Nat.le_trans h2 hb.size, h3.below hb h3.lt, ⟨Z, h4, h5.below hb h5.lt⟩, h6.below hb⟩
theorem RuS.setQ {w w1 : World} {Q R : Array Value} {a : Option Addr} {k c : Nat} {so : Nat → Nat → Int} (h : RuS w Q a k c so w1) : RuS w R a k c so (w1.setRow w.heap.size R) := by
  obtain ⟨h1, h2, h3, ⟨Z, h4, h5⟩, h6⟩ := h
  exact ⟨below_setRow' h1 (by omega) _, by rw [size_setRow]; exact h2, h3.setRow, ⟨Z, h4, h5.setRow_other (by omega)⟩, h6.setRow (by omega) _⟩
theorem RuS.setZ {w w1 : World} {Q R : Array Value} {a : Option Addr} {k c : Nat} {so : Nat → Nat → Int} (h : RuS w Q a k c so w1) (hR : R.size = 38) : RuS w Q a k c so (w1.setRow (w.heap.size + 1) R) := by
  obtain ⟨h1, h2, h3, ⟨Z, h4, h5⟩, h6⟩ := h
  exact ⟨below_setRow' h1 (by omega) _, by rw [size_setRow]; exact h2, h3.setRow_other (by omega), ⟨R, hR, h5.setRow⟩, h6.setRow (by omega) _⟩
theorem RuS.other {w w1 : World} {Q R : Array Value} {a : Option Addr} {k c b : Nat} {so : Nat → Nat → Int} (h : RuS w Q a k c so w1) (hb : w.heap.size + 1 + 1 ≤ b) (hd : ∀ g, (Value.slice a k c).ownBlock = some g → g ≠ b) : RuS w Q a k c so (w1.setRow b R) := by
  obtain ⟨h1, h2, h3, ⟨Z, h4, h5⟩, h6⟩ := h
  refine ⟨below_setRow' h1 (by omega) _, by rw [size_setRow]; exact h2, h3.setRow_other (by omega), ⟨Z, h4, h5.setRow_other (by omega)⟩, ?_⟩
  obtain ⟨e1, e2 | ⟨g, cap, cur, e, e3, e4, e5⟩⟩ := h6
  · exact ⟨e1, .inl e2⟩
  · refine ⟨e1, .inr ⟨g, cap, cur, e, e3, ?_, e5⟩⟩
    have hne : b ≠ g := fun e' => hd g (by rw [e]; rfl) e'.symm
    unfold World.setRow
    simp only [Array.getElem?_modify, hne, if_false]
    exact e4
theorem RuS.grown {w w1 w2 : World} {Q : Array Value} {a a' : Option Addr} {k c c' : Nat} {so : Nat → Nat → Int} (h : RuS w Q a k c so w1) (hg : w1.grownBy w2 (Value.slice a k c).ownBlock) (hB : Bks w2 (w.heap.size + 1 + 1) a' (k + 1) c' so) : RuS w Q a' (k + 1) c' so w2 := by
  obtain ⟨h1, h2, h3, ⟨Z, h4, h5⟩, h6⟩ := h
  have hb : Below w.heap.size w w2 := h1.grown hg (by have := h1.size; omega) fun g hg => by have := (h6.block g hg).1; omega
  exact ⟨hb, Nat.le_trans h2 hg.size, h3.grown hg fun e => by have := (h6.block _ e).1; omega, ⟨Z, h4, h5.grown hg fun e => by have := (h6.block _ e).1; omega⟩, hB⟩
end Go.Proofs.Ytfpmajlgbipbmaa.Lo
