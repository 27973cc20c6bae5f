/- Contracts: state.Next: what stands while it works; states that make nothing. -/
import Derived.Test.YtfpmajlgbipbmaaStOne
import Derived.Test.YtfpmajlgbipbmaaMrB
import Derived.Test.YtfpmajlgbipbmaaMrO
import Derived.Test.YtfpmajlgbipbmaaTsC
set_option maxRecDepth 100000
set_option linter.unusedVariables false
namespace Go.Proofs.Ytfpmajlgbipbmaa.Sta
open Go.RowKit Go.Proofs.Ytfpmajlgbipbmaa.Row Go.Proofs.Ytfpmajlgbipbmaa.Md

/-- A block and a state by value. -/
def RetNx (w : World) (h g : Nat → Int) (e : Ending) (w' : World) : Prop := (∃ R Q, e = .returned (.tuple #[.agg R, .agg Q]) ∧ IsRow 16 h R ∧ IsRow 38 g Q) ∧ Below w.heap.size w w'

/-- What stands while Next works: what came in (T, V, U), the results (A, B), the state then (P). -/
def Nx (w : World) (T V U A B P : Array Value) (w' : World) : Prop :=
  Below w.heap.size w w' ∧ w.heap.size + 1 + 1 + 1 + 1 + 1 + 1 ≤ w'.heap.size ∧ At w' w.heap.size T 31 ∧ At w' (w.heap.size + 1) V 23 ∧ At w' (w.heap.size + 1 + 1) U 29 ∧
    At w' (w.heap.size + 1 + 1 + 1) A 29 ∧ At w' (w.heap.size + 1 + 1 + 1 + 1) B 31 ∧ At w' (w.heap.size + 1 + 1 + 1 + 1 + 1) P 31
theorem Nx.start (w : World) (T V U A B P : Array Value) : Nx w T V U A B P ((((((w.alloc (.cells T 31)).alloc (.cells V 23)).alloc (.cells U 29)).alloc (.cells A 29)).alloc (.cells B 31)).alloc (.cells P 31)) := by
  have a1 := At.new (w.alloc (.cells T 31)) V 23
  have a2 := At.new ((w.alloc (.cells T 31)).alloc (.cells V 23)) U 29
  have a3 := At.new (((w.alloc (.cells T 31)).alloc (.cells V 23)).alloc (.cells U 29)) A 29
  have a4 := At.new ((((w.alloc (.cells T 31)).alloc (.cells V 23)).alloc (.cells U 29)).alloc (.cells A 29)) B 31
  have a5 := At.new (((((w.alloc (.cells T 31)).alloc (.cells V 23)).alloc (.cells U 29)).alloc (.cells A 29)).alloc (.cells B 31)) P 31
  simp only [World.size_alloc] at a1 a2 a3 a4 a5
  exact ⟨((((((Below.refl _ _).alloc (Nat.le_refl _) _).alloc (by simp) _).alloc (by simp; omega) _).alloc (by simp; omega) _).alloc (by simp; omega) _).alloc (by simp; omega) _, by simp,
    (((((At.new _ _ _).alloc _).alloc _).alloc _).alloc _).alloc _, (((a1.alloc _).alloc _).alloc _).alloc _, ((a2.alloc _).alloc _).alloc _, (a3.alloc _).alloc _, a4.alloc _, a5⟩
theorem Nx.below {w w1 w2 : World} {T V U A B P : Array Value} {n : Nat} (h : Nx w T V U A B P w1) (hb : Below n w1 w2) (hn : w.heap.size + 1 + 1 + 1 + 1 + 1 + 1 ≤ n) : Nx w T V U A B P w2 := by
  obtain ⟨h0, h1, h2, h3, h4, h5, h6, h7⟩ := h
  have := hb.size
  exact ⟨h0.trans (hb.mono (by omega)), by omega, h2.below hb (by omega), h3.below hb (by omega), h4.below hb (by omega), h5.below hb (by omega), h6.below hb (by omega), h7.below hb (by omega)⟩
theorem Nx.next {w w1 w2 : World} {T V U A B P : Array Value} (h : Nx w T V U A B P w1) (hb : Below w1.heap.size w1 w2) : Nx w T V U A B P w2 := h.below hb h.2.1
theorem Nx.alloc {w w1 : World} {T V U A B P : Array Value} (h : Nx w T V U A B P w1) (o : Obj) : Nx w T V U A B P (w1.alloc o) := h.next ((Below.refl _ _).alloc (Nat.le_refl _) o)
theorem Nx.drew {w w1 : World} {T V U A B P : Array Value} (h : Nx w T V U A B P w1) : Nx w T V U A B P w1.drew := ⟨h.1.drew, h.2⟩
theorem Nx.setP {w w1 : World} {T V U A B P : Array Value} (h : Nx w T V U A B P w1) (i : Nat) (v : Value) : Nx w T V U A B (P.setIfInBounds i v) (w1.setCell ⟨w.heap.size + 1 + 1 + 1 + 1 + 1, i, none⟩ v) := by
  obtain ⟨h0, h1, h2, h3, h4, h5, h6, h7⟩ := h
  exact ⟨h0.setCell (by dsimp only; omega) _, by simpa [World.setCell] using h1, h2.setCell_other (by dsimp only; omega), h3.setCell_other (by dsimp only; omega), h4.setCell_other (by dsimp only; omega), h5.setCell_other (by dsimp only; omega), h6.setCell_other (by dsimp only; omega), h7.setCell⟩
theorem Nx.setA {w w1 : World} {T V U A B P : Array Value} (h : Nx w T V U A B P w1) (R : Array Value) : Nx w T V U R B P (w1.setRow (w.heap.size + 1 + 1 + 1) R) := by
  obtain ⟨h0, h1, h2, h3, h4, h5, h6, h7⟩ := h
  exact ⟨below_setRow' h0 (by omega) _, by rw [size_setRow]; exact h1, h2.setRow_other (by omega), h3.setRow_other (by omega), h4.setRow_other (by omega), h5.setRow, h6.setRow_other (by omega), h7.setRow_other (by omega)⟩
theorem Nx.setB {w w1 : World} {T V U A B P : Array Value} (h : Nx w T V U A B P w1) (R : Array Value) : Nx w T V U A R P (w1.setRow (w.heap.size + 1 + 1 + 1 + 1) R) := by
  obtain ⟨h0, h1, h2, h3, h4, h5, h6, h7⟩ := h
  exact ⟨below_setRow' h0 (by omega) _, by rw [size_setRow]; exact h1, h2.setRow_other (by omega), h3.setRow_other (by omega), h4.setRow_other (by omega), h5.setRow_other (by omega), h6.setRow, h7.setRow_other (by omega)⟩

theorem Nx.setR {w w1 : World} {T V U A B P : Array Value} (h : Nx w T V U A B P w1) (R : Array Value) : Nx w T V U A B R (w1.setRow (w.heap.size + 1 + 1 + 1 + 1 + 1) R) := by
  obtain ⟨h0, h1, h2, h3, h4, h5, h6, h7⟩ := h
  exact ⟨below_setRow' h0 (by omega) _, by rw [size_setRow]; exact h1, h2.setRow_other (by omega), h3.setRow_other (by omega), h4.setRow_other (by omega), h5.setRow_other (by omega), h6.setRow_other (by omega), h7.setRow⟩
/-- .. ahead of the state then. -/
theorem Nx.five (w : World) (T V U A B : Array Value) : At (((((w.alloc (.cells T 31)).alloc (.cells V 23)).alloc (.cells U 29)).alloc (.cells A 29)).alloc (.cells B 31)) (w.heap.size + 1) V 23 ∧
    At (((((w.alloc (.cells T 31)).alloc (.cells V 23)).alloc (.cells U 29)).alloc (.cells A 29)).alloc (.cells B 31)) (w.heap.size + 1 + 1) U 29 := by
  have a1 := At.new (w.alloc (.cells T 31)) V 23
  have a2 := At.new ((w.alloc (.cells T 31)).alloc (.cells V 23)) U 29
  simp only [World.size_alloc] at a1 a2
  exact ⟨((a1.alloc _).alloc _).alloc _, (a2.alloc _).alloc _⟩

/-- The state then, before Back. -/
def thF (v u : Nat → Int) (z : Int) : Nat → Int := stF (fun _ => 0) 0 v u z

theorem built_b : ∃ T, IsRow 16 (fun _ => 0) T ∧ Try.prog.built 29 [] = some T := ⟨_, isRow_zero 16, by kernel_rfl⟩
theorem built_4r : ∃ T, IsRow 4 (fun _ => 0) T ∧ Try.prog.built 23 [] = some T := ⟨_, isRow_zero 4, by kernel_rfl⟩

set_option maxHeartbeats 600000 in
theorem next_no (T V U : Array Value) (f v u : Nat → Int) (z : Int) (hT : IsRow 38 f T) (hV : IsRow 4 v V) (hU : IsRow 16 u U) (hr : ¬ Rt f ∨ Rt f ∧ ¬ Rt (thF v u z)) (w : World) :
    Calls Try.prog 17 #[.agg T, .agg V, .agg U, .int .i64 z] w (RetNx w (fun _ => 0) (fun _ => 0)) := by
  obtain ⟨Zp, hZp, _, hzp, hip⟩ := zero_p
  obtain ⟨Zb, hZb, _, hzb, hib⟩ := zero_b
  obtain ⟨_, _, _, _, hi4⟩ := zero_4
  obtain ⟨P, hP, bP⟩ := built_3 isSt_p hV hU z
  obtain ⟨E, hE, bE⟩ := built_0 isSt_p
  obtain ⟨D, hD, bD⟩ := built_b
  have HIP := Lib.hid hip
  have HIB := Lib.hid hib
  have HI4 := Lib.hid hi4
  have HT := Lib.hid hT
  have HV := Lib.hid hV
  have HU := Lib.hid hU
  have HP := Lib.hid hP
  have HBP := Lib.hid bP
  have HE := Lib.hid hE
  have HBE := Lib.hid bE
  have HZP := Lib.hid hZp
  have HD := Lib.hid hD
  have HBD := Lib.hid bD
  have HZB := Lib.hid hZb
  have HN := Lib.hid (Nx.start w T V U Zb Zp Zp)
  have HF := Lib.hid (Nx.five w T V U Zb Zp)
  have HR := Lib.hid hr
  clear hT hV hU hip hib hi4 hP bP hE bE hZp hZb hr hD bD
  go_enter Try.func17, Try.ntmps17
  go_wp2_with (first
    | refine wpList_load_all (by rfl) 23 _ rfl (w.heap.size + 1) rfl HV.out HF.out.1 Try.underlying23 rfl HI4.out ?_
    | refine wpList_load_all (by rfl) 29 _ rfl (w.heap.size + 1 + 1) rfl HU.out HF.out.2 Try.underlying29 rfl HIB.out ?_
    | refine wpList_build_parts (by rfl) 31 [(2, _), (3, _), (4, _)] rfl _ rfl HBP.out ?_
    | (refine wpList_store_row rfl 31 _ _ rfl (w.heap.size + 1 + 1 + 1 + 1 + 1) P rfl rfl _ _ HN.out.2.2.2.2.2.2.2 (HIP.out _ HP.out.1) (by rw [HZP.out.1, HP.out.1]) HP.out.2.1 ?_
       have HW := Lib.hid (HN.out.setR P)
       clear HN HF HBP
       revert HW
       generalize World.setRow _ _ _ = W
       intro HW)
    | refine wpList_load_all (by rfl) 31 _ rfl w.heap.size rfl HT.out HW.out.2.2.1 Try.underlying31 rfl HIP.out ?_)
  rcases HR.out with h | ⟨h, h'⟩
  · have HR1 := Lib.hid h
    clear h HR
    refine (right_no T f W HT.out HR1.out).mono ?_
    rintro e W1 ⟨rfl, hb⟩
    replace HW := Lib.hid (HW.out.next hb)
    clear hb
    go_wp2_with (first
        | refine wpList_build_parts (by rfl) 29 [] rfl _ rfl HBD.out ?_
        | refine wpList_build_parts (by rfl) 31 [] rfl _ rfl HBE.out ?_
        | (refine wpList_store_row rfl 29 _ _ rfl (w.heap.size + 1 + 1 + 1) D rfl rfl _ _ HW.out.2.2.2.2.2.1 (HIB.out _ HD.out.1) (by rw [HZB.out.1, HD.out.1]) HD.out.2.1 ?_
           replace HW := Lib.hid (HW.out.setA D)
           revert HW
           generalize World.setRow _ _ _ = W'
           intro HW)
        | (refine wpList_store_row rfl 31 _ _ rfl (w.heap.size + 1 + 1 + 1 + 1) E rfl rfl _ _ HW.out.2.2.2.2.2.2.1 (HIP.out _ HE.out.1) (by rw [HZP.out.1, HE.out.1]) HE.out.2.1 ?_
           replace HW := Lib.hid (HW.out.setB E)
           revert HW
           generalize World.setRow _ _ _ = W''
           intro HW))
    exact bodyPost_ret (v := .tuple #[.agg D, .agg E]) (results_any_two rfl _ _ (w.heap.size + 1 + 1 + 1) (w.heap.size + 1 + 1 + 1 + 1) D E _ _ rfl rfl HW.out.2.2.2.2.2.1 HW.out.2.2.2.2.2.2.1 Try.underlying29 rfl (HIB.out _ HD.out.1) Try.underlying31 rfl (HIP.out _ HE.out.1)) rfl ⟨⟨D, E, rfl, HD.out, HE.out⟩, HW.out.1⟩
  · have HR1 := Lib.hid h
    have HR2 := Lib.hid h'
    clear h h' HR
    refine (right_yes T f W HT.out HR1.out).mono ?_
    rintro e W1 ⟨rfl, hb⟩
    replace HW := Lib.hid (HW.out.next hb)
    clear hb
    go_wp2_with (refine wpList_load_all (by rfl) 31 _ rfl (w.heap.size + 1 + 1 + 1 + 1 + 1) rfl HP.out HW.out.2.2.2.2.2.2.2 Try.underlying31 rfl HIP.out ?_)
    refine (right_no P _ W1 HP.out HR2.out).mono ?_
    rintro e W2 ⟨rfl, hb⟩
    replace HW := Lib.hid (HW.out.next hb)
    clear hb
    go_wp2_with (first
        | refine wpList_build_parts (by rfl) 29 [] rfl _ rfl HBD.out ?_
        | refine wpList_build_parts (by rfl) 31 [] rfl _ rfl HBE.out ?_
        | (refine wpList_store_row rfl 29 _ _ rfl (w.heap.size + 1 + 1 + 1) D rfl rfl _ _ HW.out.2.2.2.2.2.1 (HIB.out _ HD.out.1) (by rw [HZB.out.1, HD.out.1]) HD.out.2.1 ?_
           replace HW := Lib.hid (HW.out.setA D)
           revert HW
           generalize World.setRow _ _ _ = W'
           intro HW)
        | (refine wpList_store_row rfl 31 _ _ rfl (w.heap.size + 1 + 1 + 1 + 1) E rfl rfl _ _ HW.out.2.2.2.2.2.2.1 (HIP.out _ HE.out.1) (by rw [HZP.out.1, HE.out.1]) HE.out.2.1 ?_
           replace HW := Lib.hid (HW.out.setB E)
           revert HW
           generalize World.setRow _ _ _ = W''
           intro HW))
    exact bodyPost_ret (v := .tuple #[.agg D, .agg E]) (results_any_two rfl _ _ (w.heap.size + 1 + 1 + 1) (w.heap.size + 1 + 1 + 1 + 1) D E _ _ rfl rfl HW.out.2.2.2.2.2.1 HW.out.2.2.2.2.2.2.1 Try.underlying29 rfl (HIB.out _ HD.out.1) Try.underlying31 rfl (HIP.out _ HE.out.1)) rfl ⟨⟨D, E, rfl, HD.out, HE.out⟩, HW.out.1⟩
end Go.Proofs.Ytfpmajlgbipbmaa.Sta
