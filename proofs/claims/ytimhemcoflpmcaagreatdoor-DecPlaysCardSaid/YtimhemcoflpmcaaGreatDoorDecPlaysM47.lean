/- Texts of the walk, one behind the other. -/
import Derived.Test.YtimhemcoflpmcaaGreatDoorDecPlaysM40
import Derived.Test.YtimhemcoflpmcaaGreatDoorDecPlaysM43
import Derived.Test.YtimhemcoflpmcaaGreatDoorDecPlaysM46

section
/- The document's Decode (layer 13); results as rows that are known. -/
set_option maxRecDepth 100000
set_option linter.unusedVariables false
namespace Go.Proofs.YtimhemcoflpmcaaGreatDoor.De
open Go.RowKit Go.Proofs.YtimhemcoflpmcaaGreatDoor.Row Go.Proofs.YtimhemcoflpmcaaGreatDoor.Rg Go.Proofs.YtimhemcoflpmcaaGreatDoor.Sta

theorem as_P {fn : FuncId} {args : Array Value} {R Q : Array Value} {h g : Nat → Int} {z : Int} {w : World} (H : Calls Tryz.prog fn args w (RetP w h g z)) (hR : IsRow 4 h R) (hQ : IsRow 16 g Q) :
    Calls Tryz.prog fn args w fun e w' => e = .returned (.tuple #[.agg R, .agg Q, .int .i64 z]) ∧ Below w.heap.size w w' := by
  refine H.mono ?_
  rintro e w' ⟨⟨R', Q', rfl, hR', hQ'⟩, hb⟩
  obtain rfl := hR'.eq hR fun _ _ => rfl
  obtain rfl := hQ'.eq hQ fun _ _ => rfl
  exact ⟨rfl, hb⟩
theorem as_Q {fn : FuncId} {args : Array Value} {R Q : Array Value} {h g : Nat → Int} {w : World} (H : Calls Tryz.prog fn args w (RetQ w h g)) (hR : IsRow 4 h R) (hQ : IsRow 16 g Q) :
    Calls Tryz.prog fn args w fun e w' => e = .returned (.tuple #[.agg R, .agg Q]) ∧ Below w.heap.size w w' := by
  refine H.mono ?_
  rintro e w' ⟨⟨R', Q', rfl, hR', hQ'⟩, hb⟩
  obtain rfl := hR'.eq hR fun _ _ => rfl
  obtain rfl := hQ'.eq hQ fun _ _ => rfl
  exact ⟨rfl, hb⟩
theorem as_D {fn : FuncId} {args : Array Value} {R Q : Array Value} {h g : Nat → Int} {z : Int} {w : World} (H : Calls Tryz.prog fn args w (RetD w h g z)) (hR : IsRow 16 h R) (hQ : IsRow 38 g Q) :
    Calls Tryz.prog fn args w fun e w' => e = .returned (.tuple #[.agg R, .agg Q, .int .i64 z]) ∧ Below w.heap.size w w' := by
  refine H.mono ?_
  rintro e w' ⟨⟨R', Q', rfl, hR', hQ'⟩, hb⟩
  obtain rfl := hR'.eq hR fun _ _ => rfl
  obtain rfl := hQ'.eq hQ fun _ _ => rfl
  exact ⟨rfl, hb⟩
theorem as_N {fn : FuncId} {args : Array Value} {R Q : Array Value} {h g : Nat → Int} {w : World} (H : Calls Tryz.prog fn args w (RetNx w h g)) (hR : IsRow 16 h R) (hQ : IsRow 38 g Q) :
    Calls Tryz.prog fn args w fun e w' => e = .returned (.tuple #[.agg R, .agg Q]) ∧ Below w.heap.size w w' := by
  refine H.mono ?_
  rintro e w' ⟨⟨R', Q', rfl, hR', hQ'⟩, hb⟩
  obtain rfl := hR'.eq hR fun _ _ => rfl
  obtain rfl := hQ'.eq hQ fun _ _ => rfl
  exact ⟨rfl, hb⟩

/-- What stands while the document's Decode works. -/
def DsS (w : World) (T A B : Array Value) (w' : World) : Prop :=
  Below w.heap.size w w' ∧ At w' w.heap.size T 25 ∧ At w' (w.heap.size + 1) A 22 ∧ At w' (w.heap.size + 2) B 25
theorem DsS.start (w : World) (T A B : Array Value) : DsS w T A B (((w.alloc (.cells T 25)).alloc (.cells A 22)).alloc (.cells B 25)) := by
  have a1 := At.new (w.alloc (.cells T 25)) A 22
  have a2 := At.new ((w.alloc (.cells T 25)).alloc (.cells A 22)) B 25
  simp only [World.size_alloc] at a1 a2
  exact ⟨(((Below.refl _ _).alloc (Nat.le_refl _) _).alloc (by simp) _).alloc (by simp; omega) _, ((At.new w T 25).alloc _).alloc _, a1.alloc _, a2⟩
theorem DsS.below {w w1 w2 : World} {T A B : Array Value} (h : DsS w T A B w1) (hb : Below w1.heap.size w1 w2) : DsS w T A B w2 := by
  obtain ⟨h1, h2, h3, h4⟩ := h
  exact ⟨below_trans h1 hb h1.size, h2.below hb h2.lt, h3.below hb h3.lt, h4.below hb h4.lt⟩
theorem DsS.set1 {w w1 : World} {T A B : Array Value} (h : DsS w T A B w1) (C : Array Value) : DsS w T C B (w1.setRow (w.heap.size + 1) C) := by
  obtain ⟨h1, h2, h3, h4⟩ := h
  exact ⟨below_setRow' h1 (by omega) _, h2.setRow_other (by omega), h3.setRow, h4.setRow_other (by omega)⟩
theorem DsS.set2 {w w1 : World} {T A B : Array Value} (h : DsS w T A B w1) (C : Array Value) : DsS w T A C (w1.setRow (w.heap.size + 2) C) := by
  obtain ⟨h1, h2, h3, h4⟩ := h
  exact ⟨below_setRow' h1 (by omega) _, h2.setRow_other (by omega), h3.setRow_other (by omega), h4.setRow⟩

set_option maxHeartbeats 2000000 in
theorem refDecode_as (T : Array Value) (f : Nat → Int) (B : ByteArray) (s : List UInt8) (n : Nat) (w : World) (hR : IsRow 38 f T) (hs : ⟨s.toArray⟩ = B) (hn : B.size = n) (h : 10 ≤ n ∧ n ≤ 32) (hr : Rt f) :
    Calls Tryz.prog 10 #[.agg T, .string B] w (RetNx w (soD (byteF s) f n) (nxD (byteF s) f n)) := by
  obtain ⟨Zr, hZr, _, hzr, hir⟩ := zero_r
  obtain ⟨Za, hZa, _, hza, hia⟩ := zero_a
  obtain ⟨Z4, hZ4, _, hz4, hi4⟩ := zero_4
  have HS := Lib.hid (DsS.start w T Za Zr)
  have HIR := Lib.hid hir
  have HIA := Lib.hid hia
  have HI4 := Lib.hid hi4
  have HZR := Lib.hid hZr.1
  have HZA := Lib.hid hZa.1
  have HZ4 := Lib.hid hZ4.1
  have HR := Lib.hid hR
  have HV := Lib.hid (hR.sub (show 17 + 4 ≤ 38 by omega))
  obtain ⟨V, hV⟩ : ∃ M, T.extract 17 (17 + 4) = M := ⟨_, rfl⟩
  rw [hV] at HV
  obtain ⟨R, hR2⟩ : ∃ R, IsRow 4 (lB (byteF s) fun i => f (17 + i)) R := ⟨_, isRow _ _⟩
  obtain ⟨U, hU2⟩ : ∃ U, IsRow 16 (wB (byteF s) (fun i => f (17 + i)) n) U := ⟨_, isRow _ _⟩
  have HPA := Lib.hid (fun w' => as_Q (refParts_as V (fun i => f (17 + i)) B s n w' HV.out hs hn h hr.2.2.1) hR2 hU2)
  have HNX := Lib.hid (fun w' => refNext_as T R U f _ _ 0 hR hR2 hU2 hr (fun i _ => Md.ab_le (wB_le (byteF s) (fun i => f (17 + i)) n i).1 (wB_le (byteF s) (fun i => f (17 + i)) n i).2) w')
  have HR2 := Lib.hid hR2
  have HU2 := Lib.hid hU2
  clear hir hia hi4 hZr hZa hZ4 h hR hr hV hs hR2 hU2
  go_enter Tryz.func10, Tryz.ntmps10
  go_wp2_with (refine wpList_load_part (by rfl) 23 _ rfl w.heap.size 17 rfl HR.out HS.out.2.1 HV.out (by omega) (fun i _ => rfl) Tryz.underlying23 rfl (HI4.out _ HV.out.1) ?_)
  refine (HPA.out _).mono ?_
  rintro e w2 ⟨rfl, hb⟩
  replace HS := Lib.hid (HS.out.below hb)
  clear hb HPA
  have HU := Lib.hid (Duo.start (Below.refl w2.heap.size w2) Z4 Za 23 22)
  go_wp2_with (first
    | (refine wpList_store_row rfl 23 _ _ rfl w2.heap.size R rfl rfl _ _ HU.out.2.2.1 (HI4.out _ HR2.out.1) (by rw [HZ4.out, HR2.out.1]) HR2.out.2.1 ?_
       replace HU := Lib.hid (HU.out.set1 R)
       revert HU
       generalize World.setRow _ _ _ = W4
       intro HU)
    | (refine wpList_store_row rfl 22 _ _ rfl (w2.heap.size + 1) U rfl rfl _ _ HU.out.2.2.2 (HIA.out _ HU2.out.1) (by rw [HZA.out, HU2.out.1]) HU2.out.2.1 ?_
       replace HU := Lib.hid (HU.out.set2 U)
       have HS5 := Lib.hid (HS.out.below HU.out.1)
       clear HS
       revert HU HS5
       generalize World.setRow _ _ _ = W5
       intro HU HS5)
    | refine wpList_load_all (by rfl) 25 _ rfl w.heap.size rfl HR.out HS5.out.2.1 Tryz.underlying25 rfl HIR.out ?_
    | refine wpList_load_all (by rfl) 23 _ rfl w2.heap.size rfl HR2.out HU.out.2.2.1 Tryz.underlying23 rfl HI4.out ?_
    | refine wpList_load_all (by rfl) 22 _ rfl (w2.heap.size + 1) rfl HU2.out HU.out.2.2.2 Tryz.underlying22 rfl HIA.out ?_)
  refine (HNX.out _).mono ?_
  rintro e w6 ⟨⟨X, Y, rfl, hX, hY⟩, hb⟩
  have HX := Lib.hid hX
  have HY := Lib.hid hY
  have HS6 := Lib.hid (HS5.out.below hb)
  clear hX hY hb HU HS5 HNX HR2 HU2
  go_wp2_with (first
    | (refine wpList_store_row rfl 22 _ _ rfl (w.heap.size + 1) X rfl rfl _ _ HS6.out.2.2.1 (HIA.out _ HX.out.1) (by rw [HZA.out, HX.out.1]) HX.out.2.1 ?_
       have HS7 := Lib.hid (HS6.out.set1 X)
       clear HS6
       revert HS7
       generalize World.setRow _ _ _ = W7
       intro HS7)
    | (refine wpList_store_row rfl 25 _ _ rfl (w.heap.size + 2) Y rfl rfl _ _ HS7.out.2.2.2 (HIR.out _ HY.out.1) (by rw [HZR.out, HY.out.1]) HY.out.2.1 ?_
       have HS8 := Lib.hid (HS7.out.set2 Y)
       clear HS7
       revert HS8
       generalize World.setRow _ _ _ = W8
       intro HS8))
  exact bodyPost_ret (v := .tuple #[.agg X, .agg Y]) (results_any_two rfl _ _ (w.heap.size + 1) (w.heap.size + 2) X Y _ _ rfl rfl HS8.out.2.2.1 HS8.out.2.2.2 Tryz.underlying22 rfl (HIA.out _ HX.out.1) Tryz.underlying25 rfl (HIR.out _ HY.out.1)) rfl ⟨⟨X, Y, rfl, HX.out, HY.out⟩, HS8.out.1⟩

/-- A state with levels alone. -/
theorem built_lev {t : TypeId} (ht : IsSt t) {V : Array Value} {v : Nat → Int} (hV : IsRow 4 v V) : ∃ T, IsRow 38 (stF (fun _ => 0) 0 v (fun _ => 0) 0) T ∧ Tryz.prog.built t [(2, .agg V)] = some T := by
  obtain ⟨C, hC, e⟩ := fill_agg (place := pl) (i := 2) (rest := []) rfl (isRow_zero 38) hV (show 17 + 4 ≤ 38 by omega)
  refine ⟨C, hC.ext fun k hk => ?_, by rw [ht, e]; rfl⟩
  unfold over stF
  by_cases c1 : k < 16
  · rw [if_neg (by omega), if_pos c1]
  · by_cases c2 : k = 16
    · rw [if_neg (by omega), if_neg c1, if_pos c2]
    · by_cases c3 : k < 21
      · rw [if_pos (by omega), if_neg c1, if_neg c2, if_pos c3]
      · rw [if_neg (by omega), if_neg c1, if_neg c2, if_neg c3]
        split <;> rfl
theorem lev_right {v : Nat → Int} : Rt (stF (fun _ => 0) 0 v (fun _ => 0) 0) ↔ Sp.okL v := by
  constructor
  · intro h i hi
    have := h.2.2.1 i hi
    rwa [stF_lev _ _ _ _ _ hi] at this
  · intro h
    exact th_lev h fun i => by omega
end Go.Proofs.YtimhemcoflpmcaaGreatDoor.De
end
