/- Texts of the walk, one behind the other. -/
import Derived.Test.YtfohinlldchdpaaGreatDoorWholeWayM37
import Derived.Test.YtfohinlldchdpaaGreatDoorWholeWayM8
import Derived.Test.YtfohinlldchdpaaGreatDoorWholeWayM10
import Derived.Test.YtfohinlldchdpaaGreatDoorWholeWayM24

section
/- Contracts of dec's Parts. -/
set_option maxRecDepth 100000
set_option linter.unusedVariables false
namespace Go.Proofs.YtfohinlldchdpaaGreatDoor.De
open Go.RowKit Go.Proofs.YtfohinlldchdpaaGreatDoor.Row Go.Proofs.YtfohinlldchdpaaGreatDoor.Rg Go.Proofs.YtfohinlldchdpaaGreatDoor.Sta

/-- Two rows and a number as results. -/
theorem results_two_int {fn : Func} {p q r : Tmp} {t u t' u' : TypeId} {z : Value} (h : fn.results = #[.cell p t, .cell q u, .tmp r]) (tmps : Array Value) (w : World) (g k : Nat) (A B : Array Value) (d d' : TypeDesc)
    (hp : tmps.getD p undef = .pointer (some ⟨g, 0, none⟩)) (hq : tmps.getD q undef = .pointer (some ⟨k, 0, none⟩)) (hr : tmps.getD r undef = z) (hg : At w g A t') (hk : At w k B u')
    (hu : Tryz.prog.underlying t = some d) (hd : d.isRow = true) (hA : (Tryz.prog.info? t).map (·.size) = some A.size)
    (hu' : Tryz.prog.underlying u = some d') (hd' : d'.isRow = true) (hB : (Tryz.prog.info? u).map (·.size) = some B.size) :
    (results fn tmps).run Tryz.prog w = .ok (.tuple #[.agg A, .agg B, z]) w := by
  have hp' : tmps[p]?.getD undef = .pointer (some ⟨g, 0, none⟩) := by simpa using hp
  have hq' : tmps[q]?.getD undef = .pointer (some ⟨k, 0, none⟩) := by simpa using hq
  have hr' : tmps[r]?.getD undef = z := by simpa using hr
  have h1 := run_loadVar_row w g t' t A (0, 0) _ hg hu (by cases d <;> first | rfl | cases hd) hA
  have h2 := run_loadVar_row w k u' u B (0, 0) _ hk hu' (by cases d' <;> first | rfl | cases hd') hB
  simp [results, h, hp', hq', hr', asAddr, h1, h2]

section
variable {ops : Array Oper} {S : World → Prop} {oi : Oper} {a : Act}
/-- A method taken as a function. -/
theorem y_func {f : FuncId} {y : Operand} {v : Value} (hw : Region.wanted oi (yielded ops a.tmps) = true) (ho : oi.op = .makeFunc (.func f) #[y] #[]) (hy : a.eval y = v) : YieldsIf Tryz.prog ops S oi (.func (.func f) #[v] #[]) a :=
  y_run hw fun w => by
    subst hy
    unfold execOp
    simp only [ho, List.map_toArray, List.map_cons, List.map_nil]
    rfl
end

/-- Levels, waves, and how it went. -/
def RetP (w : World) (l u : Nat → Int) (z : Int) (e : Ending) (w' : World) : Prop := (∃ R U, e = .returned (.tuple #[.agg R, .agg U, .int .i64 z]) ∧ IsRow 4 l R ∧ IsRow 16 u U) ∧ Below w.heap.size w w'

/-- What stands while Parts works. -/
def PaS (w : World) (TL A B : Array Value) (w' : World) : Prop :=
  Below w.heap.size w w' ∧ At w' w.heap.size TL 23 ∧ At w' (w.heap.size + 1) A 23 ∧ At w' (w.heap.size + 2) B 32 ∧ Lv.Tab w' ∧ 0 < w.heap.size
theorem PaS.start (w : World) (TL A B : Array Value) (hT : Lv.Tab w) : PaS w TL A B (((w.alloc (.cells TL 23)).alloc (.cells A 23)).alloc (.cells B 32)) := by
  have a1 := At.new (w.alloc (.cells TL 23)) A 23
  have a2 := At.new ((w.alloc (.cells TL 23)).alloc (.cells A 23)) B 32
  simp only [World.size_alloc] at a1 a2
  have hb : Below w.heap.size w (((w.alloc (.cells TL 23)).alloc (.cells A 23)).alloc (.cells B 32)) := (((Below.refl _ _).alloc (Nat.le_refl _) _).alloc (by simp) _).alloc (by simp; omega) _
  exact ⟨hb, ((At.new w TL 23).alloc _).alloc _, a1.alloc _, a2, hT.next hb, hT.lt⟩
theorem PaS.took {w w1 w2 : World} {O : Nat → Prop} {TL A B : Array Value} (h : PaS w TL A B w1) (hF : Fr O w1 w2) (hO : ∀ k, O k → w.heap.size + 2 < k) : PaS w TL A B w2 := by
  obtain ⟨h1, h2, h3, h4, h5, h6⟩ := h
  refine ⟨h1.trans (hF.below h1.size fun k hk => by have := hO k hk; omega), h2.fr hF ?_, h3.fr hF ?_, h4.fr hF ?_, Tab.fr h5 hF ?_, h6⟩ <;> (intro c; have := hO _ c; omega)
theorem PaS.below {w w1 w2 : World} {TL A B : Array Value} (h : PaS w TL A B w1) (hB : Below w1.heap.size w1 w2) : PaS w TL A B w2 := h.took (.of_below (T := fun _ => False) hB) fun _ c => c.elim
theorem PaS.row {w w1 : World} {TL A B : Array Value} (h : PaS w TL A B w1) {g : Nat} (hg : w.heap.size + 2 < g) (C : Array Value) : PaS w TL A B (w1.setRow g C) :=
  h.took (O := Just g) ((Fr.refl _ _).setRow (.inl (Just.self _)) _) fun k hk => by rw [just_iff] at hk; omega
theorem PaS.set1 {w w1 : World} {TL A B : Array Value} (h : PaS w TL A B w1) (C : Array Value) : PaS w TL C B (w1.setRow (w.heap.size + 1) C) := by
  obtain ⟨h1, h2, h3, h4, h5, h6⟩ := h
  exact ⟨below_setRow' h1 (by omega) _, h2.setRow_other (by omega), h3.setRow, h4.setRow_other (by omega), Tab.row h5 (by omega) _, h6⟩
theorem PaS.set2 {w w1 : World} {TL A B : Array Value} (h : PaS w TL A B w1) (C : Array Value) : PaS w TL A C (w1.setRow (w.heap.size + 2) C) := by
  obtain ⟨h1, h2, h3, h4, h5, h6⟩ := h
  exact ⟨below_setRow' h1 (by omega) _, h2.setRow_other (by omega), h3.setRow_other (by omega), h4.setRow, Tab.row h5 (by omega) _, h6⟩

theorem parts_size (TL : Array Value) (L : Nat → Int) (B : ByteArray) (n : Nat) (w : World) (hR : IsRow 4 L TL) (hn : B.size = n) (h : ¬ (10 ≤ n ∧ n ≤ 32)) (hm : n ≤ maxLen) (hT : Lv.Tab w) :
    Calls Tryz.prog 36 #[.agg TL, .string B] w (RetP w (fun _ => 0) (fun _ => 0) 10) := by
  obtain ⟨Z4, hZ4, _, hz4, hi4⟩ := zero_4
  obtain ⟨Zb, hZb, _, hzb, hib⟩ := zero_b
  obtain ⟨D, hD, bD⟩ := built_b
  obtain ⟨G, hG, bG⟩ := built_4r
  have HS := Lib.hid (PaS.start w TL Z4 Zb hT)
  have HD := Lib.hid hD
  have HBD := Lib.hid bD
  have HG := Lib.hid hG
  have HBG := Lib.hid bG
  have HI4 := Lib.hid hi4
  have HIB := Lib.hid hib
  have HZ4 := Lib.hid hZ4.1
  have HZB := Lib.hid hZb.1
  have HN := Lib.hid h
  clear hT hD bD hG bG hi4 hib hZ4 hZb h hR
  go_enter Tryz.func36, Tryz.ntmps36
  go_wp2_with fail
  refine (isSize_no n _ HN.out).mono ?_
  rintro e w1 ⟨rfl, rfl⟩
  go_wp2_with (first
    | refine wpList_build_parts (by rfl) 23 [] rfl _ rfl HBG.out ?_
    | refine wpList_build_parts (by rfl) 32 [] rfl _ rfl HBD.out ?_
    | (refine wpList_store_row rfl 23 _ _ rfl (w.heap.size + 1) G rfl rfl _ _ HS.out.2.2.1 (HI4.out _ HG.out.1) (by rw [HZ4.out, HG.out.1]) HG.out.2.1 ?_
       have HS1 := Lib.hid (HS.out.set1 G)
       clear HS
       revert HS1
       generalize World.setRow _ _ _ = W
       intro HS1)
    | (refine wpList_store_row rfl 32 _ _ rfl (w.heap.size + 2) D rfl rfl _ _ HS1.out.2.2.2.1 (HIB.out _ HD.out.1) (by rw [HZB.out, HD.out.1]) HD.out.2.1 ?_
       have HS2 := Lib.hid (HS1.out.set2 D)
       clear HS1
       revert HS2
       generalize World.setRow _ _ _ = W
       intro HS2))
  exact bodyPost_ret (v := .tuple #[.agg G, .agg D, .int .i64 10]) (results_two_int rfl _ _ (w.heap.size + 1) (w.heap.size + 2) G D _ _ rfl rfl rfl HS2.out.2.2.1 HS2.out.2.2.2.1 Tryz.underlying23 rfl (HI4.out _ HG.out.1) Tryz.underlying32 rfl (HIB.out _ HD.out.1)) rfl ⟨⟨G, D, rfl, HG.out, HD.out⟩, HS2.out.1⟩

theorem parts_no (TL : Array Value) (L : Nat → Int) (B : ByteArray) (n : Nat) (w : World) (hR : IsRow 4 L TL) (hn : B.size = n) (h : 10 ≤ n ∧ n ≤ 32) (hL : ¬ Sp.okL L) (hT : Lv.Tab w) :
    Calls Tryz.prog 36 #[.agg TL, .string B] w (RetP w (fun _ => 0) (fun _ => 0) 1) := by
  obtain ⟨Z4, hZ4, _, hz4, hi4⟩ := zero_4
  obtain ⟨Zb, hZb, _, hzb, hib⟩ := zero_b
  obtain ⟨D, hD, bD⟩ := built_b
  obtain ⟨G, hG, bG⟩ := built_4r
  have HS := Lib.hid (PaS.start w TL Z4 Zb hT)
  have HD := Lib.hid hD
  have HBD := Lib.hid bD
  have HG := Lib.hid hG
  have HBG := Lib.hid bG
  have HI4 := Lib.hid hi4
  have HIB := Lib.hid hib
  have HZ4 := Lib.hid hZ4.1
  have HZB := Lib.hid hZb.1
  have HN := Lib.hid h
  have HIL := Lib.hid (hi4 TL hR.1)
  have HL := Lib.hid (fun w' => areLevels_no TL L w' hR hL)
  clear hT hD bD hG bG hi4 hib hZ4 hZb h hR hL
  go_enter Tryz.func36, Tryz.ntmps36
  go_wp2_with fail
  refine (isSize_yes n _ HN.out.1 HN.out.2).mono ?_
  rintro e w1 ⟨rfl, rfl⟩
  go_wp2_with (refine wpList_load_row rfl 23 _ rfl w.heap.size rfl _ _ (0, 0) _ HS.out.2.1 Tryz.underlying23 rfl HIL.out ?_)
  refine (HL.out _).mono ?_
  rintro e w1 ⟨rfl, hb⟩
  replace HS := Lib.hid (HS.out.below hb)
  clear hb HL
  go_wp2_with (first
    | refine wpList_build_parts (by rfl) 23 [] rfl _ rfl HBG.out ?_
    | refine wpList_build_parts (by rfl) 32 [] rfl _ rfl HBD.out ?_
    | (refine wpList_store_row rfl 23 _ _ rfl (w.heap.size + 1) G rfl rfl _ _ HS.out.2.2.1 (HI4.out _ HG.out.1) (by rw [HZ4.out, HG.out.1]) HG.out.2.1 ?_
       have HS1 := Lib.hid (HS.out.set1 G)
       clear HS
       revert HS1
       generalize World.setRow _ _ _ = W
       intro HS1)
    | (refine wpList_store_row rfl 32 _ _ rfl (w.heap.size + 2) D rfl rfl _ _ HS1.out.2.2.2.1 (HIB.out _ HD.out.1) (by rw [HZB.out, HD.out.1]) HD.out.2.1 ?_
       have HS2 := Lib.hid (HS1.out.set2 D)
       clear HS1
       revert HS2
       generalize World.setRow _ _ _ = W
       intro HS2))
  exact bodyPost_ret (v := .tuple #[.agg G, .agg D, .int .i64 1]) (results_two_int rfl _ _ (w.heap.size + 1) (w.heap.size + 2) G D _ _ rfl rfl rfl HS2.out.2.2.1 HS2.out.2.2.2.1 Tryz.underlying23 rfl (HI4.out _ HG.out.1) Tryz.underlying32 rfl (HIB.out _ HD.out.1)) rfl ⟨⟨G, D, rfl, HG.out, HD.out⟩, HS2.out.1⟩

theorem enter_pulses (args : Array Value) (w : World) : (callFunc 75 args).run Tryz.prog w = .ok (.enter 75 args) w := run_enter Tryz.func75 (by kernel_rfl) rfl args w
theorem enter_takeWaves (args : Array Value) (w : World) : (callFunc 86 args).run Tryz.prog w = .ok (.enter 86 args) w := run_enter Tryz.func86 (by kernel_rfl) rfl args w

/-- The waves behind a packet. -/
noncomputable def wB (f : Nat → Nat) (L : Nat → Int) (n : Nat) : Nat → Int := wW f (lB f L) (kS f L n) (dL f 4) 4
theorem wB_le (f : Nat → Nat) (L : Nat → Int) (n i : Nat) : -1048576 ≤ wB f L n i ∧ wB f L n i ≤ 1048576 := wW_le f _ _ (kS_le f L n) 4 (Nat.le_refl _) i

set_option maxHeartbeats 2000000 in
theorem parts_yes (TL : Array Value) (L : Nat → Int) (B : ByteArray) (s : List UInt8) (n : Nat) (w : World) (hR : IsRow 4 L TL) (hs : ⟨s.toArray⟩ = B) (hn : B.size = n) (h : 10 ≤ n ∧ n ≤ 32) (hL : Sp.okL L) (hT : Lv.Tab w) :
    Calls Tryz.prog 36 #[.agg TL, .string B] w (RetP w (lB (byteF s) L) (wB (byteF s) L n) 0) := by
  obtain ⟨Z4, hZ4, _, hz4, hi4⟩ := zero_4
  obtain ⟨Zb, hZb, _, hzb, hib⟩ := zero_b
  have hmf : ∀ (fn : Fn) (first cap : Array Value) (w : World), (Instr.makeFunc fn first cap).run Tryz.prog w = .ok (.func fn first cap) w := fun _ _ _ _ => rfl
  have hsn : s.length = n := by rw [← hn, ← hs]; rfl
  have HS := Lib.hid (PaS.start w TL Z4 Zb hT)
  have HI4 := Lib.hid hi4
  have HIB := Lib.hid hib
  have HZ4 := Lib.hid hZ4.1
  have HZB := Lib.hid hZb.1
  have HN := Lib.hid h
  have HIL := Lib.hid (hi4 TL hR.1)
  have HL := Lib.hid (fun w' => areLevels_yes TL L w' hR hL)
  have HR := Lib.hid hR
  have HOL := Lib.hid hL
  have HB := Lib.hid hs
  have HSN := Lib.hid hsn
  have n32 := h.2
  clear hT hi4 hib hZ4 hZb h hR hL hs hsn
  go_enter Tryz.func36, Tryz.ntmps36
  go_wp2_with fail
  refine (isSize_yes n _ HN.out.1 HN.out.2).mono ?_
  rintro e w1 ⟨rfl, rfl⟩
  go_wp2_with (refine wpList_load_row rfl 23 _ rfl w.heap.size rfl _ _ (0, 0) _ HS.out.2.1 Tryz.underlying23 rfl HIL.out ?_)
  refine (HL.out _).mono ?_
  rintro e w1 ⟨rfl, hb⟩
  replace HS := Lib.hid (HS.out.below hb)
  clear hb HL
  go_wp2_with fail
  refine (newDec_as B s _ HB.out (by have := HSN.out; omega)).mono ?_
  rintro e w2 ⟨b, O0, rfl, hD, hO0, hb⟩
  obtain ⟨O, hD, hO⟩ := hD.tight
  have HO := Lib.hid (fun k (hk : O k) => (show w.heap.size + 2 < k from by have := hO0 k (hO k hk).1; have := HS.out.2.2.2.1.lt; omega))
  have HOT := Lib.hid (fun k (hk : O k) => (hO k hk).2)
  replace HS := Lib.hid (HS.out.below hb)
  have HD := Lib.hid hD
  clear hb hD hO hO0
  go_wp2_with (refine wpList_load_row rfl 23 _ rfl w.heap.size rfl _ _ (0, 0) _ HS.out.2.1 Tryz.underlying23 rfl HIL.out ?_)
  refine (takeLevels_as TL L b O s _ HR.out HOL.out HD.out HOT.out (by have := HSN.out; omega)).mono ?_
  rintro e w3 ⟨⟨R, rfl, hR⟩, hD, hF⟩
  have HR3 := Lib.hid hR
  have HIR := Lib.hid (HI4.out R hR.1)
  replace HOT := Lib.hid (fun k (hk : O k) => Nat.lt_of_lt_of_le (HOT.out k hk) hF.size)
  replace HS := Lib.hid (HS.out.took hF HO.out)
  replace HD := Lib.hid hD
  clear hR hD hF
  have HA8 := Lib.hid ((At.new w3 Z4 23).setRow (C := R))
  have HS8 := Lib.hid (PaS.row (HS.out.below ((Below.refl _ _).alloc (Nat.le_refl _) (.cells Z4 23))) (g := w3.heap.size) (by have := HS.out.2.2.2.1.lt; omega) R)
  have HD8 := Lib.hid (DecIs.row (HD.out.below ((Below.refl _ _).alloc (Nat.le_refl _) (.cells Z4 23))) (g := w3.heap.size) (fun c => by have := HOT.out _ c; omega) R)
  have HO8 := Lib.hid (fun k (hk : O k) => (show k < w3.heap.size from HOT.out k hk))
  have HS3 := Lib.hid (show w.heap.size + 2 < w3.heap.size from HS.out.2.2.2.1.lt)
  have HSZ := Lib.hid (show w3.heap.size < ((w3.alloc (.cells Z4 23)).setRow w3.heap.size R).heap.size by rw [size_setRow]; simp)
  go_wp2_with (refine wpList_store_row rfl 23 _ _ rfl w3.heap.size R rfl rfl _ _ (At.new w3 Z4 23) HIR.out (by rw [HZ4.out, HR3.out.1]) HR3.out.2.1 ?_)
  clear HS HD HOT
  revert HA8 HS8 HD8 HSZ
  generalize World.setRow _ _ _ = W
  intro HA8 HS8 HD8 HSZ
  have hb9 : w.heap.size + 2 < w3.heap.size := HS3.out
  obtain ⟨b8, hb8⟩ : ∃ b8, w3.heap.size = b8 := ⟨_, rfl⟩
  rw [hb8] at HA8 HO8 HSZ hb9 ⊢
  clear hb8 HS3 w3
  obtain ⟨d1, d2⟩ := dL_ok (byteF s) 4
  obtain ⟨u1, u2⟩ := dt_used_bd d1 (by omega)
  obtain ⟨m1, m2⟩ := rmS_bd (byteF s) n
  have HM := Lib.hid (show Sp.rm n (dL (byteF s) 4).used = rmS (byteF s) n from rfl)
  obtain ⟨u, hu⟩ : ∃ u, (dL (byteF s) 4).used = u := ⟨_, rfl⟩
  obtain ⟨m, hm⟩ : ∃ m, rmS (byteF s) n = m := ⟨_, rfl⟩
  rw [hu] at u1 u2 HM
  rw [hm] at m1 m2 HM
  have HU := Lib.hid hu
  have HMM := Lib.hid hm
  clear hu hm
  go_wp2_with fail
  refine (decUsed_as _ b O s _ u HD8.out d1 (by omega) HU.out).mono ?_
  rintro e w4 ⟨rfl, hb⟩
  replace HS8 := Lib.hid (HS8.out.below hb)
  replace HD8 := Lib.hid (HD8.out.below hb)
  replace HA8 := Lib.hid (HA8.out.below hb HA8.out.lt)
  replace HSZ := Lib.hid (Nat.lt_of_lt_of_le HSZ.out hb.size)
  clear hb W HU
  go_wp2_with fail
  refine (Sp.room_any n u _ (by omega)).mono ?_
  rw [HM.out]
  rintro e w5 ⟨rfl, rfl⟩
  clear HM u1 u2
  have HPU := Lib.hid (fun w' (hT : Lv.Tab w') => Sp.pulses_yes R (lB (byteF s) L) m w' HR3.out (lB_ok _ _) m1 m2 hT)
  have HKS := Lib.hid (show ∀ i, Sp.given (lB (byteF s) L) m i = kS (byteF s) L n i by rw [← HMM.out]; exact fun _ => rfl)
  clear m1 m2 HMM
  go_wp2_with fail
  refine mv_startS (fun w' => At w' b8 R 23) HA8.out fun hS => ?_
  refine mv_yield (i := 0) (d := 31) (.agg R) rfl rfl (by kernel_rfl) (by kernel_rfl) (by kernel_rfl) hS (y_loadS (by rfl) rfl rfl (fun _ h => h) Tryz.underlying23 HIR.out) ?_
  simp only [Act.put, List.setIfInBounds_toArray, List.set_cons_zero, List.set_cons_succ]
  refine mv_yield (i := 1) (d := 32) (.agg R) rfl rfl (by kernel_rfl) (by kernel_rfl) (by kernel_rfl) hS (y_loadS (by rfl) rfl rfl (fun _ h => h) Tryz.underlying23 HIR.out) ?_
  simp only [Act.put, List.setIfInBounds_toArray, List.set_cons_zero, List.set_cons_succ]
  refine mv_yield (i := 2) (d := 33) (.agg R) rfl rfl (by kernel_rfl) (by kernel_rfl) (by kernel_rfl) hS (y_loadS (by rfl) rfl rfl (fun _ h => h) Tryz.underlying23 HIR.out) ?_
  simp only [Act.put, List.setIfInBounds_toArray, List.set_cons_zero, List.set_cons_succ]
  refine mv_yield (i := 3) (d := 34) (.int .i64 m) rfl rfl (by kernel_rfl) (by kernel_rfl) (by kernel_rfl) hS (y_run (by rfl) fun _ => by rfl) ?_
  simp only [Act.put, List.setIfInBounds_toArray, List.set_cons_zero, List.set_cons_succ]
  refine mv_yield (i := 5) (d := 36) (.pointer (some ⟨b, 0, none⟩)) rfl rfl (by kernel_rfl) (by kernel_rfl) (by kernel_rfl) hS (y_run (by rfl) fun _ => by rfl) ?_
  simp only [Act.put, List.setIfInBounds_toArray, List.set_cons_zero, List.set_cons_succ]
  refine mv_yield (i := 6) (d := 37) (.func (.func 87) #[.pointer (some ⟨b, 0, none⟩)] #[]) rfl rfl (by kernel_rfl) (by kernel_rfl) (by kernel_rfl) hS (y_func (by rfl) rfl rfl) ?_
  simp only [Act.put, List.setIfInBounds_toArray, List.set_cons_zero, List.set_cons_succ]
  refine mv_ready [4] (by kernel_rfl) (by simp) (ar_callE (i := 4) (d := 35) (R := fun v w' => (∃ T, v = .agg T ∧ IsRow 4 (fun i => (kS (byteF s) L n i : Int)) T) ∧ Below w4.drew.heap.size w4.drew w') #[.agg R, .int .i64 m] rfl rfl (by rfl) rfl enter_pulses (by kernel_rfl)
    ((HPU.out _ (HS8.out.2.2.2.2.1.next (Below.refl _ _).drew)).mono fun e w' ⟨⟨T, he, hT⟩, hb⟩ => ⟨_, he, ⟨T, rfl, hT.ext fun i _ => by rw [HKS.out i]⟩, hb⟩) (fun v w' h => hS.below h.2 hS.lt) ?_ AllReadyH.nil)
  rintro v w5 ⟨⟨K, rfl, hK⟩, hb⟩ hS5
  simp only [Act.put, List.setIfInBounds_toArray, List.set_cons_zero, List.set_cons_succ]
  have hb' : Below w4.heap.size w4 w5 := ⟨hb.os, hb.tape, hb.output, hb.size, hb.block⟩
  have HK := Lib.hid hK
  replace HS8 := Lib.hid (HS8.out.below hb')
  replace HD8 := Lib.hid (HD8.out.below hb')
  replace HSZ := Lib.hid (Nat.lt_of_lt_of_le HSZ.out hb'.size)
  clear hb hb' hK hS HPU HKS HA8
  have HTW := Lib.hid (takeWaves_as R K (lB (byteF s) L) (kS (byteF s) L n) b O s (dL (byteF s) 4) w5 HR3.out HK.out (kS_le _ _ _) HD8.out (fun k hk => Nat.lt_trans (HO8.out k hk) HSZ.out) (fun c => by have := HO.out _ c; have := HS8.out.2.2.2.2.2; omega) d1 (by omega) (by have := HSN.out; omega) HS8.out.2.2.2.2.1)
  refine mv_ready [7] (by kernel_rfl) (by simp) (ar_callE (i := 7) (d := 38) (R := fun v w' => (∃ T, v = .agg T ∧ IsRow 16 (wB (byteF s) L n) T) ∧ Fr O w5 w') #[.agg R, .agg K, .func (.func 87) #[.pointer (some ⟨b, 0, none⟩)] #[]] rfl rfl (by rfl) rfl enter_takeWaves (by kernel_rfl)
    (HTW.out.mono fun e w' ⟨⟨T, he, hT⟩, _, hf⟩ => ⟨_, he, ⟨T, rfl, hT⟩, hf⟩) (fun v w' h => hS5.fr h.2 fun c => by have := HO8.out _ c; omega) ?_ AllReadyH.nil)
  rintro v w6 ⟨⟨U, rfl, hU⟩, hf⟩ hS6
  simp only [Act.put, List.setIfInBounds_toArray, List.set_cons_zero, List.set_cons_succ]
  have HU := Lib.hid hU
  have HIU := Lib.hid (HIB.out U hU.1)
  replace HS8 := Lib.hid (HS8.out.took hf HO.out)
  have hne1 : b8 ≠ w.heap.size + 1 := by omega
  have hne2 : b8 ≠ w.heap.size + 2 := by omega
  clear hf hS5 HTW HD8 hU HSZ
  refine mv_ready [8] (by kernel_rfl) (by simp) (ar_store (i := 8) (w.heap.size + 1) R Z4 rfl rfl (by rfl) rfl rfl rfl HS8.out.2.2.1 (by rw [HZ4.out, HR3.out.1]) HR3.out.2.1 HIR.out (hS6.setRow_other hne1) (fun hS7 => ?_) AllReadyH.nil)
  have HS9 := Lib.hid (HS8.out.set1 R)
  clear HS8 hS6
  refine mv_ready [9] (by kernel_rfl) (by simp) (ar_store (i := 9) (w.heap.size + 2) U Zb rfl rfl (by rfl) rfl rfl rfl HS9.out.2.2.2.1 (by rw [HZB.out, HU.out.1]) HU.out.2.1 HIU.out (hS7.setRow_other hne2) (fun hS8 => ?_) AllReadyH.nil)
  have HS10 := Lib.hid (HS9.out.set2 U)
  clear HS9 hS7
  refine mv_yield (i := 10) (d := 6) (.int .i64 0) rfl rfl (by kernel_rfl) (by kernel_rfl) (by kernel_rfl) hS8 (y_run (by rfl) fun _ => by rfl) ?_
  simp only [Act.put, List.setIfInBounds_toArray, List.set_cons_zero, List.set_cons_succ]
  refine mv_done (by kernel_rfl) ?_
  clear hS8
  go_wp2
  exact bodyPost_ret (v := .tuple #[.agg R, .agg U, .int .i64 0]) (results_two_int rfl _ _ (w.heap.size + 1) (w.heap.size + 2) R U _ _ rfl rfl rfl HS10.out.2.2.1 HS10.out.2.2.2.1 Tryz.underlying23 rfl HIR.out Tryz.underlying32 rfl HIU.out) rfl ⟨⟨R, U, rfl, HR3.out, HU.out⟩, HS10.out.1⟩
end Go.Proofs.YtfohinlldchdpaaGreatDoor.De
end

section
/- Contracts of dec's Decode. -/
set_option maxRecDepth 100000
set_option linter.unusedVariables false
namespace Go.Proofs.YtfohinlldchdpaaGreatDoor.De
open Go.RowKit Go.Proofs.YtfohinlldchdpaaGreatDoor.Row Go.Proofs.YtfohinlldchdpaaGreatDoor.Rg Go.Proofs.YtfohinlldchdpaaGreatDoor.Sta

theorem th_lev {v u : Nat → Int} (hv : Sp.okL v) (hu : ∀ i, -1048576 ≤ u i ∧ u i ≤ 1048576) : Rt (thF v u 0) := by
  refine ⟨fun i hi => ?_, ?_, fun i hi => ?_, fun i hi => ?_, ?_⟩
  · unfold thF; rw [stF_mem _ _ _ _ _ hi]; omega
  · unfold thF; rw [stF_last]; omega
  · unfold thF; rw [stF_lev _ _ _ _ _ hi]; exact hv i hi
  · have := hu i
    have e : thF v u 0 (21 + i) = u i := by unfold thF; exact stF_wav _ _ _ _ _ hi
    show Md.ab (thF v u 0 (21 + i)) ≤ _
    rw [e]
    exact Md.ab_le (by omega) (by omega)
  · unfold thF; rw [stF_lost]; omega

/-- A block, a state, and how it went. -/
def RetD (w : World) (h g : Nat → Int) (z : Int) (e : Ending) (w' : World) : Prop := (∃ R Q, e = .returned (.tuple #[.agg R, .agg Q, .int .i64 z]) ∧ IsRow 16 h R ∧ IsRow 38 g Q) ∧ Below w.heap.size w w'

/-- What stands while Decode works. -/
def DcS (w : World) (T A B : Array Value) (w' : World) : Prop :=
  Below w.heap.size w w' ∧ At w' w.heap.size T 34 ∧ At w' (w.heap.size + 1) A 32 ∧ At w' (w.heap.size + 2) B 34 ∧ Lv.Tab w' ∧ 0 < w.heap.size
theorem DcS.start (w : World) (T A B : Array Value) (hT : Lv.Tab w) : DcS w T A B (((w.alloc (.cells T 34)).alloc (.cells A 32)).alloc (.cells B 34)) := by
  have a1 := At.new (w.alloc (.cells T 34)) A 32
  have a2 := At.new ((w.alloc (.cells T 34)).alloc (.cells A 32)) B 34
  simp only [World.size_alloc] at a1 a2
  have hb : Below w.heap.size w (((w.alloc (.cells T 34)).alloc (.cells A 32)).alloc (.cells B 34)) := (((Below.refl _ _).alloc (Nat.le_refl _) _).alloc (by simp) _).alloc (by simp; omega) _
  exact ⟨hb, ((At.new w T 34).alloc _).alloc _, a1.alloc _, a2, hT.next hb, hT.lt⟩
theorem DcS.below {w w1 w2 : World} {T A B : Array Value} (h : DcS w T A B w1) (hb : Below w1.heap.size w1 w2) : DcS w T A B w2 := by
  obtain ⟨h1, h2, h3, h4, h5, h6⟩ := h
  exact ⟨below_trans h1 hb h1.size, h2.below hb h2.lt, h3.below hb h3.lt, h4.below hb h4.lt, h5.next hb, h6⟩
theorem DcS.set1 {w w1 : World} {T A B : Array Value} (h : DcS w T A B w1) (C : Array Value) : DcS w T C B (w1.setRow (w.heap.size + 1) C) := by
  obtain ⟨h1, h2, h3, h4, h5, h6⟩ := h
  exact ⟨below_setRow' h1 (by omega) _, h2.setRow_other (by omega), h3.setRow, h4.setRow_other (by omega), Tab.row h5 (by omega) _, h6⟩
theorem DcS.set2 {w w1 : World} {T A B : Array Value} (h : DcS w T A B w1) (C : Array Value) : DcS w T A C (w1.setRow (w.heap.size + 2) C) := by
  obtain ⟨h1, h2, h3, h4, h5, h6⟩ := h
  exact ⟨below_setRow' h1 (by omega) _, h2.setRow_other (by omega), h3.setRow_other (by omega), h4.setRow, Tab.row h5 (by omega) _, h6⟩

theorem decode_size (T : Array Value) (f : Nat → Int) (B : ByteArray) (n : Nat) (w : World) (hR : IsRow 38 f T) (hn : B.size = n) (h : ¬ (10 ≤ n ∧ n ≤ 32)) (hm : n ≤ maxLen) (hT : Lv.Tab w) :
    Calls Tryz.prog 16 #[.agg T, .string B] w (RetD w (fun _ => 0) (fun _ => 0) 10) := by
  obtain ⟨Zp, hZp, _, hzp, hip⟩ := zero_p
  obtain ⟨Zb, hZb, _, hzb, hib⟩ := zero_b
  obtain ⟨D, hD, bD⟩ := built_b
  obtain ⟨G, hG, bG⟩ := built_0 isSt_p
  have HS := Lib.hid (DcS.start w T Zb Zp hT)
  have HD := Lib.hid hD
  have HBD := Lib.hid bD
  have HG := Lib.hid hG
  have HBG := Lib.hid bG
  have HIP := Lib.hid hip
  have HIB := Lib.hid hib
  have HZP := Lib.hid hZp.1
  have HZB := Lib.hid hZb.1
  have HN := Lib.hid h
  clear hT hD bD hG bG hip hib hZp hZb h hR
  go_enter Tryz.func16, Tryz.ntmps16
  go_wp2_with fail
  refine (isSize_no n _ HN.out).mono ?_
  rintro e w1 ⟨rfl, rfl⟩
  go_wp2_with (first
    | refine wpList_build_parts (by rfl) 34 [] rfl _ rfl HBG.out ?_
    | refine wpList_build_parts (by rfl) 32 [] rfl _ rfl HBD.out ?_
    | (refine wpList_store_row rfl 32 _ _ rfl (w.heap.size + 1) D rfl rfl _ _ HS.out.2.2.1 (HIB.out _ HD.out.1) (by rw [HZB.out, HD.out.1]) HD.out.2.1 ?_
       have HS1 := Lib.hid (HS.out.set1 D)
       clear HS
       revert HS1
       generalize World.setRow _ _ _ = W
       intro HS1)
    | (refine wpList_store_row rfl 34 _ _ rfl (w.heap.size + 2) G rfl rfl _ _ HS1.out.2.2.2.1 (HIP.out _ HG.out.1) (by rw [HZP.out, HG.out.1]) HG.out.2.1 ?_
       have HS2 := Lib.hid (HS1.out.set2 G)
       clear HS1
       revert HS2
       generalize World.setRow _ _ _ = W
       intro HS2))
  exact bodyPost_ret (v := .tuple #[.agg D, .agg G, .int .i64 10]) (results_two_int rfl _ _ (w.heap.size + 1) (w.heap.size + 2) D G _ _ rfl rfl rfl HS2.out.2.2.1 HS2.out.2.2.2.1 Tryz.underlying32 rfl (HIB.out _ HD.out.1) Tryz.underlying34 rfl (HIP.out _ HG.out.1)) rfl ⟨⟨D, G, rfl, HD.out, HG.out⟩, HS2.out.1⟩

theorem decode_no (T : Array Value) (f : Nat → Int) (B : ByteArray) (n : Nat) (w : World) (hR : IsRow 38 f T) (hn : B.size = n) (h : 10 ≤ n ∧ n ≤ 32) (hr : ¬ Rt f) (hT : Lv.Tab w) :
    Calls Tryz.prog 16 #[.agg T, .string B] w (RetD w (fun _ => 0) (fun _ => 0) 1) := by
  obtain ⟨Zp, hZp, _, hzp, hip⟩ := zero_p
  obtain ⟨Zb, hZb, _, hzb, hib⟩ := zero_b
  obtain ⟨D, hD, bD⟩ := built_b
  obtain ⟨G, hG, bG⟩ := built_0 isSt_p
  have HS := Lib.hid (DcS.start w T Zb Zp hT)
  have HD := Lib.hid hD
  have HBD := Lib.hid bD
  have HG := Lib.hid hG
  have HBG := Lib.hid bG
  have HIP := Lib.hid hip
  have HIB := Lib.hid hib
  have HZP := Lib.hid hZp.1
  have HZB := Lib.hid hZb.1
  have HN := Lib.hid h
  have HR := Lib.hid hR
  have HL := Lib.hid (fun w' => right_no T f w' hR hr)
  clear hT hD bD hG bG hip hib hZp hZb h hR hr
  go_enter Tryz.func16, Tryz.ntmps16
  go_wp2_with fail
  refine (isSize_yes n _ HN.out.1 HN.out.2).mono ?_
  rintro e w1 ⟨rfl, rfl⟩
  go_wp2_with (refine wpList_load_all (by rfl) 34 _ rfl w.heap.size rfl HR.out HS.out.2.1 Tryz.underlying34 rfl HIP.out ?_)
  refine (HL.out _).mono ?_
  rintro e w1 ⟨rfl, hb⟩
  replace HS := Lib.hid (HS.out.below hb)
  clear hb HL
  go_wp2_with (first
    | refine wpList_build_parts (by rfl) 34 [] rfl _ rfl HBG.out ?_
    | refine wpList_build_parts (by rfl) 32 [] rfl _ rfl HBD.out ?_
    | (refine wpList_store_row rfl 32 _ _ rfl (w.heap.size + 1) D rfl rfl _ _ HS.out.2.2.1 (HIB.out _ HD.out.1) (by rw [HZB.out, HD.out.1]) HD.out.2.1 ?_
       have HS1 := Lib.hid (HS.out.set1 D)
       clear HS
       revert HS1
       generalize World.setRow _ _ _ = W
       intro HS1)
    | (refine wpList_store_row rfl 34 _ _ rfl (w.heap.size + 2) G rfl rfl _ _ HS1.out.2.2.2.1 (HIP.out _ HG.out.1) (by rw [HZP.out, HG.out.1]) HG.out.2.1 ?_
       have HS2 := Lib.hid (HS1.out.set2 G)
       clear HS1
       revert HS2
       generalize World.setRow _ _ _ = W
       intro HS2))
  exact bodyPost_ret (v := .tuple #[.agg D, .agg G, .int .i64 1]) (results_two_int rfl _ _ (w.heap.size + 1) (w.heap.size + 2) D G _ _ rfl rfl rfl HS2.out.2.2.1 HS2.out.2.2.2.1 Tryz.underlying32 rfl (HIB.out _ HD.out.1) Tryz.underlying34 rfl (HIP.out _ HG.out.1)) rfl ⟨⟨D, G, rfl, HD.out, HG.out⟩, HS2.out.1⟩

/-- The sound of a packet, and the state then. -/
noncomputable def soD (F : Nat → Nat) (f : Nat → Int) (n : Nat) : Nat → Int := soF f (wB F (fun i => f (17 + i)) n)
noncomputable def nxD (F : Nat → Nat) (f : Nat → Int) (n : Nat) : Nat → Int := nxF f (lB F fun i => f (17 + i)) (wB F (fun i => f (17 + i)) n) 0

set_option maxHeartbeats 2000000 in
theorem decode_yes (T : Array Value) (f : Nat → Int) (B : ByteArray) (s : List UInt8) (n : Nat) (w : World) (hR : IsRow 38 f T) (hs : ⟨s.toArray⟩ = B) (hn : B.size = n) (h : 10 ≤ n ∧ n ≤ 32) (hr : Rt f) (hT : Lv.Tab w) :
    Calls Tryz.prog 16 #[.agg T, .string B] w (RetD w (soD (byteF s) f n) (nxD (byteF s) f n) 0) := by
  obtain ⟨Zp, hZp, _, hzp, hip⟩ := zero_p
  obtain ⟨Zb, hZb, _, hzb, hib⟩ := zero_b
  obtain ⟨Z4, hZ4, _, hz4, hi4⟩ := zero_4
  have HS := Lib.hid (DcS.start w T Zb Zp hT)
  have HIP := Lib.hid hip
  have HIB := Lib.hid hib
  have HI4 := Lib.hid hi4
  have HZP := Lib.hid hZp.1
  have HZB := Lib.hid hZb.1
  have HZ4 := Lib.hid hZ4.1
  have HN := Lib.hid h
  have HR := Lib.hid hR
  have HRT := Lib.hid hr
  have HL := Lib.hid (fun w' => right_yes T f w' hR hr)
  have HV := Lib.hid (hR.sub (show 17 + 4 ≤ 38 by omega))
  obtain ⟨V, hV⟩ : ∃ M, T.extract 17 (17 + 4) = M := ⟨_, rfl⟩
  rw [hV] at HV
  have HPA := Lib.hid (fun w' (hT : Lv.Tab w') => parts_yes V (fun i => f (17 + i)) B s n w' HV.out hs hn h hr.2.2.1 hT)
  have HTH := Lib.hid (th_lev (lB_ok (byteF s) fun i => f (17 + i)) (wB_le (byteF s) (fun i => f (17 + i)) n))
  clear hT hip hib hi4 hZp hZb hZ4 h hR hr hV hs
  go_enter Tryz.func16, Tryz.ntmps16
  go_wp2_with fail
  refine (isSize_yes n _ HN.out.1 HN.out.2).mono ?_
  rintro e w1 ⟨rfl, rfl⟩
  go_wp2_with (refine wpList_load_all (by rfl) 34 _ rfl w.heap.size rfl HR.out HS.out.2.1 Tryz.underlying34 rfl HIP.out ?_)
  refine (HL.out _).mono ?_
  rintro e w1 ⟨rfl, hb⟩
  replace HS := Lib.hid (HS.out.below hb)
  clear hb HL
  go_wp2_with (refine wpList_load_part (by rfl) 23 _ rfl w.heap.size 17 rfl HR.out HS.out.2.1 HV.out (by omega) (fun i _ => rfl) Tryz.underlying23 rfl (HI4.out _ HV.out.1) ?_)
  refine (HPA.out _ HS.out.2.2.2.2.1).mono ?_
  rintro e w2 ⟨⟨R, U, rfl, hR2, hU2⟩, hb⟩
  have HR2 := Lib.hid hR2
  have HU2 := Lib.hid hU2
  replace HS := Lib.hid (HS.out.below hb)
  have HNX := Lib.hid (fun w' => next_yes T R U f _ _ 0 HR.out hR2 hU2 HRT.out HTH.out w')
  clear hR2 hU2 hb HPA
  have HU := Lib.hid (Duo.start (Below.refl w2.heap.size w2) Z4 Zb 23 32)
  go_wp2_with (first
    | (refine wpList_store_row rfl 23 _ _ rfl w2.heap.size R rfl rfl _ _ HU.out.2.2.1 (HI4.out _ HR2.out.1) (by rw [HZ4.out, HR2.out.1]) HR2.out.2.1 ?_
       replace HU := Lib.hid (HU.out.set1 R)
       revert HU
       generalize World.setRow _ _ _ = W4
       intro HU)
    | (refine wpList_store_row rfl 32 _ _ rfl (w2.heap.size + 1) U rfl rfl _ _ HU.out.2.2.2 (HIB.out _ HU2.out.1) (by rw [HZB.out, HU2.out.1]) HU2.out.2.1 ?_
       replace HU := Lib.hid (HU.out.set2 U)
       have HS5 := Lib.hid (HS.out.below HU.out.1)
       clear HS
       revert HU HS5
       generalize World.setRow _ _ _ = W5
       intro HU HS5)
    | refine wpList_load_all (by rfl) 34 _ rfl w.heap.size rfl HR.out HS5.out.2.1 Tryz.underlying34 rfl HIP.out ?_
    | refine wpList_load_all (by rfl) 23 _ rfl w2.heap.size rfl HR2.out HU.out.2.2.1 Tryz.underlying23 rfl HI4.out ?_
    | refine wpList_load_all (by rfl) 32 _ rfl (w2.heap.size + 1) rfl HU2.out HU.out.2.2.2 Tryz.underlying32 rfl HIB.out ?_)
  refine (HNX.out _).mono ?_
  rintro e w6 ⟨⟨X, Y, rfl, hX, hY⟩, hb⟩
  have HX := Lib.hid hX
  have HY := Lib.hid hY
  have HS6 := Lib.hid (HS5.out.below hb)
  clear hX hY hb HU HS5 HNX HR2 HU2
  have HV6 := Lib.hid (Duo.start (Below.refl w6.heap.size w6) Zb Zp 32 34)
  go_wp2_with (first
    | (refine wpList_store_row rfl 32 _ _ rfl w6.heap.size X rfl rfl _ _ HV6.out.2.2.1 (HIB.out _ HX.out.1) (by rw [HZB.out, HX.out.1]) HX.out.2.1 ?_
       replace HV6 := Lib.hid (HV6.out.set1 X)
       revert HV6
       generalize World.setRow _ _ _ = W4
       intro HV6)
    | (refine wpList_store_row rfl 34 _ _ rfl (w6.heap.size + 1) Y rfl rfl _ _ HV6.out.2.2.2 (HIP.out _ HY.out.1) (by rw [HZP.out, HY.out.1]) HY.out.2.1 ?_
       replace HV6 := Lib.hid (HV6.out.set2 Y)
       have HS7 := Lib.hid (HS6.out.below HV6.out.1)
       have HLT := Lib.hid (HS6.out.2.2.2.1.lt)
       clear HS6
       revert HV6 HS7
       generalize World.setRow _ _ _ = W5
       intro HV6 HS7))
  have hlt := HLT.out
  obtain ⟨g, hg⟩ : ∃ g, w6.heap.size = g := ⟨_, rfl⟩
  have A1 := Lib.hid HV6.out.2.2.1
  have A2 := Lib.hid HV6.out.2.2.2
  rw [hg] at A1 A2 hlt ⊢
  clear hg HV6 HLT w6
  have HIX := Lib.hid (HIB.out X HX.out.1)
  have HIY := Lib.hid (HIP.out Y HY.out.1)
  refine mv_startS (fun w' => At w' g X 32 ∧ At w' (g + 1) Y 34) ⟨A1.out, A2.out⟩ fun hS => ?_
  refine mv_yield (i := 0) (d := 38) (.agg X) rfl rfl (by kernel_rfl) (by kernel_rfl) (by kernel_rfl) hS (y_load_part (l := 0) (by rfl) rfl rfl HX.out (fun _ h => h.1) HX.out (by omega) (fun i _ => by rw [Nat.zero_add]) Tryz.underlying32 rfl HIX.out) ?_
  simp only [Act.put, List.setIfInBounds_toArray, List.set_cons_zero, List.set_cons_succ]
  refine mv_yield (i := 1) (d := 39) (.agg Y) rfl rfl (by kernel_rfl) (by kernel_rfl) (by kernel_rfl) hS (y_load_part (l := 0) (by rfl) rfl rfl HY.out (fun _ h => h.2) HY.out (by omega) (fun i _ => by rw [Nat.zero_add]) Tryz.underlying34 rfl HIY.out) ?_
  simp only [Act.put, List.setIfInBounds_toArray, List.set_cons_zero, List.set_cons_succ]
  have HS8 := Lib.hid (show DcS w T Zb Zp W5.drew from ⟨HS7.out.1.drew, HS7.out.2⟩)
  clear HS7
  refine mv_ready [2] (by kernel_rfl) (by simp) (ar_store (i := 2) (w.heap.size + 1) X Zb rfl rfl (by rfl) rfl rfl rfl HS8.out.2.2.1 (by rw [HZB.out, HX.out.1]) HX.out.2.1 HIX.out ⟨hS.1.setRow_other (by omega), hS.2.setRow_other (by omega)⟩ (fun hS7 => ?_) AllReadyH.nil)
  have HS9 := Lib.hid (HS8.out.set1 X)
  clear HS8 hS
  refine mv_ready [3] (by kernel_rfl) (by simp) (ar_store (i := 3) (w.heap.size + 2) Y Zp rfl rfl (by rfl) rfl rfl rfl HS9.out.2.2.2.1 (by rw [HZP.out, HY.out.1]) HY.out.2.1 HIY.out ⟨hS7.1.setRow_other (by omega), hS7.2.setRow_other (by omega)⟩ (fun hS8 => ?_) AllReadyH.nil)
  have HS10 := Lib.hid (HS9.out.set2 Y)
  clear HS9 hS7
  refine mv_yield (i := 4) (d := 6) (.int .i64 0) rfl rfl (by kernel_rfl) (by kernel_rfl) (by kernel_rfl) hS8 (y_run (by rfl) fun _ => by rfl) ?_
  simp only [Act.put, List.setIfInBounds_toArray, List.set_cons_zero, List.set_cons_succ]
  refine mv_done (by kernel_rfl) ?_
  clear hS8
  go_wp2
  exact bodyPost_ret (v := .tuple #[.agg X, .agg Y, .int .i64 0]) (results_two_int rfl _ _ (w.heap.size + 1) (w.heap.size + 2) X Y _ _ rfl rfl rfl HS10.out.2.2.1 HS10.out.2.2.2.1 Tryz.underlying32 rfl HIX.out Tryz.underlying34 rfl HIY.out) rfl ⟨⟨X, Y, rfl, HX.out, HY.out⟩, HS10.out.1⟩
end Go.Proofs.YtfohinlldchdpaaGreatDoor.De
end

section
/- A row of frames as mathematics: the encoder behind each, their packets; a decoder is in step; nothing stays nothing, sound dies away. -/
set_option maxRecDepth 100000
set_option linter.unusedVariables false
namespace Go.Proofs.YtfohinlldchdpaaGreatDoor.En
open Go.RowKit Go.Proofs.YtfohinlldchdpaaGreatDoor.Row Go.Proofs.YtfohinlldchdpaaGreatDoor.Rg Go.Proofs.YtfohinlldchdpaaGreatDoor.Md Go.Proofs.YtfohinlldchdpaaGreatDoor.Tl Go.Proofs.YtfohinlldchdpaaGreatDoor.Sta

/-- A frame's packet, and the encoder then. -/
def pkt (f b : Nat → Int) (m : Nat) : List UInt8 := pkE (lvA f) (lvE f b) (wvE f b) m
/-- The state in an encoder. -/
def stE (f : Nat → Int) (i : Nat) : Int := f (17 + i)
noncomputable def nxE (f b : Nat → Int) (m : Nat) : Nat → Int := enF (liS (f 16) b) (ct22 (b 15)) (De.nxD (byteF (pkt f b m)) (stE f) m)
theorem nx_st (f b : Nat → Int) (m : Nat) : stE (nxE f b m) = De.nxD (byteF (pkt f b m)) (stE f) m := by
  funext i
  exact enF_state _ _ _ i
theorem dec_right (F : Nat → Nat) (f : Nat → Int) (m : Nat) : Rt (De.nxD F f m) :=
  nx_right (De.th_lev (De.lB_ok F fun i => f (17 + i)) (De.wB_le F (fun i => f (17 + i)) m))
theorem nx_re {f b : Nat → Int} {m : Nat} (hf : Re f) (hb : Snd b) : Re (nxE f b m) := by
  refine ⟨fun i hi => ?_, ?_, ?_⟩
  · unfold nxE; rw [enF_prev _ _ _ hi]
    have := li_small hf.2.1 hb i hi
    omega
  · unfold nxE; rw [enF_last]
    have := hb 15 (by omega)
    rw [ct22_in (by omega) (by omega)]; exact this
  · have := nx_st f b m
    show Rt (stE (nxE f b m))
    rw [this]; exact dec_right _ _ _
theorem pkt_length {f b : Nat → Int} {m : Nat} (hf : Re f) (h1 : 10 ≤ m) (h2 : m ≤ 32) : (pkt f b m).length = m := pkE_length (lvA_ok hf) (lvE_ok _ _) _ h1 h2

/-- Behind k frames of a row. -/
noncomputable def enS (F : Nat → Nat → Int) (m : Nat) (f : Nat → Int) : Nat → Nat → Int
  | 0 => f
  | k + 1 => nxE (enS F m f k) (F k) m
noncomputable def pkS (F : Nat → Nat → Int) (m : Nat) (f : Nat → Int) (k : Nat) : List UInt8 := pkt (enS F m f k) (F k) m
theorem enS_re {F : Nat → Nat → Int} {m : Nat} {f : Nat → Int} (hf : Re f) (hF : ∀ i, Snd (F i)) : ∀ k, Re (enS F m f k)
  | 0 => hf
  | k + 1 => nx_re (enS_re hf hF k) (hF k)
theorem enS_st (F : Nat → Nat → Int) (m : Nat) (f : Nat → Int) (k : Nat) : stE (enS F m f (k + 1)) = De.nxD (byteF (pkS F m f k)) (stE (enS F m f k)) m := nx_st _ _ _
theorem re_zero : Re fun _ => 0 := ⟨fun i hi => by dsimp only; omega, by dsimp only; omega, rt_zero⟩

/-! No waves, no levels. -/
theorem lv_no {u : Nat → Int} (hu : ∀ i, i < 16 → u i = 0) {b : Nat} (hb : b < 4) : Lv.lvB u b = 0 := by
  have h := (De.sB_fs b hb)
  have e : Lv.lvB u b = Lv.lvB (fun _ => 0) b := by
    unfold Lv.lvB
    refine Lv.lv_ext _ _ _ fun i hi => ?_
    dsimp only
    rw [hu _ (by omega)]
  rw [e]
  have : ∀ b : Fin 4, Lv.lvB (fun _ => 0) b.val = 0 := by decide +kernel
  exact this ⟨b, hb⟩
section
variable {L l W : Nat → Int} {n : Nat}
theorem wB_none (hL : Sp.okL L) (hl : Sp.okL l) (h0 : ∀ b, b < 4 → l b = 0) : De.wB (fE L l W n) L n = fun _ => 0 := by
  have hk : ∀ b, b < 4 → De.kS (fE L l W n) L n b = 0 := fun b hb => by rw [kS_met hL hl]; exact kE_none (h0 b hb)
  unfold De.wB
  have : ∀ b, b ≤ 4 → De.wW (fE L l W n) (De.lB (fE L l W n) L) (De.kS (fE L l W n) L n) (De.dL (fE L l W n) 4) b = fun _ => 0 := by
    intro b
    induction b with
    | zero => intro _; rfl
    | succ b ih =>
      intro hb
      unfold De.wW
      rw [if_pos (hk b (by omega))]
      exact ih (by omega)
  exact this 4 (Nat.le_refl _)
end
/-- A state that hangs on its four levels and sixteen waves alone. -/
theorem nxF_ext {f v v' u : Nat → Int} {z : Int} (h : ∀ b, b < 4 → v b = v' b) : nxF f v u z = nxF f v' u z := by
  funext k
  unfold nxF stF
  repeat' split
  all_goals first | rfl | exact h _ (by omega)
/-- What a decoder hears of a frame without waves. -/
theorem dec_none {f b : Nat → Int} {m : Nat} (hf : Re f) (hu : ∀ i, i < 16 → wvE f b i = 0) :
    De.nxD (byteF (pkt f b m)) (stE f) m = nxF (stE f) (fun _ => 0) (fun _ => 0) 0 ∧ De.soD (byteF (pkt f b m)) (stE f) m = soF (stE f) (fun _ => 0) := by
  have h0 : ∀ k, k < 4 → lvE f b k = 0 := fun k hk => lv_no hu hk
  have hA := lvA_ok hf
  have hE := lvE_ok f b
  have eA : (fun i => stE f (17 + i)) = lvA f := by
    funext i
    unfold stE lvA
    rw [show 17 + (17 + i) = 34 + i by omega]
  have ew : De.wB (byteF (pkt f b m)) (fun i => stE f (17 + i)) m = fun _ => 0 := by
    unfold pkt
    rw [eA, fE_is]
    exact wB_none hA hE h0
  have el : ∀ k, k < 4 → De.lB (byteF (pkt f b m)) (fun i => stE f (17 + i)) k = (fun _ => 0 : Nat → Int) k := fun k hk => by
    unfold pkt
    rw [eA, fE_is, lB_met hA hE hk]
    exact h0 k hk
  unfold De.nxD De.soD
  rw [ew]
  exact ⟨nxF_ext el, rfl⟩

/-! Frames of nothing. -/
theorem ah_none {z : Int} (k : Nat) : ahS z (fun _ => 0) (k + 1) = 0 := by show ct22 0 = 0; decide
theorem li_none (k : Nat) : liS 0 (fun _ => 0) k = 0 := by
  unfold liS
  have e : ahS 0 (fun _ => 0) k = 0 := by
    cases k with
    | zero => show ct22 0 = 0; decide
    | succ k => exact ah_none k
  rw [e]
  show ct22 0 - prt 0 = 0
  decide
theorem w_none {a b : Nat → Int} (ha : ∀ i, i < 16 → a i = 0) (hb : ∀ i, i < 16 → b i = 0) (k : Nat) : wS a b k = 0 := by
  unfold wS vS
  have h : ∀ m, m ≤ 32 → sum m (fun n => pS a b n * cS n k) = 0 := by
    intro m
    induction m with
    | zero => intro _; rfl
    | succ m ih =>
      intro hm
      show sum m _ + pS a b m * cS m k = 0
      rw [ih (by omega)]
      have e : xs2 a b m = 0 := by
        unfold xs2
        split
        · exact ha m (by omega)
        · exact hb _ (by omega)
      unfold pS
      rw [e, Int.zero_mul, show Ang.near 0 = 0 by decide, Int.zero_mul]; rfl
  rw [h 32 (Nat.le_refl _)]; decide
theorem wv_none {f b : Nat → Int} (hf : ∀ i, i < 16 → f i = 0) (h16 : f 16 = 0) (hb : ∀ i, i < 16 → b i = 0) (k : Nat) : wvE f b k = 0 := by
  unfold wvE
  refine w_none hf (fun i hi => ?_) k
  rw [h16, li_ext (g := fun _ => 0) (n := 16) (fun k hk => hb k hk) i hi]
  exact li_none i

theorem nxF_none : nxF (fun _ => 0) (fun _ => 0) (fun _ => 0) 0 = fun _ => 0 := by
  funext k
  by_cases hk : k < 38
  · exact nx_zero k hk
  · unfold nxF stF
    rw [if_neg (by omega), if_neg (by omega), if_neg (by omega), if_neg (by omega)]
/-- From the zero encoder on nothing stays nothing. -/
theorem nx_none (m : Nat) {b : Nat → Int} (hb : ∀ i, i < 16 → b i = 0) : nxE (fun _ => 0) b m = fun _ => 0 := by
  have hd := (dec_none (f := fun _ => 0) (b := b) (m := m) re_zero fun i hi => wv_none (fun _ _ => rfl) rfl hb i).1
  have e : stE (fun _ => 0) = fun _ => 0 := rfl
  rw [e, nxF_none] at hd
  funext k
  unfold nxE
  rw [e, hd]
  unfold enF
  split
  · rw [li_ext (g := fun _ => 0) (n := 16) (fun k hk => hb k hk) k (by omega)]
    exact li_none k
  · split
    · rw [hb 15 (by omega)]; decide
    · rfl
theorem enS_none {F : Nat → Nat → Int} {m : Nat} (hF : ∀ i j, j < 16 → F i j = 0) : ∀ k, enS F m (fun _ => 0) k = fun _ => 0
  | 0 => rfl
  | k + 1 => by
    show nxE (enS F m (fun _ => 0) k) (F k) m = _
    rw [enS_none hF k]
    exact nx_none m fun i hi => hF k i hi
theorem so_none {b : Nat → Int} {m : Nat} (hb : ∀ i, i < 16 → b i = 0) (i : Nat) (hi : i < 16) : De.soD (byteF (pkt (fun _ => 0) b m)) (stE fun _ => 0) m i = 0 := by
  rw [(dec_none (f := fun _ => 0) (b := b) (m := m) re_zero fun i hi => wv_none (fun _ _ => rfl) rfl hb i).2]
  exact so_zero i hi

/-! Nothing behind sound. -/
section
variable {F : Nat → Nat → Int} {m : Nat} {f : Nat → Int}
theorem en_last (hF : ∀ i j, 1 ≤ i → j < 16 → F i j = 0) {k : Nat} (hk : 2 ≤ k) : enS F m f k 16 = 0 := by
  obtain ⟨k, rfl⟩ : ∃ j, k = j + 1 := ⟨k - 1, by omega⟩
  show nxE (enS F m f k) (F k) m 16 = 0
  unfold nxE
  rw [enF_last, hF k 15 (by omega) (by omega)]; decide
theorem en_prev (hF : ∀ i j, 1 ≤ i → j < 16 → F i j = 0) {k : Nat} (hk : 3 ≤ k) (i : Nat) (hi : i < 16) : enS F m f k i = 0 := by
  obtain ⟨k, rfl⟩ : ∃ j, k = j + 1 := ⟨k - 1, by omega⟩
  show nxE (enS F m f k) (F k) m i = 0
  unfold nxE
  rw [enF_prev _ _ _ hi, en_last hF (k := k) (by omega), li_ext (g := fun _ => 0) (n := 16) (fun j hj => hF k j (by omega) hj) i hi]
  exact li_none i
theorem en_dec (hf : Re f) (hS : ∀ i, Snd (F i)) (hF : ∀ i j, 1 ≤ i → j < 16 → F i j = 0) {k : Nat} (hk : 3 ≤ k) :
    stE (enS F m f (k + 1)) = nxF (stE (enS F m f k)) (fun _ => 0) (fun _ => 0) 0 ∧ De.soD (byteF (pkS F m f k)) (stE (enS F m f k)) m = soF (stE (enS F m f k)) (fun _ => 0) := by
  have h := dec_none (f := enS F m f k) (b := F k) (m := m) (enS_re hf hS k) fun i hi => wv_none (fun j hj => en_prev hF hk j hj) (en_last hF (by omega)) (fun j hj => hF k j (by omega) hj) i
  rw [enS_st]
  exact h
theorem en_mem (hf : Re f) (hS : ∀ i, Snd (F i)) (hF : ∀ i j, 1 ≤ i → j < 16 → F i j = 0) {k : Nat} (hk : 4 ≤ k) (i : Nat) (hi : i < 16) : stE (enS F m f k) i = 0 := by
  obtain ⟨k, rfl⟩ : ∃ j, k = j + 1 := ⟨k - 1, by omega⟩
  rw [(en_dec hf hS hF (k := k) (by omega)).1]
  unfold nxF
  rw [stF_mem _ _ _ _ _ hi, bs_zero _ (by omega), ct_zero]
theorem st_rt (hf : Re f) (hS : ∀ i, Snd (F i)) (k : Nat) : Rt (stE (enS F m f k)) := (enS_re hf hS k).2.2
theorem en_die (hf : Re f) (hS : ∀ i, Snd (F i)) (hF : ∀ i j, 1 ≤ i → j < 16 → F i j = 0) : ∀ j, stE (enS F m f (4 + j)) 16 = dieS (stE (enS F m f 4) 16) (16 * j)
  | 0 => rfl
  | j + 1 => by
    have ih := en_die hf hS hF j
    show stE (enS F m f ((4 + j) + 1)) 16 = _
    rw [(en_dec hf hS hF (k := 4 + j) (by omega)).1]
    unfold nxF
    rw [stF_last, ly_die (fun i hi => en_mem hf hS hF (by omega) i hi) (st_rt hf hS _).2.1 15 (by omega), ih, die_add]
    rfl
theorem die_all {n : Int} (h : -2097152 ≤ n ∧ n ≤ 2097151) {k : Nat} (hk : 320 ≤ k) : dieS n k = 0 := by
  obtain ⟨j, rfl⟩ : ∃ j, k = 320 + j := ⟨k - 320, by omega⟩
  rw [← die_add, dies h, die_zero]
theorem en_quiet (hf : Re f) (hS : ∀ i, Snd (F i)) (hF : ∀ i j, 1 ≤ i → j < 16 → F i j = 0) {k : Nat} (hk : 24 ≤ k) (i : Nat) (hi : i < 16) : De.soD (byteF (pkS F m f k)) (stE (enS F m f k)) m i = 0 := by
  obtain ⟨j, rfl⟩ : ∃ j, k = 4 + j := ⟨k - 4, by omega⟩
  rw [(en_dec hf hS hF (k := 4 + j) (by omega)).2]
  unfold soF
  rw [ly_die (fun i hi => en_mem hf hS hF (by omega) i hi) (st_rt hf hS _).2.1 i hi, en_die hf hS hF, die_add, die_all (st_rt hf hS 4).2.1 (by omega)]
  decide
end
end Go.Proofs.YtfohinlldchdpaaGreatDoor.En
end
