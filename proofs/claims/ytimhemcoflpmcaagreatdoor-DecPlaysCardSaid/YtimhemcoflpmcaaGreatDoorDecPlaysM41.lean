/- Texts of the walk, one behind the other. -/
import Derived.Test.YtimhemcoflpmcaaGreatDoorDecPlaysM30
import Derived.Test.YtimhemcoflpmcaaGreatDoorDecPlaysM39

section
/- Contracts of dec's Parts. -/
set_option maxRecDepth 100000
set_option linter.unusedVariables false
namespace Go.Proofs.YtimhemcoflpmcaaGreatDoor.De
open Go.RowKit Go.Proofs.YtimhemcoflpmcaaGreatDoor.Row Go.Proofs.YtimhemcoflpmcaaGreatDoor.Rg Go.Proofs.YtimhemcoflpmcaaGreatDoor.Sta

/-- Two rows and a number as results. -/
theorem results_two_int {fn : Func} {p q r : Tmp} {t u t' u' : TypeId} {z : Value} (h : fn.results = #[.cell p t, .cell q u, .tmp r]) (tmps : Array Value) (w : World) (g k : Nat) (A B : Array Value) (d d' : TypeDesc)
    (hp : tmps.getD p undef = .pointer (some ⟨g, 0, none⟩)) (hq : tmps.getD q undef = .pointer (some ⟨k, 0, none⟩)) (hr : tmps.getD r undef = z) (hg : At w g A t') (hk : At w k B u')
    (hu : Tryz.prog.underlying t = some d) (hd : d.isRow = true) (hA : (Tryz.prog.info? t).map (·.size) = some A.size)
    (hu' : Tryz.prog.underlying u = some d') (hd' : d'.isRow = true) (hB : (Tryz.prog.info? u).map (·.size) = some B.size) :
    (results fn tmps).run Tryz.prog w = .ok (.tuple #[.agg A, .agg B, z]) w := by
  have hp' : tmps[p]?.getD undef = .pointer (some ⟨g, 0, none⟩) := by simpa using hp
  have hq' : tmps[q]?.getD undef = .pointer (some ⟨k, 0, none⟩) := by simpa using hq
  have hr' : tmps[r]?.getD undef = z := by simpa using hr
  have h1 := run_loadVar_row w g t' t A (0, 0) _ hg hu (by cases d <;> first | rfl | cases hd) hA
  have h2 := run_loadVar_row w k u' u B (0, 0) _ hk hu' (by cases d' <;> first | rfl | cases hd') hB
  simp [results, h, hp', hq', hr', asAddr, h1, h2]

section
variable {ops : Array Oper} {S : World → Prop} {oi : Oper} {a : Act}
/-- A method taken as a function. -/
theorem y_func {f : FuncId} {y : Operand} {v : Value} (hw : Region.wanted oi (yielded ops a.tmps) = true) (ho : oi.op = .makeFunc (.func f) #[y] #[]) (hy : a.eval y = v) : YieldsIf Tryz.prog ops S oi (.func (.func f) #[v] #[]) a :=
  y_run hw fun w => by
    subst hy
    unfold execOp
    simp only [ho, List.map_toArray, List.map_cons, List.map_nil]
    rfl
end

/-- Levels, waves, and how it went. -/
def RetP (w : World) (l u : Nat → Int) (z : Int) (e : Ending) (w' : World) : Prop := (∃ R U, e = .returned (.tuple #[.agg R, .agg U, .int .i64 z]) ∧ IsRow 4 l R ∧ IsRow 16 u U) ∧ Below w.heap.size w w'

/-- What stands while Parts works. -/
def PaS (w : World) (TL A B : Array Value) (w' : World) : Prop :=
  Below w.heap.size w w' ∧ At w' w.heap.size TL 23 ∧ At w' (w.heap.size + 1) A 23 ∧ At w' (w.heap.size + 2) B 27 ∧ Lv.Tab w' ∧ 0 < w.heap.size
theorem PaS.start (w : World) (TL A B : Array Value) (hT : Lv.Tab w) : PaS w TL A B (((w.alloc (.cells TL 23)).alloc (.cells A 23)).alloc (.cells B 27)) := by
  have a1 := At.new (w.alloc (.cells TL 23)) A 23
  have a2 := At.new ((w.alloc (.cells TL 23)).alloc (.cells A 23)) B 27
  simp only [World.size_alloc] at a1 a2
  have hb : Below w.heap.size w (((w.alloc (.cells TL 23)).alloc (.cells A 23)).alloc (.cells B 27)) := (((Below.refl _ _).alloc (Nat.le_refl _) _).alloc (by simp) _).alloc (by simp; omega) _
  exact ⟨hb, ((At.new w TL 23).alloc _).alloc _, a1.alloc _, a2, hT.next hb, hT.lt⟩
theorem PaS.took {w w1 w2 : World} {O : Nat → Prop} {TL A B : Array Value} (h : PaS w TL A B w1) (hF : Fr O w1 w2) (hO : ∀ k, O k → w.heap.size + 2 < k) : PaS w TL A B w2 := by
  obtain ⟨h1, h2, h3, h4, h5, h6⟩ := h
  refine ⟨h1.trans (hF.below h1.size fun k hk => by have := hO k hk; omega), h2.fr hF ?_, h3.fr hF ?_, h4.fr hF ?_, Tab.fr h5 hF ?_, h6⟩ <;> (intro c; have := hO _ c; omega)
theorem PaS.below {w w1 w2 : World} {TL A B : Array Value} (h : PaS w TL A B w1) (hB : Below w1.heap.size w1 w2) : PaS w TL A B w2 := h.took (.of_below (T := fun _ => False) hB) fun _ c => c.elim
theorem PaS.row {w w1 : World} {TL A B : Array Value} (h : PaS w TL A B w1) {g : Nat} (hg : w.heap.size + 2 < g) (C : Array Value) : PaS w TL A B (w1.setRow g C) :=
  h.took (O := Just g) ((Fr.refl _ _).setRow (.inl (Just.self _)) _) fun k hk => by rw [just_iff] at hk; omega
theorem PaS.set1 {w w1 : World} {TL A B : Array Value} (h : PaS w TL A B w1) (C : Array Value) : PaS w TL C B (w1.setRow (w.heap.size + 1) C) := by
  obtain ⟨h1, h2, h3, h4, h5, h6⟩ := h
  exact ⟨below_setRow' h1 (by omega) _, h2.setRow_other (by omega), h3.setRow, h4.setRow_other (by omega), Tab.row h5 (by omega) _, h6⟩
theorem PaS.set2 {w w1 : World} {TL A B : Array Value} (h : PaS w TL A B w1) (C : Array Value) : PaS w TL A C (w1.setRow (w.heap.size + 2) C) := by
  obtain ⟨h1, h2, h3, h4, h5, h6⟩ := h
  exact ⟨below_setRow' h1 (by omega) _, h2.setRow_other (by omega), h3.setRow_other (by omega), h4.setRow, Tab.row h5 (by omega) _, h6⟩

theorem parts_size (TL : Array Value) (L : Nat → Int) (B : ByteArray) (n : Nat) (w : World) (hR : IsRow 4 L TL) (hn : B.size = n) (h : ¬ (10 ≤ n ∧ n ≤ 32)) (hm : n ≤ maxLen) (hT : Lv.Tab w) :
    Calls Tryz.prog 5 #[.agg TL, .string B] w (RetP w (fun _ => 0) (fun _ => 0) 10) := by
  obtain ⟨Z4, hZ4, _, hz4, hi4⟩ := zero_4
  obtain ⟨Zb, hZb, _, hzb, hib⟩ := zero_b
  obtain ⟨D, hD, bD⟩ := built_b
  obtain ⟨G, hG, bG⟩ := built_4r
  have HS := Lib.hid (PaS.start w TL Z4 Zb hT)
  have HD := Lib.hid hD
  have HBD := Lib.hid bD
  have HG := Lib.hid hG
  have HBG := Lib.hid bG
  have HI4 := Lib.hid hi4
  have HIB := Lib.hid hib
  have HZ4 := Lib.hid hZ4.1
  have HZB := Lib.hid hZb.1
  have HN := Lib.hid h
  clear hT hD bD hG bG hi4 hib hZ4 hZb h hR
  go_enter Tryz.func5, Tryz.ntmps5
  go_wp2_with fail
  refine (isSize_no n _ HN.out).mono ?_
  rintro e w1 ⟨rfl, rfl⟩
  go_wp2_with (first
    | refine wpList_build_parts (by rfl) 23 [] rfl _ rfl HBG.out ?_
    | refine wpList_build_parts (by rfl) 27 [] rfl _ rfl HBD.out ?_
    | (refine wpList_store_row rfl 23 _ _ rfl (w.heap.size + 1) G rfl rfl _ _ HS.out.2.2.1 (HI4.out _ HG.out.1) (by rw [HZ4.out, HG.out.1]) HG.out.2.1 ?_
       have HS1 := Lib.hid (HS.out.set1 G)
       clear HS
       revert HS1
       generalize World.setRow _ _ _ = W
       intro HS1)
    | (refine wpList_store_row rfl 27 _ _ rfl (w.heap.size + 2) D rfl rfl _ _ HS1.out.2.2.2.1 (HIB.out _ HD.out.1) (by rw [HZB.out, HD.out.1]) HD.out.2.1 ?_
       have HS2 := Lib.hid (HS1.out.set2 D)
       clear HS1
       revert HS2
       generalize World.setRow _ _ _ = W
       intro HS2))
  exact bodyPost_ret (v := .tuple #[.agg G, .agg D, .int .i64 10]) (results_two_int rfl _ _ (w.heap.size + 1) (w.heap.size + 2) G D _ _ rfl rfl rfl HS2.out.2.2.1 HS2.out.2.2.2.1 Tryz.underlying23 rfl (HI4.out _ HG.out.1) Tryz.underlying27 rfl (HIB.out _ HD.out.1)) rfl ⟨⟨G, D, rfl, HG.out, HD.out⟩, HS2.out.1⟩

theorem parts_no (TL : Array Value) (L : Nat → Int) (B : ByteArray) (n : Nat) (w : World) (hR : IsRow 4 L TL) (hn : B.size = n) (h : 10 ≤ n ∧ n ≤ 32) (hL : ¬ Sp.okL L) (hT : Lv.Tab w) :
    Calls Tryz.prog 5 #[.agg TL, .string B] w (RetP w (fun _ => 0) (fun _ => 0) 1) := by
  obtain ⟨Z4, hZ4, _, hz4, hi4⟩ := zero_4
  obtain ⟨Zb, hZb, _, hzb, hib⟩ := zero_b
  obtain ⟨D, hD, bD⟩ := built_b
  obtain ⟨G, hG, bG⟩ := built_4r
  have HS := Lib.hid (PaS.start w TL Z4 Zb hT)
  have HD := Lib.hid hD
  have HBD := Lib.hid bD
  have HG := Lib.hid hG
  have HBG := Lib.hid bG
  have HI4 := Lib.hid hi4
  have HIB := Lib.hid hib
  have HZ4 := Lib.hid hZ4.1
  have HZB := Lib.hid hZb.1
  have HN := Lib.hid h
  have HIL := Lib.hid (hi4 TL hR.1)
  have HL := Lib.hid (fun w' => areLevels_no TL L w' hR hL)
  clear hT hD bD hG bG hi4 hib hZ4 hZb h hR hL
  go_enter Tryz.func5, Tryz.ntmps5
  go_wp2_with fail
  refine (isSize_yes n _ HN.out.1 HN.out.2).mono ?_
  rintro e w1 ⟨rfl, rfl⟩
  go_wp2_with (refine wpList_load_row rfl 23 _ rfl w.heap.size rfl _ _ (0, 0) _ HS.out.2.1 Tryz.underlying23 rfl HIL.out ?_)
  refine (HL.out _).mono ?_
  rintro e w1 ⟨rfl, hb⟩
  replace HS := Lib.hid (HS.out.below hb)
  clear hb HL
  go_wp2_with (first
    | refine wpList_build_parts (by rfl) 23 [] rfl _ rfl HBG.out ?_
    | refine wpList_build_parts (by rfl) 27 [] rfl _ rfl HBD.out ?_
    | (refine wpList_store_row rfl 23 _ _ rfl (w.heap.size + 1) G rfl rfl _ _ HS.out.2.2.1 (HI4.out _ HG.out.1) (by rw [HZ4.out, HG.out.1]) HG.out.2.1 ?_
       have HS1 := Lib.hid (HS.out.set1 G)
       clear HS
       revert HS1
       generalize World.setRow _ _ _ = W
       intro HS1)
    | (refine wpList_store_row rfl 27 _ _ rfl (w.heap.size + 2) D rfl rfl _ _ HS1.out.2.2.2.1 (HIB.out _ HD.out.1) (by rw [HZB.out, HD.out.1]) HD.out.2.1 ?_
       have HS2 := Lib.hid (HS1.out.set2 D)
       clear HS1
       revert HS2
       generalize World.setRow _ _ _ = W
       intro HS2))
  exact bodyPost_ret (v := .tuple #[.agg G, .agg D, .int .i64 1]) (results_two_int rfl _ _ (w.heap.size + 1) (w.heap.size + 2) G D _ _ rfl rfl rfl HS2.out.2.2.1 HS2.out.2.2.2.1 Tryz.underlying23 rfl (HI4.out _ HG.out.1) Tryz.underlying27 rfl (HIB.out _ HD.out.1)) rfl ⟨⟨G, D, rfl, HG.out, HD.out⟩, HS2.out.1⟩

theorem enter_pulses (args : Array Value) (w : World) : (callFunc 19 args).run Tryz.prog w = .ok (.enter 19 args) w := run_enter Tryz.func19 (by kernel_rfl) rfl args w
theorem enter_takeWaves (args : Array Value) (w : World) : (callFunc 18 args).run Tryz.prog w = .ok (.enter 18 args) w := run_enter Tryz.func18 (by kernel_rfl) rfl args w

/-- The waves behind a packet. -/
noncomputable def wB (f : Nat → Nat) (L : Nat → Int) (n : Nat) : Nat → Int := wW f (lB f L) (kS f L n) (dL f 4) 4
theorem wB_le (f : Nat → Nat) (L : Nat → Int) (n i : Nat) : -1048576 ≤ wB f L n i ∧ wB f L n i ≤ 1048576 := wW_le f _ _ (kS_le f L n) 4 (Nat.le_refl _) i

set_option maxHeartbeats 2000000 in
theorem parts_yes (TL : Array Value) (L : Nat → Int) (B : ByteArray) (s : List UInt8) (n : Nat) (w : World) (hR : IsRow 4 L TL) (hs : ⟨s.toArray⟩ = B) (hn : B.size = n) (h : 10 ≤ n ∧ n ≤ 32) (hL : Sp.okL L) (hT : Lv.Tab w) :
    Calls Tryz.prog 5 #[.agg TL, .string B] w (RetP w (lB (byteF s) L) (wB (byteF s) L n) 0) := by
  obtain ⟨Z4, hZ4, _, hz4, hi4⟩ := zero_4
  obtain ⟨Zb, hZb, _, hzb, hib⟩ := zero_b
  have hmf : ∀ (fn : Fn) (first cap : Array Value) (w : World), (Instr.makeFunc fn first cap).run Tryz.prog w = .ok (.func fn first cap) w := fun _ _ _ _ => rfl
  have hsn : s.length = n := by rw [← hn, ← hs]; rfl
  have HS := Lib.hid (PaS.start w TL Z4 Zb hT)
  have HI4 := Lib.hid hi4
  have HIB := Lib.hid hib
  have HZ4 := Lib.hid hZ4.1
  have HZB := Lib.hid hZb.1
  have HN := Lib.hid h
  have HIL := Lib.hid (hi4 TL hR.1)
  have HL := Lib.hid (fun w' => areLevels_yes TL L w' hR hL)
  have HR := Lib.hid hR
  have HOL := Lib.hid hL
  have HB := Lib.hid hs
  have HSN := Lib.hid hsn
  have n32 := h.2
  clear hT hi4 hib hZ4 hZb h hR hL hs hsn
  go_enter Tryz.func5, Tryz.ntmps5
  go_wp2_with fail
  refine (isSize_yes n _ HN.out.1 HN.out.2).mono ?_
  rintro e w1 ⟨rfl, rfl⟩
  go_wp2_with (refine wpList_load_row rfl 23 _ rfl w.heap.size rfl _ _ (0, 0) _ HS.out.2.1 Tryz.underlying23 rfl HIL.out ?_)
  refine (HL.out _).mono ?_
  rintro e w1 ⟨rfl, hb⟩
  replace HS := Lib.hid (HS.out.below hb)
  clear hb HL
  go_wp2_with fail
  refine (newDec_as B s _ HB.out (by have := HSN.out; omega)).mono ?_
  rintro e w2 ⟨b, O0, rfl, hD, hO0, hb⟩
  obtain ⟨O, hD, hO⟩ := hD.tight
  have HO := Lib.hid (fun k (hk : O k) => (show w.heap.size + 2 < k from by have := hO0 k (hO k hk).1; have := HS.out.2.2.2.1.lt; omega))
  have HOT := Lib.hid (fun k (hk : O k) => (hO k hk).2)
  replace HS := Lib.hid (HS.out.below hb)
  have HD := Lib.hid hD
  clear hb hD hO hO0
  go_wp2_with (refine wpList_load_row rfl 23 _ rfl w.heap.size rfl _ _ (0, 0) _ HS.out.2.1 Tryz.underlying23 rfl HIL.out ?_)
  refine (takeLevels_as TL L b O s _ HR.out HOL.out HD.out HOT.out (by have := HSN.out; omega)).mono ?_
  rintro e w3 ⟨⟨R, rfl, hR⟩, hD, hF⟩
  have HR3 := Lib.hid hR
  have HIR := Lib.hid (HI4.out R hR.1)
  replace HOT := Lib.hid (fun k (hk : O k) => Nat.lt_of_lt_of_le (HOT.out k hk) hF.size)
  replace HS := Lib.hid (HS.out.took hF HO.out)
  replace HD := Lib.hid hD
  clear hR hD hF
  have HA8 := Lib.hid ((At.new w3 Z4 23).setRow (C := R))
  have HS8 := Lib.hid (PaS.row (HS.out.below ((Below.refl _ _).alloc (Nat.le_refl _) (.cells Z4 23))) (g := w3.heap.size) (by have := HS.out.2.2.2.1.lt; omega) R)
  have HD8 := Lib.hid (DecIs.row (HD.out.below ((Below.refl _ _).alloc (Nat.le_refl _) (.cells Z4 23))) (g := w3.heap.size) (fun c => by have := HOT.out _ c; omega) R)
  have HO8 := Lib.hid (fun k (hk : O k) => (show k < w3.heap.size from HOT.out k hk))
  have HS3 := Lib.hid (show w.heap.size + 2 < w3.heap.size from HS.out.2.2.2.1.lt)
  have HSZ := Lib.hid (show w3.heap.size < ((w3.alloc (.cells Z4 23)).setRow w3.heap.size R).heap.size by rw [size_setRow]; simp)
  go_wp2_with (refine wpList_store_row rfl 23 _ _ rfl w3.heap.size R rfl rfl _ _ (At.new w3 Z4 23) HIR.out (by rw [HZ4.out, HR3.out.1]) HR3.out.2.1 ?_)
  clear HS HD HOT
  revert HA8 HS8 HD8 HSZ
  generalize World.setRow _ _ _ = W
  intro HA8 HS8 HD8 HSZ
  have hb9 : w.heap.size + 2 < w3.heap.size := HS3.out
  obtain ⟨b8, hb8⟩ : ∃ b8, w3.heap.size = b8 := ⟨_, rfl⟩
  rw [hb8] at HA8 HO8 HSZ hb9 ⊢
  clear hb8 HS3 w3
  obtain ⟨d1, d2⟩ := dL_ok (byteF s) 4
  obtain ⟨u1, u2⟩ := dt_used_bd d1 (by omega)
  obtain ⟨m1, m2⟩ := rmS_bd (byteF s) n
  have HM := Lib.hid (show Sp.rm n (dL (byteF s) 4).used = rmS (byteF s) n from rfl)
  obtain ⟨u, hu⟩ : ∃ u, (dL (byteF s) 4).used = u := ⟨_, rfl⟩
  obtain ⟨m, hm⟩ : ∃ m, rmS (byteF s) n = m := ⟨_, rfl⟩
  rw [hu] at u1 u2 HM
  rw [hm] at m1 m2 HM
  have HU := Lib.hid hu
  have HMM := Lib.hid hm
  clear hu hm
  go_wp2_with fail
  refine (decUsed_as _ b O s _ u HD8.out d1 (by omega) HU.out).mono ?_
  rintro e w4 ⟨rfl, hb⟩
  replace HS8 := Lib.hid (HS8.out.below hb)
  replace HD8 := Lib.hid (HD8.out.below hb)
  replace HA8 := Lib.hid (HA8.out.below hb HA8.out.lt)
  replace HSZ := Lib.hid (Nat.lt_of_lt_of_le HSZ.out hb.size)
  clear hb W HU
  go_wp2_with fail
  refine (Sp.room_any n u _ (by omega)).mono ?_
  rw [HM.out]
  rintro e w5 ⟨rfl, rfl⟩
  clear HM u1 u2
  have HPU := Lib.hid (fun w' (hT : Lv.Tab w') => Sp.pulses_yes R (lB (byteF s) L) m w' HR3.out (lB_ok _ _) m1 m2 hT)
  have HKS := Lib.hid (show ∀ i, Sp.given (lB (byteF s) L) m i = kS (byteF s) L n i by rw [← HMM.out]; exact fun _ => rfl)
  clear m1 m2 HMM
  go_wp2_with fail
  refine mv_startS (fun w' => At w' b8 R 23) HA8.out fun hS => ?_
  refine mv_yield (i := 0) (d := 31) (.agg R) rfl rfl (by kernel_rfl) (by kernel_rfl) (by kernel_rfl) hS (y_loadS (by rfl) rfl rfl (fun _ h => h) Tryz.underlying23 HIR.out) ?_
  simp only [Act.put, List.setIfInBounds_toArray, List.set_cons_zero, List.set_cons_succ]
  refine mv_yield (i := 1) (d := 32) (.agg R) rfl rfl (by kernel_rfl) (by kernel_rfl) (by kernel_rfl) hS (y_loadS (by rfl) rfl rfl (fun _ h => h) Tryz.underlying23 HIR.out) ?_
  simp only [Act.put, List.setIfInBounds_toArray, List.set_cons_zero, List.set_cons_succ]
  refine mv_yield (i := 2) (d := 33) (.agg R) rfl rfl (by kernel_rfl) (by kernel_rfl) (by kernel_rfl) hS (y_loadS (by rfl) rfl rfl (fun _ h => h) Tryz.underlying23 HIR.out) ?_
  simp only [Act.put, List.setIfInBounds_toArray, List.set_cons_zero, List.set_cons_succ]
  refine mv_yield (i := 3) (d := 34) (.int .i64 m) rfl rfl (by kernel_rfl) (by kernel_rfl) (by kernel_rfl) hS (y_run (by rfl) fun _ => by rfl) ?_
  simp only [Act.put, List.setIfInBounds_toArray, List.set_cons_zero, List.set_cons_succ]
  refine mv_yield (i := 5) (d := 36) (.pointer (some ⟨b, 0, none⟩)) rfl rfl (by kernel_rfl) (by kernel_rfl) (by kernel_rfl) hS (y_run (by rfl) fun _ => by rfl) ?_
  simp only [Act.put, List.setIfInBounds_toArray, List.set_cons_zero, List.set_cons_succ]
  refine mv_yield (i := 6) (d := 37) (.func (.func 20) #[.pointer (some ⟨b, 0, none⟩)] #[]) rfl rfl (by kernel_rfl) (by kernel_rfl) (by kernel_rfl) hS (y_func (by rfl) rfl rfl) ?_
  simp only [Act.put, List.setIfInBounds_toArray, List.set_cons_zero, List.set_cons_succ]
  refine mv_ready [4] (by kernel_rfl) (by simp) (ar_callE (i := 4) (d := 35) (R := fun v w' => (∃ T, v = .agg T ∧ IsRow 4 (fun i => (kS (byteF s) L n i : Int)) T) ∧ Below w4.drew.heap.size w4.drew w') #[.agg R, .int .i64 m] rfl rfl (by rfl) rfl enter_pulses (by kernel_rfl)
    ((HPU.out _ (HS8.out.2.2.2.2.1.next (Below.refl _ _).drew)).mono fun e w' ⟨⟨T, he, hT⟩, hb⟩ => ⟨_, he, ⟨T, rfl, hT.ext fun i _ => by rw [HKS.out i]⟩, hb⟩) (fun v w' h => hS.below h.2 hS.lt) ?_ AllReadyH.nil)
  rintro v w5 ⟨⟨K, rfl, hK⟩, hb⟩ hS5
  simp only [Act.put, List.setIfInBounds_toArray, List.set_cons_zero, List.set_cons_succ]
  have hb' : Below w4.heap.size w4 w5 := ⟨hb.os, hb.tape, hb.output, hb.size, hb.block⟩
  have HK := Lib.hid hK
  replace HS8 := Lib.hid (HS8.out.below hb')
  replace HD8 := Lib.hid (HD8.out.below hb')
  replace HSZ := Lib.hid (Nat.lt_of_lt_of_le HSZ.out hb'.size)
  clear hb hb' hK hS HPU HKS HA8
  have HTW := Lib.hid (takeWaves_as R K (lB (byteF s) L) (kS (byteF s) L n) b O s (dL (byteF s) 4) w5 HR3.out HK.out (kS_le _ _ _) HD8.out (fun k hk => Nat.lt_trans (HO8.out k hk) HSZ.out) (fun c => by have := HO.out _ c; have := HS8.out.2.2.2.2.2; omega) d1 (by omega) (by have := HSN.out; omega) HS8.out.2.2.2.2.1)
  refine mv_ready [7] (by kernel_rfl) (by simp) (ar_callE (i := 7) (d := 38) (R := fun v w' => (∃ T, v = .agg T ∧ IsRow 16 (wB (byteF s) L n) T) ∧ Fr O w5 w') #[.agg R, .agg K, .func (.func 20) #[.pointer (some ⟨b, 0, none⟩)] #[]] rfl rfl (by rfl) rfl enter_takeWaves (by kernel_rfl)
    (HTW.out.mono fun e w' ⟨⟨T, he, hT⟩, _, hf⟩ => ⟨_, he, ⟨T, rfl, hT⟩, hf⟩) (fun v w' h => hS5.fr h.2 fun c => by have := HO8.out _ c; omega) ?_ AllReadyH.nil)
  rintro v w6 ⟨⟨U, rfl, hU⟩, hf⟩ hS6
  simp only [Act.put, List.setIfInBounds_toArray, List.set_cons_zero, List.set_cons_succ]
  have HU := Lib.hid hU
  have HIU := Lib.hid (HIB.out U hU.1)
  replace HS8 := Lib.hid (HS8.out.took hf HO.out)
  have hne1 : b8 ≠ w.heap.size + 1 := by omega
  have hne2 : b8 ≠ w.heap.size + 2 := by omega
  clear hf hS5 HTW HD8 hU HSZ
  refine mv_ready [8] (by kernel_rfl) (by simp) (ar_store (i := 8) (w.heap.size + 1) R Z4 rfl rfl (by rfl) rfl rfl rfl HS8.out.2.2.1 (by rw [HZ4.out, HR3.out.1]) HR3.out.2.1 HIR.out (hS6.setRow_other hne1) (fun hS7 => ?_) AllReadyH.nil)
  have HS9 := Lib.hid (HS8.out.set1 R)
  clear HS8 hS6
  refine mv_ready [9] (by kernel_rfl) (by simp) (ar_store (i := 9) (w.heap.size + 2) U Zb rfl rfl (by rfl) rfl rfl rfl HS9.out.2.2.2.1 (by rw [HZB.out, HU.out.1]) HU.out.2.1 HIU.out (hS7.setRow_other hne2) (fun hS8 => ?_) AllReadyH.nil)
  have HS10 := Lib.hid (HS9.out.set2 U)
  clear HS9 hS7
  refine mv_yield (i := 10) (d := 6) (.int .i64 0) rfl rfl (by kernel_rfl) (by kernel_rfl) (by kernel_rfl) hS8 (y_run (by rfl) fun _ => by rfl) ?_
  simp only [Act.put, List.setIfInBounds_toArray, List.set_cons_zero, List.set_cons_succ]
  refine mv_done (by kernel_rfl) ?_
  clear hS8
  go_wp2
  exact bodyPost_ret (v := .tuple #[.agg R, .agg U, .int .i64 0]) (results_two_int rfl _ _ (w.heap.size + 1) (w.heap.size + 2) R U _ _ rfl rfl rfl HS10.out.2.2.1 HS10.out.2.2.2.1 Tryz.underlying23 rfl HIR.out Tryz.underlying27 rfl HIU.out) rfl ⟨⟨R, U, rfl, HR3.out, HU.out⟩, HS10.out.1⟩
end Go.Proofs.YtimhemcoflpmcaaGreatDoor.De
end
