/- Texts of the walk, one behind the other. -/
import Derived.Test.YtfohinlldchdpaaGreatDoorEncPlaysM25
import Derived.Test.YtfohinlldchdpaaGreatDoorEncPlaysM33
import Derived.Test.YtfohinlldchdpaaGreatDoorEncPlaysM24
import Derived.Test.YtfohinlldchdpaaGreatDoorEncPlaysM8
import Derived.Test.YtfohinlldchdpaaGreatDoorEncPlaysM5

section
/- Contract: enc's Encode. -/
set_option maxRecDepth 100000
set_option linter.unusedVariables false
namespace Go.Proofs.YtfohinlldchdpaaGreatDoor.En
open Go.RowKit Go.Proofs.YtfohinlldchdpaaGreatDoor.Row Go.Proofs.YtfohinlldchdpaaGreatDoor.Rg Go.Proofs.YtfohinlldchdpaaGreatDoor.Md Go.Proofs.YtfohinlldchdpaaGreatDoor.Tl Go.Proofs.YtfohinlldchdpaaGreatDoor.Sta

theorem results_three {fn : Func} {p q r : Tmp} {t : TypeId} {y z : Value} (h : fn.results = #[.tmp q, .cell p t, .tmp r]) (tmps : Array Value) (w : World) (g : Nat) (A : Array Value) {u : TypeId} (d : TypeDesc)
    (hq : tmps.getD q undef = y) (hp : tmps.getD p undef = .pointer (some ⟨g, 0, none⟩)) (hr : tmps.getD r undef = z) (hg : At w g A u)
    (hu : Tryz.prog.underlying t = some d) (hd : d.isRow = true) (hA : (Tryz.prog.info? t).map (·.size) = some A.size) :
    (results fn tmps).run Tryz.prog w = .ok (.tuple #[y, .agg A, z]) w := by
  have hp' : tmps[p]?.getD undef = .pointer (some ⟨g, 0, none⟩) := by simpa using hp
  have hq' : tmps[q]?.getD undef = y := by simpa using hq
  have hr' : tmps[r]?.getD undef = z := by simpa using hr
  have h1 := run_loadVar_row w g u t A (0, 0) _ hg hu (by cases d <;> first | rfl | cases hd) hA
  simp [results, h, hp', hq', hr', asAddr, h1]

/-- A packet, an encoder, and how it went. -/
def RetEc (w : World) (B : ByteArray) (g : Nat → Int) (z : Int) (e : Ending) (w' : World) : Prop := (∃ Q, e = .returned (.tuple #[.string B, .agg Q, .int .i64 z]) ∧ IsRow 55 g Q) ∧ Below w.heap.size w w'
theorem as_E {fn : FuncId} {args : Array Value} {Q : Array Value} {B : ByteArray} {g : Nat → Int} {z : Int} {w : World} (H : Calls Tryz.prog fn args w (RetEc w B g z)) (hQ : IsRow 55 g Q) :
    Calls Tryz.prog fn args w fun e w' => e = .returned (.tuple #[.string B, .agg Q, .int .i64 z]) ∧ Below w.heap.size w w' := by
  refine H.mono ?_
  rintro e w' ⟨⟨Q', rfl, hQ'⟩, hb⟩
  obtain rfl := hQ'.eq hQ fun _ _ => rfl
  exact ⟨rfl, hb⟩
theorem Tri.set3 {w w1 : World} {T V U : Array Value} {t v u : TypeId} (h : Tri w T V U t v u w1) (R : Array Value) : Tri w T V R t v u (w1.setRow (w.heap.size + 1 + 1) R) :=
  ⟨below_setRow' h.1 (by omega) _, h.2.1.setRow_other (by omega), h.2.2.1.setRow_other (by omega), h.2.2.2.setRow⟩

set_option maxHeartbeats 1000000 in
theorem encode_size (T F : Array Value) (f b : Nat → Int) (m : Int) (w : World) (hT : IsRow 55 f T) (hF : IsRow 16 b F) (h : m < 10 ∨ 32 < m) :
    Calls Tryz.prog 12 #[.agg T, .agg F, .int .i64 m] w (RetEc w ⟨#[]⟩ (fun _ => 0) 10) := by
  obtain ⟨Ze, hZe, _, hze, hie⟩ := zero_ep
  obtain ⟨G, hG, bG⟩ := ebuilt_0 isEn_p
  have HW := Lib.hid (Tri.start w T F Ze 36 32 36)
  have HIE := Lib.hid hie
  have HZE := Lib.hid hZe.1
  have HG := Lib.hid hG
  have HBG := Lib.hid bG
  clear hT hF hie hZe hG bG
  have key : ∀ W : World, Hid (Tri w T F Ze 36 32 36 W) → Tri w T F G 36 32 36 (W.setRow (w.heap.size + 1 + 1) G) := fun W h => Tri.set3 h.out G
  have HK := Lib.hid key
  clear key
  by_cases h1 : m < 10
  · clear h
    go_enter Tryz.func12, Tryz.ntmps12
    go_wp2_with (first
      | refine wpList_build_parts (by rfl) 36 [] rfl _ rfl HBG.out ?_
      | (refine wpList_store_row rfl 36 _ _ rfl (w.heap.size + 1 + 1) G rfl rfl _ _ HW.out.2.2.2 (HIE.out _ HG.out.1) (by rw [HZE.out, HG.out.1]) HG.out.2.1 ?_
         have HW2 := Lib.hid (HK.out _ HW)
         clear HW
         revert HW2
         generalize World.setRow _ _ _ = W
         intro HW2))
    exact bodyPost_ret (v := .tuple #[.string ⟨#[]⟩, .agg G, .int .i64 10]) (results_three rfl _ _ (w.heap.size + 1 + 1) G _ rfl rfl rfl HW2.out.2.2.2 Tryz.underlying36 rfl (HIE.out _ HG.out.1)) rfl ⟨⟨G, rfl, HG.out⟩, HW2.out.1⟩
  · have h2 : 32 < m := by omega
    clear h
    go_enter Tryz.func12, Tryz.ntmps12
    go_wp2_with (first
      | refine wpList_build_parts (by rfl) 36 [] rfl _ rfl HBG.out ?_
      | (refine wpList_store_row rfl 36 _ _ rfl (w.heap.size + 1 + 1) G rfl rfl _ _ HW.out.2.2.2 (HIE.out _ HG.out.1) (by rw [HZE.out, HG.out.1]) HG.out.2.1 ?_
         have HW2 := Lib.hid (HK.out _ HW)
         clear HW
         revert HW2
         generalize World.setRow _ _ _ = W
         intro HW2))
    exact bodyPost_ret (v := .tuple #[.string ⟨#[]⟩, .agg G, .int .i64 10]) (results_three rfl _ _ (w.heap.size + 1 + 1) G _ rfl rfl rfl HW2.out.2.2.2 Tryz.underlying36 rfl (HIE.out _ HG.out.1)) rfl ⟨⟨G, rfl, HG.out⟩, HW2.out.1⟩

theorem tri_sl {w w1 : World} {T F Z : Array Value} {t u : TypeId} {b : Nat → Int} (h : Tri w T F Z t 32 u w1) (hF : IsRow 16 b F) : Sl .i64 w1 (some ⟨w.heap.size + 1, 0, none⟩) 16 16 b :=
  ⟨Nat.le_refl _, by unfold maxLen; omega, fun _ => ⟨_, _, rfl, fun i hi => by rw [Nat.zero_add]; exact hF.cell h.2.2.1 i hi⟩⟩

set_option maxHeartbeats 1000000 in
theorem encode_no (T F : Array Value) (f b : Nat → Int) (m : Nat) (w : World) (hT : IsRow 55 f T) (hF : IsRow 16 b F) (h10 : 10 ≤ m) (h32 : m ≤ 32) (h : ¬ (Re f ∧ Snd b)) :
    Calls Tryz.prog 12 #[.agg T, .agg F, .int .i64 m] w (RetEc w ⟨#[]⟩ (fun _ => 0) 1) := by
  obtain ⟨Ze, hZe, _, hze, hie⟩ := zero_ep
  obtain ⟨G, hG, bG⟩ := ebuilt_0 isEn_p
  have HW := Lib.hid (Tri.start w T F Ze 36 32 36)
  have HIE := Lib.hid hie
  have HZE := Lib.hid hZe.1
  have HG := Lib.hid hG
  have HBG := Lib.hid bG
  have HT := Lib.hid hT
  have HF := Lib.hid hF
  have hall := run_all16 (w.heap.size + 1)
  have FIN := Lib.hid (fun (W : World) (h : Tri w T F Ze 36 32 36 W) => Tri.set3 h G)
  by_cases hr : Re f
  · have HR := Lib.hid (fun w => eright_any T f true w hT ⟨fun _ => hr, fun _ => rfl⟩)
    have e2 : allB b (-32768) 32767 16 = false := by
      rw [Bool.eq_false_iff]
      intro hh
      exact h ⟨hr, (allB_iff b _ _ 16).1 hh⟩
    have HS := Lib.hid (show ∀ W, Tri w T F Ze 36 32 36 W → Calls Tryz.prog 27 #[.slice (some ⟨w.heap.size + 1, 0, none⟩) 16 16] W fun r w' => r = .returned (.bool false) ∧ Below W.heap.size W w' from fun W h => by
      have := areSamples_any (some ⟨w.heap.size + 1, 0, none⟩) 16 16 b W (tri_sl h hF)
      rw [e2] at this
      exact this)
    clear hT hF hie hZe hG bG h hr e2
    go_enter Tryz.func12, Tryz.ntmps12
    go_wp2_with (refine wpList_load_all (by rfl) 36 _ rfl w.heap.size rfl HT.out HW.out.2.1 Tryz.underlying36 rfl HIE.out ?_)
    refine (HR.out _).mono ?_
    rintro e W1 ⟨rfl, hb⟩
    replace HW := Lib.hid (HW.out.next hb)
    clear hb
    go_wp2_with fail
    refine (HS.out W1 HW.out).mono ?_
    rintro e W2 ⟨rfl, hb⟩
    replace HW := Lib.hid (HW.out.next hb)
    clear hb HS HR
    go_wp2_with (first
      | refine wpList_build_parts (by rfl) 36 [] rfl _ rfl HBG.out ?_
      | (refine wpList_store_row rfl 36 _ _ rfl (w.heap.size + 1 + 1) G rfl rfl _ _ HW.out.2.2.2 (HIE.out _ HG.out.1) (by rw [HZE.out, HG.out.1]) HG.out.2.1 ?_
         have HW2 := Lib.hid (FIN.out _ HW.out)
         clear HW
         revert HW2
         generalize World.setRow _ _ _ = W
         intro HW2))
    exact bodyPost_ret (v := .tuple #[.string ⟨#[]⟩, .agg G, .int .i64 1]) (results_three rfl _ _ (w.heap.size + 1 + 1) G _ rfl rfl rfl HW2.out.2.2.2 Tryz.underlying36 rfl (HIE.out _ HG.out.1)) rfl ⟨⟨G, rfl, HG.out⟩, HW2.out.1⟩
  · have HR := Lib.hid (fun w => eright_any T f false w hT ⟨fun h => (by cases h), fun h => absurd h hr⟩)
    clear hT hF hie hZe hG bG h hr
    go_enter Tryz.func12, Tryz.ntmps12
    go_wp2_with (refine wpList_load_all (by rfl) 36 _ rfl w.heap.size rfl HT.out HW.out.2.1 Tryz.underlying36 rfl HIE.out ?_)
    refine (HR.out _).mono ?_
    rintro e W1 ⟨rfl, hb⟩
    replace HW := Lib.hid (HW.out.next hb)
    clear hb HR
    go_wp2_with (first
      | refine wpList_build_parts (by rfl) 36 [] rfl _ rfl HBG.out ?_
      | (refine wpList_store_row rfl 36 _ _ rfl (w.heap.size + 1 + 1) G rfl rfl _ _ HW.out.2.2.2 (HIE.out _ HG.out.1) (by rw [HZE.out, HG.out.1]) HG.out.2.1 ?_
         have HW2 := Lib.hid (FIN.out _ HW.out)
         clear HW
         revert HW2
         generalize World.setRow _ _ _ = W
         intro HW2))
    exact bodyPost_ret (v := .tuple #[.string ⟨#[]⟩, .agg G, .int .i64 1]) (results_three rfl _ _ (w.heap.size + 1 + 1) G _ rfl rfl rfl HW2.out.2.2.2 Tryz.underlying36 rfl (HIE.out _ HG.out.1)) rfl ⟨⟨G, rfl, HG.out⟩, HW2.out.1⟩

theorem enter_waves (args : Array Value) (w : World) : (callFunc 23 args).run Tryz.prog w = .ok (.enter 23 args) w := run_enter Tryz.func23 (by kernel_rfl) rfl args w
theorem enter_pack (args : Array Value) (w : World) : (callFunc 28 args).run Tryz.prog w = .ok (.enter 28 args) w := run_enter Tryz.func28 (by kernel_rfl) rfl args w
theorem fld_off {t : TypeId} {i o : Nat} (h : ∀ b q w, (Instr.fieldAt t (.pointer (some ⟨b, q, none⟩)) i).run Tryz.prog w = .ok (.pointer (some ⟨b, q + o, none⟩)) w) {ops : Array Oper} {S : World → Prop} {oi : Oper} {a : Act} {y : Operand} {b q : Nat} (hw : Region.wanted oi (yielded ops a.tmps) = true) (ho : oi.op = .fieldAddr t y i) (hy : a.eval y = .pointer (some ⟨b, q, none⟩)) :
    YieldsIf Tryz.prog ops S oi (.pointer (some ⟨b, q + o, none⟩)) a :=
  y_run hw fun w => by
    unfold execOp
    simp only [ho, hy, h, Sem.run_bind, Result.andThen_ok, Sem.run_pure]
theorem fld_ps2 (b q : Nat) (w : World) : (Instr.fieldAt 34 (.pointer (some ⟨b, q, none⟩)) 2).run Tryz.prog w = .ok (.pointer (some ⟨b, q + 17, none⟩)) w := by
  unfold Instr.fieldAt
  simp [Sem.run_bind, run_underlying Tryz.underlying34, Instr.sureAddr, go_sem, Addr.add]

/-- What stands while Encode works: what came in, the result's row, the lifted frame. -/
def EcS (w : World) (T F Z : Array Value) (bl : Nat) (Lf : Array Value) (w' : World) : Prop := Tri w T F Z 36 32 36 w' ∧ At w' bl Lf 32 ∧ w.heap.size + 1 + 1 < bl
theorem EcS.next {w w1 w2 : World} {T F Z Lf : Array Value} {bl : Nat} (h : EcS w T F Z bl Lf w1) (hb : Below w1.heap.size w1 w2) : EcS w T F Z bl Lf w2 := ⟨h.1.next hb, h.2.1.below hb h.2.1.lt, h.2.2⟩

set_option maxHeartbeats 4000000 in
theorem encode_yes (T F : Array Value) (f b : Nat → Int) (m : Nat) (B : ByteArray) (w : World) (hT : IsRow 55 f T) (hF : IsRow 16 b F) (h10 : 10 ≤ m) (h32 : m ≤ 32) (hr : Re f) (hs : Snd b) (hB : ⟨(pkt f b m).toArray⟩ = B) (hTab : Lv.Tab w) :
    Calls Tryz.prog 12 #[.agg T, .agg F, .int .i64 m] w (RetEc w B (nxE f b m) 0) := by
  obtain ⟨Ze, hZe, _, hze, hie⟩ := zero_ep
  obtain ⟨Zb, hZb, _, hzb, hib⟩ := zero_b
  obtain ⟨_, _, _, _, hi4⟩ := zero_4
  obtain ⟨Zp, hZp, _, hzp, hip⟩ := zero_p
  have HW := Lib.hid (Tri.start w T F Ze 36 32 36)
  have hall := run_all16 (w.heap.size + 1)
  have HR := Lib.hid (fun w => eright_any T f true w hT ⟨fun _ => hr, fun _ => rfl⟩)
  have e2 : allB b (-32768) 32767 16 = true := (allB_iff b _ _ 16).2 hs
  have HS := Lib.hid (show ∀ W, Tri w T F Ze 36 32 36 W → Calls Tryz.prog 27 #[.slice (some ⟨w.heap.size + 1, 0, none⟩) 16 16] W fun r w' => r = .returned (.bool true) ∧ Below W.heap.size W w' from fun W h => by
    have := areSamples_any (some ⟨w.heap.size + 1, 0, none⟩) 16 16 b W (tri_sl h hF)
    rw [e2] at this
    exact this)
  obtain ⟨M, hM⟩ : ∃ M, T.extract 0 (0 + 16) = M := ⟨_, rfl⟩
  have hM' := hT.sub (show 0 + 16 ≤ 55 by omega)
  rw [hM] at hM'
  have hM2 : IsRow 16 f M := hM'.ext fun i _ => by rw [Nat.zero_add]
  obtain ⟨Q, hQ⟩ : ∃ M, T.extract 17 (17 + 38) = M := ⟨_, rfl⟩
  have hQ' := hT.sub (show 17 + 38 ≤ 55 by omega)
  rw [hQ] at hQ'
  obtain ⟨V, hV⟩ : ∃ M, T.extract 34 (34 + 4) = M := ⟨_, rfl⟩
  have hV' := hT.sub (show 34 + 4 ≤ 55 by omega)
  rw [hV] at hV'
  obtain ⟨z, hz⟩ : ∃ z, f 16 = z := ⟨_, rfl⟩
  have hli := fun w => lift_any z F b w hF
  obtain ⟨Lf, hLf⟩ : ∃ L, rowL 16 (liS z b) 16 = L := ⟨_, rfl⟩
  have hLf' : IsRow 16 (liS z b) Lf := by rw [← hLf]; exact isRow _ _
  obtain ⟨q, hq⟩ : ∃ q, ct22 (b 15) = q := ⟨_, rfl⟩
  rw [hLf, hq] at hli
  have hwa := fun w => waves_yes M Lf f (liS z b) hM2 hLf' (prev_le hr) (by rw [← hz]; exact li_le hr.2.1 hs) w
  have hwe : wS f (liS z b) = wvE f b := by unfold wvE; rw [hz]
  rw [hwe] at hwa
  obtain ⟨Wv, hWv⟩ : ∃ L, rowL 16 (wvE f b) 16 = L := ⟨_, rfl⟩
  have hWv' : IsRow 16 (wvE f b) Wv := by rw [← hWv]; exact isRow _ _
  rw [hWv] at hwa
  have HPK := Lib.hid (fun w hT => pack_as Wv V (wvE f b) (lvA f) m B w hWv' hV' (lvA_ok hr) h10 h32 hB hT)
  have hlen : B.size = m := by
    rw [← hB]
    show (pkt f b m).toArray.size = m
    rw [List.size_toArray]; exact pkt_length hr h10 h32
  obtain ⟨X, hX⟩ : ∃ X, IsRow 16 (De.soD (byteF (pkt f b m)) (stE f) m) X := ⟨_, isRow _ _⟩
  obtain ⟨Y, hY⟩ : ∃ X, IsRow 38 (De.nxD (byteF (pkt f b m)) (stE f) m) X := ⟨_, isRow _ _⟩
  have HDE := Lib.hid (show ∀ w', Lv.Tab w' → Calls Tryz.prog 16 #[.agg Q, .string B] w' fun e w'' => e = .returned (.tuple #[.agg X, .agg Y, .int .i64 0]) ∧ Below w'.heap.size w' w'' from fun w' hT' => by
    refine (De.decode_yes Q (stE f) B (pkt f b m) m w' hQ' hB hlen ⟨h10, h32⟩ hr.2.2 hT').mono ?_
    rintro e w'' ⟨⟨R', Q', rfl, hR', hQ''⟩, hb⟩
    obtain rfl := hR'.eq hX fun _ _ => rfl
    obtain rfl := hQ''.eq hY fun _ _ => rfl
    exact ⟨rfl, hb⟩)
  obtain ⟨E, hE, hEb⟩ := ebuilt_3 isEn_p hLf' q hY
  have HER := Lib.hid (show IsRow 55 (nxE f b m) E by unfold nxE; rw [hz, hq]; exact hE)
  have HEB := Lib.hid hEb
  have HLI := Lib.hid hli
  have HWA := Lib.hid hwa
  have HT := Lib.hid hT
  have HF := Lib.hid hF
  have HM := Lib.hid hM'
  have HQ := Lib.hid hQ'
  have HV := Lib.hid hV'
  have HZ := Lib.hid hz
  have HL := Lib.hid hLf'
  have HX := Lib.hid hX
  have HY := Lib.hid hY
  have HIE := Lib.hid hie
  have HIB := Lib.hid hib
  have HI4 := Lib.hid hi4
  have HIP := Lib.hid hip
  have HZE := Lib.hid hZe.1
  have HZB := Lib.hid hZb.1
  have HZP := Lib.hid hZp.1
  have HTAB := Lib.hid hTab
  clear hT hF hM hM' hM2 hQ hQ' hV hV' hli hLf hLf' hq hwa hwe hWv hWv' hX hY hE hEb hie hib hi4 hip hZe hZb hZp hTab hr hs hB hlen hz e2
  go_enter Tryz.func12, Tryz.ntmps12
  go_wp2_with (refine wpList_load_all (by rfl) 36 _ rfl w.heap.size rfl HT.out HW.out.2.1 Tryz.underlying36 rfl HIE.out ?_)
  refine (HR.out _).mono ?_
  rintro e W1 ⟨rfl, hb⟩
  replace HW := Lib.hid (HW.out.next hb)
  clear hb
  go_wp2_with fail
  refine (HS.out W1 HW.out).mono ?_
  rintro e W2 ⟨rfl, hb⟩
  replace HW := Lib.hid (HW.out.next hb)
  clear hb HS HR hall W1
  have c16 := HT.out.cell HW.out.2.1 16 (by omega)
  rw [HZ.out] at c16
  go_wp2_with (refine wpList_load_all (by rfl) 32 _ rfl (w.heap.size + 1) rfl HF.out HW.out.2.2.1 Tryz.underlying32 rfl HIB.out ?_)
  clear c16
  refine (HLI.out W2).mono ?_
  rintro e W3 ⟨rfl, hb⟩
  replace HW := Lib.hid (HW.out.next hb)
  clear hb HLI W2
  go_wp2_with (refine wpList_store_row rfl 32 _ _ rfl W3.heap.size Lf rfl rfl _ _ (heap_alloc_new _ _) (HIB.out _ HL.out.1) (by rw [HZB.out, HL.out.1]) HL.out.2.1 ?_; rw [World.setRow_alloc_new]
               have HC := Lib.hid (show EcS w T F Ze W3.heap.size Lf (W3.alloc (.cells Lf 32)) from ⟨HW.out.alloc _, At.new _ _ _, HW.out.2.2.2.lt⟩)
               clear HW
               revert HC
               generalize W3.heap.size = bl
               generalize World.alloc _ _ = W
               intro HC
               clear W3)
  refine mv_startS (EcS w T F Ze bl Lf) (HC.out.next (Below.refl _ _).drew) fun hS => ?_
  refine mv_yield (i := 0) (d := 38) (.pointer (some ⟨w.heap.size, 0, none⟩)) rfl rfl (by kernel_rfl) (by kernel_rfl) (by kernel_rfl) hS (y_field (by rfl) rfl rfl fld_ep0) ?_
  simp only [Act.put, List.setIfInBounds_toArray, List.set_cons_zero, List.set_cons_succ]
  refine mv_yield (i := 1) (d := 39) (.agg M) rfl rfl (by kernel_rfl) (by kernel_rfl) (by kernel_rfl) hS (y_load_part (l := 0) (by rfl) rfl rfl HT.out (fun w' h => h.1.2.1) HM.out (by omega) (fun i _ => rfl) Tryz.underlying32 rfl (HIB.out _ HM.out.1)) ?_
  simp only [Act.put, List.setIfInBounds_toArray, List.set_cons_zero, List.set_cons_succ]
  refine mv_yield (i := 2) (d := 40) (.agg Lf) rfl rfl (by kernel_rfl) (by kernel_rfl) (by kernel_rfl) hS (y_loadS (by rfl) rfl rfl (fun _ h => h.2.1) Tryz.underlying32 (HIB.out _ HL.out.1)) ?_
  simp only [Act.put, List.setIfInBounds_toArray, List.set_cons_zero, List.set_cons_succ]
  refine mv_yield (i := 4) (d := 42) (.pointer (some ⟨w.heap.size, 17, none⟩)) rfl rfl (by kernel_rfl) (by kernel_rfl) (by kernel_rfl) hS (y_field (by rfl) rfl rfl fld_ep2) ?_
  simp only [Act.put, List.setIfInBounds_toArray, List.set_cons_zero, List.set_cons_succ]
  refine mv_yield (i := 5) (d := 43) (.pointer (some ⟨w.heap.size, 17 + 17, none⟩)) rfl rfl (by kernel_rfl) (by kernel_rfl) (by kernel_rfl) hS (fld_off fld_ps2 (by rfl) rfl rfl) ?_
  simp only [Act.put, List.setIfInBounds_toArray, List.set_cons_zero, List.set_cons_succ]
  refine mv_yield (i := 6) (d := 44) (.agg V) rfl rfl (by kernel_rfl) (by kernel_rfl) (by kernel_rfl) hS (y_load_part (l := 34) (by rfl) rfl rfl HT.out (fun w' h => h.1.2.1) HV.out (by omega) (fun i _ => rfl) Tryz.underlying23 rfl (HI4.out _ HV.out.1)) ?_
  simp only [Act.put, List.setIfInBounds_toArray, List.set_cons_zero, List.set_cons_succ]
  refine mv_yield (i := 7) (d := 45) (.int .i64 m) rfl rfl (by kernel_rfl) (by kernel_rfl) (by kernel_rfl) hS (y_run (by rfl) fun _ => by rfl) ?_
  simp only [Act.put, List.setIfInBounds_toArray, List.set_cons_zero, List.set_cons_succ]
  refine mv_ready [3] (by kernel_rfl) (by simp) (ar_callP (d := 41) #[.agg M, .agg Lf] rfl rfl (by rfl) rfl enter_waves (by kernel_rfl) (HWA.out _) (fun w' h => hS.next h) ?_ AllReadyH.nil)
  clear hS
  rintro w5 _ hS
  simp only [Act.put, List.setIfInBounds_toArray, List.set_cons_zero, List.set_cons_succ]
  refine mv_ready [8] (by kernel_rfl) (by simp) (ar_callP (d := 46) #[.agg Wv, .agg V, .int .i64 m] rfl rfl (by rfl) rfl enter_pack (by kernel_rfl) (HPK.out _ (HTAB.out.next hS.1.1)) (fun w' h => hS.next h) ?_ AllReadyH.nil)
  clear hS
  rintro w6 _ hS
  simp only [Act.put, List.setIfInBounds_toArray, List.set_cons_zero, List.set_cons_succ]
  refine mv_yield (i := 9) (d := 11) (.string B) rfl rfl (by kernel_rfl) (by kernel_rfl) (by kernel_rfl) hS (y_run (by rfl) fun _ => by rfl) ?_
  simp only [Act.put, List.setIfInBounds_toArray, List.set_cons_zero, List.set_cons_succ]
  refine mv_done (by kernel_rfl) ?_
  have HC6 := Lib.hid hS
  clear hS HC HWA HPK
  go_wp2_with (refine wpList_load_part (by rfl) 34 _ rfl w.heap.size 17 rfl HT.out HC6.out.1.2.1 HQ.out (by omega) (fun i _ => rfl) Tryz.underlying34 rfl (HIP.out _ HQ.out.1) ?_)
  refine (HDE.out _ (HTAB.out.next HC6.out.1.1)).mono ?_
  rintro e w7 ⟨rfl, hb⟩
  have HC7 := Lib.hid (HC6.out.next hb)
  clear hb HC6 HDE
  have HU := Lib.hid (Duo.start (Below.refl w7.heap.size w7) Zb Zp 32 34)
  go_wp2_with (first
    | (refine wpList_store_row rfl 32 _ _ rfl w7.heap.size X rfl rfl _ _ HU.out.2.2.1 (HIB.out _ HX.out.1) (by rw [HZB.out, HX.out.1]) HX.out.2.1 ?_
       replace HU := Lib.hid (HU.out.set1 X)
       revert HU
       generalize World.setRow _ _ _ = W4
       intro HU)
    | (refine wpList_store_row rfl 34 _ _ rfl (w7.heap.size + 1) Y rfl rfl _ _ HU.out.2.2.2 (HIP.out _ HY.out.1) (by rw [HZP.out, HY.out.1]) HY.out.2.1 ?_
       replace HU := Lib.hid (HU.out.set2 Y)
       have HC8 := Lib.hid (HC7.out.next HU.out.1)
       have AY := Lib.hid HU.out.2.2.2
       have hb8 : w.heap.size + 1 + 1 < w7.heap.size + 1 := by have := HC7.out.1.2.2.2.lt; omega
       clear HC7 HU
       revert AY HC8 hb8
       generalize World.setRow _ _ _ = W5
       generalize w7.heap.size + 1 = by8
       intro HC8 AY hb8))
  refine mf_start (fun w' => (∃ Z : Array Value, Z.size = 55 ∧ EcS w T F Z bl Lf w') ∧ At w' by8 Y 34) (fun i => i == 6) ⟨⟨Ze, HZE.out, HC8.out.next (Below.refl _ _).drew⟩, AY.out.below (Below.refl _ _).drew AY.out.lt⟩ fun hS => ?_
  refine mf_yield (i := 0) (d := 55) (.string B) rfl rfl (by kernel_rfl) (by kernel_rfl) (by kernel_rfl) (by kernel_rfl) hS (y_run (by rfl) fun _ => by rfl) ?_
  simp only [Act.put, List.setIfInBounds_toArray, List.set_cons_zero, List.set_cons_succ]
  refine mf_yield (i := 1) (d := 56) (.agg Lf) rfl rfl (by kernel_rfl) (by kernel_rfl) (by kernel_rfl) (by kernel_rfl) hS (y_loadS (by rfl) rfl rfl (fun _ h => by obtain ⟨⟨_, _, h⟩, _⟩ := h; exact h.2.1) Tryz.underlying32 (HIB.out _ HL.out.1)) ?_
  simp only [Act.put, List.setIfInBounds_toArray, List.set_cons_zero, List.set_cons_succ]
  refine mf_yield (i := 2) (d := 57) (.int .i64 q) rfl rfl (by kernel_rfl) (by kernel_rfl) (by kernel_rfl) (by kernel_rfl) hS (y_run (by rfl) fun _ => by rfl) ?_
  simp only [Act.put, List.setIfInBounds_toArray, List.set_cons_zero, List.set_cons_succ]
  refine mf_yield (i := 3) (d := 58) (.agg Y) rfl rfl (by kernel_rfl) (by kernel_rfl) (by kernel_rfl) (by kernel_rfl) hS (y_load_part (l := 0) (by rfl) rfl rfl HY.out (fun w' h => h.2) HY.out (by omega) (fun i _ => by rw [Nat.zero_add]) Tryz.underlying34 rfl (HIP.out _ HY.out.1)) ?_
  simp only [Act.put, List.setIfInBounds_toArray, List.set_cons_zero, List.set_cons_succ]
  refine mf_yield (i := 4) (d := 59) (.agg E) rfl rfl (by kernel_rfl) (by kernel_rfl) (by kernel_rfl) (by kernel_rfl) hS (y_build_parts (L := [(0, .tmp 56), (1, .tmp 57), (2, .tmp 58)]) (by rfl) rfl _ rfl HEB.out) ?_
  simp only [Act.put, List.setIfInBounds_toArray, List.set_cons_zero, List.set_cons_succ]
  refine mf_yield (i := 5) (d := 6) (.string B) rfl rfl (by kernel_rfl) (by kernel_rfl) (by kernel_rfl) (by kernel_rfl) hS (y_run (by rfl) fun _ => by rfl) ?_
  simp only [Act.put, List.setIfInBounds_toArray, List.set_cons_zero, List.set_cons_succ]
  obtain ⟨Zo, hzo, hZo⟩ := hS.1
  refine mf_ready [6] (by kernel_rfl) (by simp) (af_store (i := 6) (w.heap.size + 1 + 1) E Zo rfl rfl (by rfl) rfl rfl rfl rfl hZo.1.2.2.2 (by rw [hzo, HER.out.1]) HER.out.2.1 (HIE.out _ HER.out.1) ?_ AllReadyF.nil)
  have HW9 := Lib.hid (Tri.set3 hZo.1 E)
  have hS9 : (∃ Z : Array Value, Z.size = 55 ∧ EcS w T F Z bl Lf (World.setRow _ (w.heap.size + 1 + 1) E)) ∧ At (World.setRow _ (w.heap.size + 1 + 1) E) by8 Y 34 := ⟨⟨E, HER.out.1, HW9.out, hZo.2.1.setRow_other (by have := hZo.2.2; omega), hZo.2.2⟩, hS.2.setRow_other (by omega)⟩
  clear hS hZo hzo Zo
  have hS := hS9
  clear hS9
  refine mf_ready [7] (by kernel_rfl) (by simp) (af_assign (i := 7) (d := 8) (v := .int .i64 0) rfl rfl (by rfl) (fun _ => by rfl) (fun _ => hS) ?_ AllReadyF.nil)
  simp only [Act.put, List.setIfInBounds_toArray, List.set_cons_zero, List.set_cons_succ]
  refine mf_done (by kernel_rfl) ?_
  clear hS HC8 AY
  revert HW9
  generalize World.setRow _ _ _ = W9
  intro HW9
  go_wp2_with fail
  exact bodyPost_ret (v := .tuple #[.string B, .agg E, .int .i64 0]) (results_three rfl _ _ (w.heap.size + 1 + 1) E _ rfl rfl rfl HW9.out.2.2.2 Tryz.underlying36 rfl (HIE.out _ HER.out.1)) rfl ⟨⟨E, rfl, HER.out⟩, HW9.out.1⟩
end Go.Proofs.YtfohinlldchdpaaGreatDoor.En
end
