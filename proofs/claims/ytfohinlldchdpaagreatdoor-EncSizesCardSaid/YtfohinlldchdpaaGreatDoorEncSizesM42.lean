/- Texts of the walk, one behind the other. -/
import Derived.Test.YtfohinlldchdpaaGreatDoorEncSizesM27
import Derived.Test.YtfohinlldchdpaaGreatDoorEncSizesM41
import Derived.Test.YtfohinlldchdpaaGreatDoorEncSizesM40
import Derived.Test.YtfohinlldchdpaaGreatDoorEncSizesM8
import Derived.Test.YtfohinlldchdpaaGreatDoorEncSizesM6
import Derived.Test.YtfohinlldchdpaaGreatDoorEncSizesM43
import Derived.Test.YtfohinlldchdpaaGreatDoorEncSizesM1
import Derived.Great.BuildSlice
import Derived.Laws.EntriesVeiled
import Derived.Test.YtfohinlldchdpaaGreatDoorEncSizesM47
import Derived.Test.YtfohinlldchdpaaGreatDoorEncSizesM46

section
/- Contract: enc's Encode. -/
set_option maxRecDepth 100000
set_option linter.unusedVariables false
namespace Go.Proofs.YtfohinlldchdpaaGreatDoor.En
open Go.RowKit Go.Proofs.YtfohinlldchdpaaGreatDoor.Row Go.Proofs.YtfohinlldchdpaaGreatDoor.Rg Go.Proofs.YtfohinlldchdpaaGreatDoor.Md Go.Proofs.YtfohinlldchdpaaGreatDoor.Tl Go.Proofs.YtfohinlldchdpaaGreatDoor.Sta

theorem results_three {fn : Func} {p q r : Tmp} {t : TypeId} {y z : Value} (h : fn.results = #[.tmp q, .cell p t, .tmp r]) (tmps : Array Value) (w : World) (g : Nat) (A : Array Value) {u : TypeId} (d : TypeDesc)
    (hq : tmps.getD q undef = y) (hp : tmps.getD p undef = .pointer (some ⟨g, 0, none⟩)) (hr : tmps.getD r undef = z) (hg : At w g A u)
    (hu : Tryz.prog.underlying t = some d) (hd : d.isRow = true) (hA : (Tryz.prog.info? t).map (·.size) = some A.size) :
    (results fn tmps).run Tryz.prog w = .ok (.tuple #[y, .agg A, z]) w := by
  have hp' : tmps[p]?.getD undef = .pointer (some ⟨g, 0, none⟩) := by simpa using hp
  have hq' : tmps[q]?.getD undef = y := by simpa using hq
  have hr' : tmps[r]?.getD undef = z := by simpa using hr
  have h1 := run_loadVar_row w g u t A (0, 0) _ hg hu (by cases d <;> first | rfl | cases hd) hA
  simp [results, h, hp', hq', hr', asAddr, h1]

/-- A packet, an encoder, and how it went. -/
def RetEc (w : World) (B : ByteArray) (g : Nat → Int) (z : Int) (e : Ending) (w' : World) : Prop := (∃ Q, e = .returned (.tuple #[.string B, .agg Q, .int .i64 z]) ∧ IsRow 55 g Q) ∧ Below w.heap.size w w'
theorem as_E {fn : FuncId} {args : Array Value} {Q : Array Value} {B : ByteArray} {g : Nat → Int} {z : Int} {w : World} (H : Calls Tryz.prog fn args w (RetEc w B g z)) (hQ : IsRow 55 g Q) :
    Calls Tryz.prog fn args w fun e w' => e = .returned (.tuple #[.string B, .agg Q, .int .i64 z]) ∧ Below w.heap.size w w' := by
  refine H.mono ?_
  rintro e w' ⟨⟨Q', rfl, hQ'⟩, hb⟩
  obtain rfl := hQ'.eq hQ fun _ _ => rfl
  exact ⟨rfl, hb⟩
theorem Tri.set3 {w w1 : World} {T V U : Array Value} {t v u : TypeId} (h : Tri w T V U t v u w1) (R : Array Value) : Tri w T V R t v u (w1.setRow (w.heap.size + 1 + 1) R) :=
  ⟨below_setRow' h.1 (by omega) _, h.2.1.setRow_other (by omega), h.2.2.1.setRow_other (by omega), h.2.2.2.setRow⟩

set_option maxHeartbeats 1000000 in
theorem encode_size (T F : Array Value) (f b : Nat → Int) (m : Int) (w : World) (hT : IsRow 55 f T) (hF : IsRow 16 b F) (h : m < 10 ∨ 32 < m) :
    Calls Tryz.prog 12 #[.agg T, .agg F, .int .i64 m] w (RetEc w ⟨#[]⟩ (fun _ => 0) 10) := by
  obtain ⟨Ze, hZe, _, hze, hie⟩ := zero_ep
  obtain ⟨G, hG, bG⟩ := ebuilt_0 isEn_p
  have HW := Lib.hid (Tri.start w T F Ze 36 32 36)
  have HIE := Lib.hid hie
  have HZE := Lib.hid hZe.1
  have HG := Lib.hid hG
  have HBG := Lib.hid bG
  clear hT hF hie hZe hG bG
  have key : ∀ W : World, Hid (Tri w T F Ze 36 32 36 W) → Tri w T F G 36 32 36 (W.setRow (w.heap.size + 1 + 1) G) := fun W h => Tri.set3 h.out G
  have HK := Lib.hid key
  clear key
  by_cases h1 : m < 10
  · clear h
    go_enter Tryz.func12, Tryz.ntmps12
    go_wp2_with (first
      | refine wpList_build_parts (by rfl) 36 [] rfl _ rfl HBG.out ?_
      | (refine wpList_store_row rfl 36 _ _ rfl (w.heap.size + 1 + 1) G rfl rfl _ _ HW.out.2.2.2 (HIE.out _ HG.out.1) (by rw [HZE.out, HG.out.1]) HG.out.2.1 ?_
         have HW2 := Lib.hid (HK.out _ HW)
         clear HW
         revert HW2
         generalize World.setRow _ _ _ = W
         intro HW2))
    exact bodyPost_ret (v := .tuple #[.string ⟨#[]⟩, .agg G, .int .i64 10]) (results_three rfl _ _ (w.heap.size + 1 + 1) G _ rfl rfl rfl HW2.out.2.2.2 Tryz.underlying36 rfl (HIE.out _ HG.out.1)) rfl ⟨⟨G, rfl, HG.out⟩, HW2.out.1⟩
  · have h2 : 32 < m := by omega
    clear h
    go_enter Tryz.func12, Tryz.ntmps12
    go_wp2_with (first
      | refine wpList_build_parts (by rfl) 36 [] rfl _ rfl HBG.out ?_
      | (refine wpList_store_row rfl 36 _ _ rfl (w.heap.size + 1 + 1) G rfl rfl _ _ HW.out.2.2.2 (HIE.out _ HG.out.1) (by rw [HZE.out, HG.out.1]) HG.out.2.1 ?_
         have HW2 := Lib.hid (HK.out _ HW)
         clear HW
         revert HW2
         generalize World.setRow _ _ _ = W
         intro HW2))
    exact bodyPost_ret (v := .tuple #[.string ⟨#[]⟩, .agg G, .int .i64 10]) (results_three rfl _ _ (w.heap.size + 1 + 1) G _ rfl rfl rfl HW2.out.2.2.2 Tryz.underlying36 rfl (HIE.out _ HG.out.1)) rfl ⟨⟨G, rfl, HG.out⟩, HW2.out.1⟩

theorem tri_sl {w w1 : World} {T F Z : Array Value} {t u : TypeId} {b : Nat → Int} (h : Tri w T F Z t 32 u w1) (hF : IsRow 16 b F) : Sl .i64 w1 (some ⟨w.heap.size + 1, 0, none⟩) 16 16 b :=
  ⟨Nat.le_refl _, by unfold maxLen; omega, fun _ => ⟨_, _, rfl, fun i hi => by rw [Nat.zero_add]; exact hF.cell h.2.2.1 i hi⟩⟩

set_option maxHeartbeats 1000000 in
theorem encode_no (T F : Array Value) (f b : Nat → Int) (m : Nat) (w : World) (hT : IsRow 55 f T) (hF : IsRow 16 b F) (h10 : 10 ≤ m) (h32 : m ≤ 32) (h : ¬ (Re f ∧ Snd b)) :
    Calls Tryz.prog 12 #[.agg T, .agg F, .int .i64 m] w (RetEc w ⟨#[]⟩ (fun _ => 0) 1) := by
  obtain ⟨Ze, hZe, _, hze, hie⟩ := zero_ep
  obtain ⟨G, hG, bG⟩ := ebuilt_0 isEn_p
  have HW := Lib.hid (Tri.start w T F Ze 36 32 36)
  have HIE := Lib.hid hie
  have HZE := Lib.hid hZe.1
  have HG := Lib.hid hG
  have HBG := Lib.hid bG
  have HT := Lib.hid hT
  have HF := Lib.hid hF
  have hall := run_all16 (w.heap.size + 1)
  have FIN := Lib.hid (fun (W : World) (h : Tri w T F Ze 36 32 36 W) => Tri.set3 h G)
  by_cases hr : Re f
  · have HR := Lib.hid (fun w => eright_any T f true w hT ⟨fun _ => hr, fun _ => rfl⟩)
    have e2 : allB b (-32768) 32767 16 = false := by
      rw [Bool.eq_false_iff]
      intro hh
      exact h ⟨hr, (allB_iff b _ _ 16).1 hh⟩
    have HS := Lib.hid (show ∀ W, Tri w T F Ze 36 32 36 W → Calls Tryz.prog 27 #[.slice (some ⟨w.heap.size + 1, 0, none⟩) 16 16] W fun r w' => r = .returned (.bool false) ∧ Below W.heap.size W w' from fun W h => by
      have := areSamples_any (some ⟨w.heap.size + 1, 0, none⟩) 16 16 b W (tri_sl h hF)
      rw [e2] at this
      exact this)
    clear hT hF hie hZe hG bG h hr e2
    go_enter Tryz.func12, Tryz.ntmps12
    go_wp2_with (refine wpList_load_all (by rfl) 36 _ rfl w.heap.size rfl HT.out HW.out.2.1 Tryz.underlying36 rfl HIE.out ?_)
    refine (HR.out _).mono ?_
    rintro e W1 ⟨rfl, hb⟩
    replace HW := Lib.hid (HW.out.next hb)
    clear hb
    go_wp2_with fail
    refine (HS.out W1 HW.out).mono ?_
    rintro e W2 ⟨rfl, hb⟩
    replace HW := Lib.hid (HW.out.next hb)
    clear hb HS HR
    go_wp2_with (first
      | refine wpList_build_parts (by rfl) 36 [] rfl _ rfl HBG.out ?_
      | (refine wpList_store_row rfl 36 _ _ rfl (w.heap.size + 1 + 1) G rfl rfl _ _ HW.out.2.2.2 (HIE.out _ HG.out.1) (by rw [HZE.out, HG.out.1]) HG.out.2.1 ?_
         have HW2 := Lib.hid (FIN.out _ HW.out)
         clear HW
         revert HW2
         generalize World.setRow _ _ _ = W
         intro HW2))
    exact bodyPost_ret (v := .tuple #[.string ⟨#[]⟩, .agg G, .int .i64 1]) (results_three rfl _ _ (w.heap.size + 1 + 1) G _ rfl rfl rfl HW2.out.2.2.2 Tryz.underlying36 rfl (HIE.out _ HG.out.1)) rfl ⟨⟨G, rfl, HG.out⟩, HW2.out.1⟩
  · have HR := Lib.hid (fun w => eright_any T f false w hT ⟨fun h => (by cases h), fun h => absurd h hr⟩)
    clear hT hF hie hZe hG bG h hr
    go_enter Tryz.func12, Tryz.ntmps12
    go_wp2_with (refine wpList_load_all (by rfl) 36 _ rfl w.heap.size rfl HT.out HW.out.2.1 Tryz.underlying36 rfl HIE.out ?_)
    refine (HR.out _).mono ?_
    rintro e W1 ⟨rfl, hb⟩
    replace HW := Lib.hid (HW.out.next hb)
    clear hb HR
    go_wp2_with (first
      | refine wpList_build_parts (by rfl) 36 [] rfl _ rfl HBG.out ?_
      | (refine wpList_store_row rfl 36 _ _ rfl (w.heap.size + 1 + 1) G rfl rfl _ _ HW.out.2.2.2 (HIE.out _ HG.out.1) (by rw [HZE.out, HG.out.1]) HG.out.2.1 ?_
         have HW2 := Lib.hid (FIN.out _ HW.out)
         clear HW
         revert HW2
         generalize World.setRow _ _ _ = W
         intro HW2))
    exact bodyPost_ret (v := .tuple #[.string ⟨#[]⟩, .agg G, .int .i64 1]) (results_three rfl _ _ (w.heap.size + 1 + 1) G _ rfl rfl rfl HW2.out.2.2.2 Tryz.underlying36 rfl (HIE.out _ HG.out.1)) rfl ⟨⟨G, rfl, HG.out⟩, HW2.out.1⟩

theorem enter_waves (args : Array Value) (w : World) : (callFunc 23 args).run Tryz.prog w = .ok (.enter 23 args) w := run_enter Tryz.func23 (by kernel_rfl) rfl args w
theorem enter_pack (args : Array Value) (w : World) : (callFunc 28 args).run Tryz.prog w = .ok (.enter 28 args) w := run_enter Tryz.func28 (by kernel_rfl) rfl args w
theorem fld_off {t : TypeId} {i o : Nat} (h : ∀ b q w, (Instr.fieldAt t (.pointer (some ⟨b, q, none⟩)) i).run Tryz.prog w = .ok (.pointer (some ⟨b, q + o, none⟩)) w) {ops : Array Oper} {S : World → Prop} {oi : Oper} {a : Act} {y : Operand} {b q : Nat} (hw : Region.wanted oi (yielded ops a.tmps) = true) (ho : oi.op = .fieldAddr t y i) (hy : a.eval y = .pointer (some ⟨b, q, none⟩)) :
    YieldsIf Tryz.prog ops S oi (.pointer (some ⟨b, q + o, none⟩)) a :=
  y_run hw fun w => by
    unfold execOp
    simp only [ho, hy, h, Sem.run_bind, Result.andThen_ok, Sem.run_pure]
theorem fld_ps2 (b q : Nat) (w : World) : (Instr.fieldAt 34 (.pointer (some ⟨b, q, none⟩)) 2).run Tryz.prog w = .ok (.pointer (some ⟨b, q + 17, none⟩)) w := by
  unfold Instr.fieldAt
  simp [Sem.run_bind, run_underlying Tryz.underlying34, Instr.sureAddr, go_sem, Addr.add]

/-- What stands while Encode works: what came in, the result's row, the lifted frame. -/
def EcS (w : World) (T F Z : Array Value) (bl : Nat) (Lf : Array Value) (w' : World) : Prop := Tri w T F Z 36 32 36 w' ∧ At w' bl Lf 32 ∧ w.heap.size + 1 + 1 < bl
theorem EcS.next {w w1 w2 : World} {T F Z Lf : Array Value} {bl : Nat} (h : EcS w T F Z bl Lf w1) (hb : Below w1.heap.size w1 w2) : EcS w T F Z bl Lf w2 := ⟨h.1.next hb, h.2.1.below hb h.2.1.lt, h.2.2⟩

set_option maxHeartbeats 4000000 in
theorem encode_yes (T F : Array Value) (f b : Nat → Int) (m : Nat) (B : ByteArray) (w : World) (hT : IsRow 55 f T) (hF : IsRow 16 b F) (h10 : 10 ≤ m) (h32 : m ≤ 32) (hr : Re f) (hs : Snd b) (hB : ⟨(pkt f b m).toArray⟩ = B) (hTab : Lv.Tab w) :
    Calls Tryz.prog 12 #[.agg T, .agg F, .int .i64 m] w (RetEc w B (nxE f b m) 0) := by
  obtain ⟨Ze, hZe, _, hze, hie⟩ := zero_ep
  obtain ⟨Zb, hZb, _, hzb, hib⟩ := zero_b
  obtain ⟨_, _, _, _, hi4⟩ := zero_4
  obtain ⟨Zp, hZp, _, hzp, hip⟩ := zero_p
  have HW := Lib.hid (Tri.start w T F Ze 36 32 36)
  have hall := run_all16 (w.heap.size + 1)
  have HR := Lib.hid (fun w => eright_any T f true w hT ⟨fun _ => hr, fun _ => rfl⟩)
  have e2 : allB b (-32768) 32767 16 = true := (allB_iff b _ _ 16).2 hs
  have HS := Lib.hid (show ∀ W, Tri w T F Ze 36 32 36 W → Calls Tryz.prog 27 #[.slice (some ⟨w.heap.size + 1, 0, none⟩) 16 16] W fun r w' => r = .returned (.bool true) ∧ Below W.heap.size W w' from fun W h => by
    have := areSamples_any (some ⟨w.heap.size + 1, 0, none⟩) 16 16 b W (tri_sl h hF)
    rw [e2] at this
    exact this)
  obtain ⟨M, hM⟩ : ∃ M, T.extract 0 (0 + 16) = M := ⟨_, rfl⟩
  have hM' := hT.sub (show 0 + 16 ≤ 55 by omega)
  rw [hM] at hM'
  have hM2 : IsRow 16 f M := hM'.ext fun i _ => by rw [Nat.zero_add]
  obtain ⟨Q, hQ⟩ : ∃ M, T.extract 17 (17 + 38) = M := ⟨_, rfl⟩
  have hQ' := hT.sub (show 17 + 38 ≤ 55 by omega)
  rw [hQ] at hQ'
  obtain ⟨V, hV⟩ : ∃ M, T.extract 34 (34 + 4) = M := ⟨_, rfl⟩
  have hV' := hT.sub (show 34 + 4 ≤ 55 by omega)
  rw [hV] at hV'
  obtain ⟨z, hz⟩ : ∃ z, f 16 = z := ⟨_, rfl⟩
  have hli := fun w => lift_any z F b w hF
  obtain ⟨Lf, hLf⟩ : ∃ L, rowL 16 (liS z b) 16 = L := ⟨_, rfl⟩
  have hLf' : IsRow 16 (liS z b) Lf := by rw [← hLf]; exact isRow _ _
  obtain ⟨q, hq⟩ : ∃ q, ct22 (b 15) = q := ⟨_, rfl⟩
  rw [hLf, hq] at hli
  have hwa := fun w => waves_yes M Lf f (liS z b) hM2 hLf' (prev_le hr) (by rw [← hz]; exact li_le hr.2.1 hs) w
  have hwe : wS f (liS z b) = wvE f b := by unfold wvE; rw [hz]
  rw [hwe] at hwa
  obtain ⟨Wv, hWv⟩ : ∃ L, rowL 16 (wvE f b) 16 = L := ⟨_, rfl⟩
  have hWv' : IsRow 16 (wvE f b) Wv := by rw [← hWv]; exact isRow _ _
  rw [hWv] at hwa
  have HPK := Lib.hid (fun w hT => pack_as Wv V (wvE f b) (lvA f) m B w hWv' hV' (lvA_ok hr) h10 h32 hB hT)
  have hlen : B.size = m := by
    rw [← hB]
    show (pkt f b m).toArray.size = m
    rw [List.size_toArray]; exact pkt_length hr h10 h32
  obtain ⟨X, hX⟩ : ∃ X, IsRow 16 (De.soD (byteF (pkt f b m)) (stE f) m) X := ⟨_, isRow _ _⟩
  obtain ⟨Y, hY⟩ : ∃ X, IsRow 38 (De.nxD (byteF (pkt f b m)) (stE f) m) X := ⟨_, isRow _ _⟩
  have HDE := Lib.hid (show ∀ w', Lv.Tab w' → Calls Tryz.prog 16 #[.agg Q, .string B] w' fun e w'' => e = .returned (.tuple #[.agg X, .agg Y, .int .i64 0]) ∧ Below w'.heap.size w' w'' from fun w' hT' => by
    refine (De.decode_yes Q (stE f) B (pkt f b m) m w' hQ' hB hlen ⟨h10, h32⟩ hr.2.2 hT').mono ?_
    rintro e w'' ⟨⟨R', Q', rfl, hR', hQ''⟩, hb⟩
    obtain rfl := hR'.eq hX fun _ _ => rfl
    obtain rfl := hQ''.eq hY fun _ _ => rfl
    exact ⟨rfl, hb⟩)
  obtain ⟨E, hE, hEb⟩ := ebuilt_3 isEn_p hLf' q hY
  have HER := Lib.hid (show IsRow 55 (nxE f b m) E by unfold nxE; rw [hz, hq]; exact hE)
  have HEB := Lib.hid hEb
  have HLI := Lib.hid hli
  have HWA := Lib.hid hwa
  have HT := Lib.hid hT
  have HF := Lib.hid hF
  have HM := Lib.hid hM'
  have HQ := Lib.hid hQ'
  have HV := Lib.hid hV'
  have HZ := Lib.hid hz
  have HL := Lib.hid hLf'
  have HX := Lib.hid hX
  have HY := Lib.hid hY
  have HIE := Lib.hid hie
  have HIB := Lib.hid hib
  have HI4 := Lib.hid hi4
  have HIP := Lib.hid hip
  have HZE := Lib.hid hZe.1
  have HZB := Lib.hid hZb.1
  have HZP := Lib.hid hZp.1
  have HTAB := Lib.hid hTab
  clear hT hF hM hM' hM2 hQ hQ' hV hV' hli hLf hLf' hq hwa hwe hWv hWv' hX hY hE hEb hie hib hi4 hip hZe hZb hZp hTab hr hs hB hlen hz e2
  go_enter Tryz.func12, Tryz.ntmps12
  go_wp2_with (refine wpList_load_all (by rfl) 36 _ rfl w.heap.size rfl HT.out HW.out.2.1 Tryz.underlying36 rfl HIE.out ?_)
  refine (HR.out _).mono ?_
  rintro e W1 ⟨rfl, hb⟩
  replace HW := Lib.hid (HW.out.next hb)
  clear hb
  go_wp2_with fail
  refine (HS.out W1 HW.out).mono ?_
  rintro e W2 ⟨rfl, hb⟩
  replace HW := Lib.hid (HW.out.next hb)
  clear hb HS HR hall W1
  have c16 := HT.out.cell HW.out.2.1 16 (by omega)
  rw [HZ.out] at c16
  go_wp2_with (refine wpList_load_all (by rfl) 32 _ rfl (w.heap.size + 1) rfl HF.out HW.out.2.2.1 Tryz.underlying32 rfl HIB.out ?_)
  clear c16
  refine (HLI.out W2).mono ?_
  rintro e W3 ⟨rfl, hb⟩
  replace HW := Lib.hid (HW.out.next hb)
  clear hb HLI W2
  go_wp2_with (refine wpList_store_row rfl 32 _ _ rfl W3.heap.size Lf rfl rfl _ _ (heap_alloc_new _ _) (HIB.out _ HL.out.1) (by rw [HZB.out, HL.out.1]) HL.out.2.1 ?_; rw [World.setRow_alloc_new]
               have HC := Lib.hid (show EcS w T F Ze W3.heap.size Lf (W3.alloc (.cells Lf 32)) from ⟨HW.out.alloc _, At.new _ _ _, HW.out.2.2.2.lt⟩)
               clear HW
               revert HC
               generalize W3.heap.size = bl
               generalize World.alloc _ _ = W
               intro HC
               clear W3)
  refine mv_startS (EcS w T F Ze bl Lf) (HC.out.next (Below.refl _ _).drew) fun hS => ?_
  refine mv_yield (i := 0) (d := 38) (.pointer (some ⟨w.heap.size, 0, none⟩)) rfl rfl (by kernel_rfl) (by kernel_rfl) (by kernel_rfl) hS (y_field (by rfl) rfl rfl fld_ep0) ?_
  simp only [Act.put, List.setIfInBounds_toArray, List.set_cons_zero, List.set_cons_succ]
  refine mv_yield (i := 1) (d := 39) (.agg M) rfl rfl (by kernel_rfl) (by kernel_rfl) (by kernel_rfl) hS (y_load_part (l := 0) (by rfl) rfl rfl HT.out (fun w' h => h.1.2.1) HM.out (by omega) (fun i _ => rfl) Tryz.underlying32 rfl (HIB.out _ HM.out.1)) ?_
  simp only [Act.put, List.setIfInBounds_toArray, List.set_cons_zero, List.set_cons_succ]
  refine mv_yield (i := 2) (d := 40) (.agg Lf) rfl rfl (by kernel_rfl) (by kernel_rfl) (by kernel_rfl) hS (y_loadS (by rfl) rfl rfl (fun _ h => h.2.1) Tryz.underlying32 (HIB.out _ HL.out.1)) ?_
  simp only [Act.put, List.setIfInBounds_toArray, List.set_cons_zero, List.set_cons_succ]
  refine mv_yield (i := 4) (d := 42) (.pointer (some ⟨w.heap.size, 17, none⟩)) rfl rfl (by kernel_rfl) (by kernel_rfl) (by kernel_rfl) hS (y_field (by rfl) rfl rfl fld_ep2) ?_
  simp only [Act.put, List.setIfInBounds_toArray, List.set_cons_zero, List.set_cons_succ]
  refine mv_yield (i := 5) (d := 43) (.pointer (some ⟨w.heap.size, 17 + 17, none⟩)) rfl rfl (by kernel_rfl) (by kernel_rfl) (by kernel_rfl) hS (fld_off fld_ps2 (by rfl) rfl rfl) ?_
  simp only [Act.put, List.setIfInBounds_toArray, List.set_cons_zero, List.set_cons_succ]
  refine mv_yield (i := 6) (d := 44) (.agg V) rfl rfl (by kernel_rfl) (by kernel_rfl) (by kernel_rfl) hS (y_load_part (l := 34) (by rfl) rfl rfl HT.out (fun w' h => h.1.2.1) HV.out (by omega) (fun i _ => rfl) Tryz.underlying23 rfl (HI4.out _ HV.out.1)) ?_
  simp only [Act.put, List.setIfInBounds_toArray, List.set_cons_zero, List.set_cons_succ]
  refine mv_yield (i := 7) (d := 45) (.int .i64 m) rfl rfl (by kernel_rfl) (by kernel_rfl) (by kernel_rfl) hS (y_run (by rfl) fun _ => by rfl) ?_
  simp only [Act.put, List.setIfInBounds_toArray, List.set_cons_zero, List.set_cons_succ]
  refine mv_ready [3] (by kernel_rfl) (by simp) (ar_callP (d := 41) #[.agg M, .agg Lf] rfl rfl (by rfl) rfl enter_waves (by kernel_rfl) (HWA.out _) (fun w' h => hS.next h) ?_ AllReadyH.nil)
  clear hS
  rintro w5 _ hS
  simp only [Act.put, List.setIfInBounds_toArray, List.set_cons_zero, List.set_cons_succ]
  refine mv_ready [8] (by kernel_rfl) (by simp) (ar_callP (d := 46) #[.agg Wv, .agg V, .int .i64 m] rfl rfl (by rfl) rfl enter_pack (by kernel_rfl) (HPK.out _ (HTAB.out.next hS.1.1)) (fun w' h => hS.next h) ?_ AllReadyH.nil)
  clear hS
  rintro w6 _ hS
  simp only [Act.put, List.setIfInBounds_toArray, List.set_cons_zero, List.set_cons_succ]
  refine mv_yield (i := 9) (d := 11) (.string B) rfl rfl (by kernel_rfl) (by kernel_rfl) (by kernel_rfl) hS (y_run (by rfl) fun _ => by rfl) ?_
  simp only [Act.put, List.setIfInBounds_toArray, List.set_cons_zero, List.set_cons_succ]
  refine mv_done (by kernel_rfl) ?_
  have HC6 := Lib.hid hS
  clear hS HC HWA HPK
  go_wp2_with (refine wpList_load_part (by rfl) 34 _ rfl w.heap.size 17 rfl HT.out HC6.out.1.2.1 HQ.out (by omega) (fun i _ => rfl) Tryz.underlying34 rfl (HIP.out _ HQ.out.1) ?_)
  refine (HDE.out _ (HTAB.out.next HC6.out.1.1)).mono ?_
  rintro e w7 ⟨rfl, hb⟩
  have HC7 := Lib.hid (HC6.out.next hb)
  clear hb HC6 HDE
  have HU := Lib.hid (Duo.start (Below.refl w7.heap.size w7) Zb Zp 32 34)
  go_wp2_with (first
    | (refine wpList_store_row rfl 32 _ _ rfl w7.heap.size X rfl rfl _ _ HU.out.2.2.1 (HIB.out _ HX.out.1) (by rw [HZB.out, HX.out.1]) HX.out.2.1 ?_
       replace HU := Lib.hid (HU.out.set1 X)
       revert HU
       generalize World.setRow _ _ _ = W4
       intro HU)
    | (refine wpList_store_row rfl 34 _ _ rfl (w7.heap.size + 1) Y rfl rfl _ _ HU.out.2.2.2 (HIP.out _ HY.out.1) (by rw [HZP.out, HY.out.1]) HY.out.2.1 ?_
       replace HU := Lib.hid (HU.out.set2 Y)
       have HC8 := Lib.hid (HC7.out.next HU.out.1)
       have AY := Lib.hid HU.out.2.2.2
       have hb8 : w.heap.size + 1 + 1 < w7.heap.size + 1 := by have := HC7.out.1.2.2.2.lt; omega
       clear HC7 HU
       revert AY HC8 hb8
       generalize World.setRow _ _ _ = W5
       generalize w7.heap.size + 1 = by8
       intro HC8 AY hb8))
  refine mf_start (fun w' => (∃ Z : Array Value, Z.size = 55 ∧ EcS w T F Z bl Lf w') ∧ At w' by8 Y 34) (fun i => i == 6) ⟨⟨Ze, HZE.out, HC8.out.next (Below.refl _ _).drew⟩, AY.out.below (Below.refl _ _).drew AY.out.lt⟩ fun hS => ?_
  refine mf_yield (i := 0) (d := 55) (.string B) rfl rfl (by kernel_rfl) (by kernel_rfl) (by kernel_rfl) (by kernel_rfl) hS (y_run (by rfl) fun _ => by rfl) ?_
  simp only [Act.put, List.setIfInBounds_toArray, List.set_cons_zero, List.set_cons_succ]
  refine mf_yield (i := 1) (d := 56) (.agg Lf) rfl rfl (by kernel_rfl) (by kernel_rfl) (by kernel_rfl) (by kernel_rfl) hS (y_loadS (by rfl) rfl rfl (fun _ h => by obtain ⟨⟨_, _, h⟩, _⟩ := h; exact h.2.1) Tryz.underlying32 (HIB.out _ HL.out.1)) ?_
  simp only [Act.put, List.setIfInBounds_toArray, List.set_cons_zero, List.set_cons_succ]
  refine mf_yield (i := 2) (d := 57) (.int .i64 q) rfl rfl (by kernel_rfl) (by kernel_rfl) (by kernel_rfl) (by kernel_rfl) hS (y_run (by rfl) fun _ => by rfl) ?_
  simp only [Act.put, List.setIfInBounds_toArray, List.set_cons_zero, List.set_cons_succ]
  refine mf_yield (i := 3) (d := 58) (.agg Y) rfl rfl (by kernel_rfl) (by kernel_rfl) (by kernel_rfl) (by kernel_rfl) hS (y_load_part (l := 0) (by rfl) rfl rfl HY.out (fun w' h => h.2) HY.out (by omega) (fun i _ => by rw [Nat.zero_add]) Tryz.underlying34 rfl (HIP.out _ HY.out.1)) ?_
  simp only [Act.put, List.setIfInBounds_toArray, List.set_cons_zero, List.set_cons_succ]
  refine mf_yield (i := 4) (d := 59) (.agg E) rfl rfl (by kernel_rfl) (by kernel_rfl) (by kernel_rfl) (by kernel_rfl) hS (y_build_parts (L := [(0, .tmp 56), (1, .tmp 57), (2, .tmp 58)]) (by rfl) rfl _ rfl HEB.out) ?_
  simp only [Act.put, List.setIfInBounds_toArray, List.set_cons_zero, List.set_cons_succ]
  refine mf_yield (i := 5) (d := 6) (.string B) rfl rfl (by kernel_rfl) (by kernel_rfl) (by kernel_rfl) (by kernel_rfl) hS (y_run (by rfl) fun _ => by rfl) ?_
  simp only [Act.put, List.setIfInBounds_toArray, List.set_cons_zero, List.set_cons_succ]
  obtain ⟨Zo, hzo, hZo⟩ := hS.1
  refine mf_ready [6] (by kernel_rfl) (by simp) (af_store (i := 6) (w.heap.size + 1 + 1) E Zo rfl rfl (by rfl) rfl rfl rfl rfl hZo.1.2.2.2 (by rw [hzo, HER.out.1]) HER.out.2.1 (HIE.out _ HER.out.1) ?_ AllReadyF.nil)
  have HW9 := Lib.hid (Tri.set3 hZo.1 E)
  have hS9 : (∃ Z : Array Value, Z.size = 55 ∧ EcS w T F Z bl Lf (World.setRow _ (w.heap.size + 1 + 1) E)) ∧ At (World.setRow _ (w.heap.size + 1 + 1) E) by8 Y 34 := ⟨⟨E, HER.out.1, HW9.out, hZo.2.1.setRow_other (by have := hZo.2.2; omega), hZo.2.2⟩, hS.2.setRow_other (by omega)⟩
  clear hS hZo hzo Zo
  have hS := hS9
  clear hS9
  refine mf_ready [7] (by kernel_rfl) (by simp) (af_assign (i := 7) (d := 8) (v := .int .i64 0) rfl rfl (by rfl) (fun _ => by rfl) (fun _ => hS) ?_ AllReadyF.nil)
  simp only [Act.put, List.setIfInBounds_toArray, List.set_cons_zero, List.set_cons_succ]
  refine mf_done (by kernel_rfl) ?_
  clear hS HC8 AY
  revert HW9
  generalize World.setRow _ _ _ = W9
  intro HW9
  go_wp2_with fail
  exact bodyPost_ret (v := .tuple #[.string B, .agg E, .int .i64 0]) (results_three rfl _ _ (w.heap.size + 1 + 1) E _ rfl rfl rfl HW9.out.2.2.2 Tryz.underlying36 rfl (HIE.out _ HER.out.1)) rfl ⟨⟨E, rfl, HER.out⟩, HW9.out.1⟩
end Go.Proofs.YtfohinlldchdpaaGreatDoor.En
end

section
/- Contracts: enc's All and what it hands to every. -/
set_option maxRecDepth 100000
set_option linter.unusedVariables false
namespace Go.Proofs.YtfohinlldchdpaaGreatDoor.En
open Go.RowKit Go.Proofs.YtfohinlldchdpaaGreatDoor.Row Go.Proofs.YtfohinlldchdpaaGreatDoor.Rg Go.Proofs.YtfohinlldchdpaaGreatDoor.Md Go.Proofs.YtfohinlldchdpaaGreatDoor.Tl Go.Proofs.YtfohinlldchdpaaGreatDoor.Sta

/-- The bytes of the k-th packet. -/
noncomputable def pkB (F : Nat → Nat → Int) (m k : Nat) : ByteArray := ⟨(pkS F m (fun _ => 0) k).toArray⟩
noncomputable def enZ (F : Nat → Nat → Int) (m k : Nat) : Nat → Int := enS F m (fun _ => 0) k
theorem enZ_re {F : Nat → Nat → Int} {m : Nat} (hF : ∀ i, Snd (F i)) (k : Nat) : Re (enZ F m k) := enS_re re_zero hF k

theorem run_str (B : ByteArray) (w : World) : (Instr.buildSlice 43 1 #[(0, .string B)]).run Tryz.prog w = .ok (.slice (some ⟨w.heap.size, 0, none⟩) 1 1) (w.alloc (.cells #[.string B] 9)) := by
  obtain ⟨i, hi, hz, hsz, _⟩ := info_string
  refine run_buildSlice w 43 9 1 _ _ i (.string ⟨#[]⟩) Tryz.underlying43 hi hz (by rw [hsz]; decide) (by rw [hsz]; decide) ?_
  rw [hsz]
  first | kernel_rfl | (simp [Instr.fill, Value.cells]; done) | (unfold Instr.fill; rfl)
theorem wpList_slice_str {ops : Array Oper} {rest : List Oper} {o : Oper} {a : Act} {w : World} {Q : Exit → Act → World → Prop} (hgd : o.guard = none) (x : Operand) (ho : o.op = .buildSlice 43 1 #[(0, x)]) {B : ByteArray} (hx : a.eval x = .string B)
    (h : wpList Tryz.prog ops Q rest (a.put o.dst (.slice (some ⟨w.heap.size, 0, none⟩) 1 1)) (w.alloc (.cells #[.string B] 9))) : wpList Tryz.prog ops Q (o :: rest) a w := by
  refine wpList_plain hgd fun K hK => ?_
  unfold Oper.wp execOp
  have hv : (#[(0, x)] : Array (Nat × Operand)).map (fun (i, x) => (i, a.eval x)) = #[(0, .string B)] := by simp [hx]
  simp only [ho, hv, run_str, Sem.run_bind, Result.andThen_ok, Sem.run_pure]
  exact hK _ _ h
theorem run_cellV {w : World} {p : Addr} {a : Option Addr} {n c : Nat} (h : w.cell? p = some (.slice a n c)) : (Instr.loadAt 43 (.pointer (some p))).run Tryz.prog w = .ok (.slice a n c) w := by
  simp [Instr.loadAt, Instr.sureAddr, loadVar, isAgg, run_underlying Tryz.underlying43, h, go_sem]
theorem y_cellV {ops : Array Oper} {S : World → Prop} {a : Act} {oi : Oper} {y : Operand} {p : Addr} {v : Option Addr} {n c : Nat} (hw : Region.wanted oi (yielded ops a.tmps) = true) (ho : oi.op = .load 43 y) (hy : a.eval y = .pointer (some p))
    (hc : ∀ w, S w → w.cell? p = some (.slice v n c)) : YieldsIf Tryz.prog ops S oi (.slice v n c) a :=
  .inl ⟨hw, fun w hw' => by
    unfold execOp
    simp only [ho, hy, run_cellV (hc w hw'), Sem.run_bind, Sem.run_pure, Result.andThen_ok]⟩
theorem run_bxo {b o n c k : Nat} (hk : k < n) (w : World) :
    (Instr.indexAt 29 (.slice (some ⟨b, o, none⟩) n c) (.int .i64 k)).run Tryz.prog w = .ok (.pointer (some ⟨b, o + k * 16, none⟩)) w := by
  have h : (0 : Int) ≤ (k : Int) ∧ (k : Int) < (n : Int) := by omega
  unfold Instr.indexAt
  simp only [Sem.run_bind, asIntOf, Sem.run_pure, Result.andThen_ok, run_underlying Tryz.underlying29, if_pos h, size_block]
  simp only [Addr.add, Int.toNat_natCast]
  split <;> simp_all
theorem SlR.range {w : World} {b o n c i : Nat} {F : Nat → Nat → Int} {R : Array Value} (h : SlR w (some ⟨b, o, none⟩) n c F) (hi : i < n) (hR : IsRow 16 (F i) R) : w.rangeAt b (o + i * 16) R.toList := fun j v hv => by
  have hj : j < 16 := by
    have := (List.getElem?_eq_some_iff.1 hv).1
    rw [Array.length_toList, hR.1] at this
    exact this
  rw [Array.getElem?_toList, hR.2.2 j hj] at hv
  injection hv with hv
  rw [← hv]
  obtain ⟨b', o', e, hc⟩ := h.2.2 (by omega)
  cases e
  exact hc i hi j hj

/-- All's own variables: the size, the result's row, the packets, the encoder, the error. -/
structure AlS (w : World) (m : Nat) (Z E : Array Value) (a : Option Addr) (k c : Nat) (G : Nat → ByteArray) (w' : World) : Prop where
  out : Below w.heap.size w w'
  sz : At w' w.heap.size #[.int .i64 m] 3
  res : At w' (w.heap.size + 1) Z 36
  pks : At w' (w.heap.size + 2) #[.slice a k c] 43
  enc : At w' (w.heap.size + 3) E 36
  err : At w' (w.heap.size + 4) #[.int .i64 0] 37
  own : Sgs w' (w.heap.size + 5) a k c G
section
variable {w w1 w2 : World} {m k c : Nat} {Z E : Array Value} {a : Option Addr} {G : Nat → ByteArray}
theorem AlS.next (h : AlS w m Z E a k c G w1) (hb : Below w1.heap.size w1 w2) : AlS w m Z E a k c G w2 :=
  ⟨below_trans h.out hb h.out.size, h.sz.below hb h.sz.lt, h.res.below hb h.res.lt, h.pks.below hb h.pks.lt, h.enc.below hb h.enc.lt, h.err.below hb h.err.lt, h.own.below hb⟩
theorem AlS.setE (h : AlS w m Z E a k c G w1) (R : Array Value) : AlS w m Z R a k c G (w1.setRow (w.heap.size + 3) R) :=
  ⟨below_setRow' h.out (by omega) _, h.sz.setRow_other (by omega), h.res.setRow_other (by omega), h.pks.setRow_other (by omega), h.enc.setRow, h.err.setRow_other (by omega), h.own.setRow (by omega) _⟩
theorem AlS.setZ (h : AlS w m Z E a k c G w1) (R : Array Value) : AlS w m R E a k c G (w1.setRow (w.heap.size + 1) R) :=
  ⟨below_setRow' h.out (by omega) _, h.sz.setRow_other (by omega), h.res.setRow, h.pks.setRow_other (by omega), h.enc.setRow_other (by omega), h.err.setRow_other (by omega), h.own.setRow (by omega) _⟩
theorem Sgs.setCell {w : World} {B n c : Nat} {a : Option Addr} {G : Nat → ByteArray} (h : Sgs w B a n c G) {b i : Nat} (v : Value) (hb : b < B) : Sgs (w.setCell ⟨b, i, none⟩ v) B a n c G :=
  h.keep fun g hg => by
    have hne : b ≠ g := by have := (h.block g hg).1; omega
    unfold World.setCell
    simp [Array.getElem?_modify, hne]
theorem AlS.setR (h : AlS w m Z E a k c G w1) : AlS w m Z E a k c G (w1.setCell ⟨w.heap.size + 4, 0, none⟩ (.int .i64 0)) :=
  ⟨h.out.setCell (by dsimp only; omega) _, h.sz.setCell_other (by dsimp only; omega), h.res.setCell_other (by dsimp only; omega), h.pks.setCell_other (by dsimp only; omega), h.enc.setCell_other (by dsimp only; omega), (At.setCell h.err (v := .int .i64 0) (i := 0) : _), Sgs.setCell h.own _ (by omega)⟩
theorem AlS.grown (h : AlS w m Z E a k c G w1) {a' : Option Addr} {c' : Nat} (hg : w1.grownBy w2 (Value.slice a k c).ownBlock) (hb : Below (w.heap.size + 5) w1 w2) (ho : Sgs w2 (w.heap.size + 5) a' (k + 1) c' G) :
    AlS w m Z E a' (k + 1) c' G (w2.setCell ⟨w.heap.size + 2, 0, none⟩ (.slice a' (k + 1) c')) := by
  have hx : ∀ b, b < w.heap.size + 5 → (Value.slice a k c).ownBlock ≠ some b := fun b hb e => by have := (h.own.block b e).1; omega
  refine ⟨(h.out.trans ⟨hb.os, hb.tape, hb.output, hb.size, fun k hk => hb.block k (by omega)⟩).setCell (by dsimp only; omega) _, (h.sz.grown hg (hx _ (by omega))).setCell_other (by dsimp only; omega), (h.res.grown hg (hx _ (by omega))).setCell_other (by dsimp only; omega), (At.setCell (h.pks.grown hg (hx _ (by omega))) (v := .slice a' (k + 1) c') (i := 0) : _), (h.enc.grown hg (hx _ (by omega))).setCell_other (by dsimp only; omega), (h.err.grown hg (hx _ (by omega))).setCell_other (by dsimp only; omega), Sgs.setCell ho _ (by omega)⟩
end

set_option maxHeartbeats 1000000 in
theorem all1_as (w w1 : World) (m k c : Nat) (Z E F : Array Value) (a : Option Addr) (G : Nat → ByteArray) (g b : Nat → Int) (h : AlS w m Z E a k c G w1) (hE : IsRow 55 g E) (hF : IsRow 16 b F) (hr : Re g) (hs : Snd b) (h10 : 10 ≤ m) (h32 : m ≤ 32)
    (hG : ⟨(pkt g b m).toArray⟩ = G k) (hk : k + 1 ≤ 1000000) (hTab : Lv.Tab w) :
    Calls Tryz.prog 33 #[.agg F, .pointer (some ⟨w.heap.size + 3, 0, none⟩), .pointer (some ⟨w.heap.size, 0, none⟩), .pointer (some ⟨w.heap.size + 4, 0, none⟩), .pointer (some ⟨w.heap.size + 2, 0, none⟩)] w1 fun e w2 =>
      e = .returned (.bool true) ∧ ∃ E' a' c', IsRow 55 (nxE g b m) E' ∧ AlS w m Z E' a' (k + 1) c' G w2 := by
  obtain ⟨_, _, _, _, hie⟩ := zero_ep
  obtain ⟨_, _, _, _, hib⟩ := zero_b
  obtain ⟨Q, hQ⟩ : ∃ Q, IsRow 55 (nxE g b m) Q := ⟨_, isRow _ _⟩
  have HEN := Lib.hid (fun w' hT => as_E (encode_yes E F g b m (G k) w' hE hF h10 h32 hr hs hG hT) hQ)
  have HA := Lib.hid (h.next ((Below.refl _ _).alloc (Nat.le_refl _) (.cells F 32)))
  have HAF := Lib.hid (At.new w1 F 32)
  have HE := Lib.hid hE
  have HF := Lib.hid hF
  have HQ := Lib.hid hQ
  have HIE := Lib.hid hie
  have HIB := Lib.hid hib
  have HTAB := Lib.hid hTab
  clear hE hF hQ hie hib hTab hr hs hG
  have c2 := HA.out.sz.cell 0
  simp only [List.getElem?_toArray, List.getElem?_cons_zero] at c2
  go_enter Tryz.func33, Tryz.ntmps33
  go_wp2_with (first
    | refine wpList_load_all (by rfl) 36 _ rfl (w.heap.size + 3) rfl HE.out HA.out.enc Tryz.underlying36 rfl HIE.out ?_
    | refine wpList_load_all (by rfl) 32 _ rfl w1.heap.size rfl HF.out HAF.out Tryz.underlying32 rfl HIB.out ?_)
  clear c2
  refine (HEN.out _ (HTAB.out.next HA.out.out)).mono ?_
  rintro e w3 ⟨rfl, hb⟩
  have HB := Lib.hid (HA.out.next hb)
  clear hb HA HAF h
  go_wp2_with (first
    | (refine wpList_store_row rfl 36 _ _ rfl (w.heap.size + 3) Q rfl rfl _ _ HB.out.enc (HIE.out _ HQ.out.1) (by rw [HE.out.1, HQ.out.1]) HQ.out.2.1 ?_
       have HC := Lib.hid (HB.out.setE Q)
       clear HB
       revert HC
       generalize World.setRow _ _ _ = W4
       intro HC
       have c4 := HC.out.err.cell 0
       simp only [List.getElem?_toArray, List.getElem?_cons_zero] at c4
       have f4 := HC.out.err.frozen 0
       have c5 := HC.out.setR.pks.cell 0
       simp only [List.getElem?_toArray, List.getElem?_cons_zero] at c5)
    | (refine wpList_slice_str rfl _ rfl rfl ?_
       have HC5 := Lib.hid HC.out.setR
       clear c4 f4 c5 HC
       revert HC5
       generalize World.setCell _ _ _ = W5
       intro HC5
       have HC1 := Lib.hid (HC5.out.next ((Below.refl _ _).alloc (Nat.le_refl _) (.cells #[.string (G k)] 9)))
       have hn := (At.new W5 #[.string (G k)] 9).cell 0
       simp only [List.getElem?_toArray, List.getElem?_cons_zero] at hn
       have HN := Lib.hid hn
       clear hn HC5
       revert HC1 HN
       generalize W5.heap.size = b6
       generalize World.alloc _ _ = W6
       intro HC1 HN)
    | (refine wpList_append_string rfl _ _ rfl (w.heap.size + 5) G a k c rfl HC1.out.own b6 rfl HN.out hk (by have := HC1.out.err.lt; omega) ?_
       intro a' c' w7 hS7 hb7 hg7
       have HD := Lib.hid (HC1.out.grown hg7 hb7 hS7)
       have hx : ∀ b, b < w.heap.size + 5 → (Value.slice a k c).ownBlock ≠ some b := fun b hb e => by have := (HC1.out.own.block b e).1; omega
       have c7 := (HC1.out.pks.grown hg7 (hx _ (by omega))).cell 0
       simp only [List.getElem?_toArray, List.getElem?_cons_zero] at c7
       have f7 := (HC1.out.pks.grown hg7 (hx _ (by omega))).frozen 0
       have c8 := HD.out.err.cell 0
       simp only [List.getElem?_toArray, List.getElem?_cons_zero] at c8
       clear hS7 hb7 hg7 hx HC1 HN))
  go_ret
  exact ⟨rfl, Q, a', c', HQ.out, HD.out⟩

/-- Behind k frames. -/
def AlK (w : World) (m : Nat) (Z : Array Value) (F : Nat → Nat → Int) (k : Nat) (w' : World) : Prop := ∃ E a c, IsRow 55 (enZ F m k) E ∧ AlS w m Z E a k c (pkB F m) w'
theorem AlK.next {w w1 w2 : World} {m k : Nat} {Z : Array Value} {F : Nat → Nat → Int} (h : AlK w m Z F k w1) (hb : Below w1.heap.size w1 w2) : AlK w m Z F k w2 := by
  obtain ⟨E, a, c, h1, h2⟩ := h
  exact ⟨E, a, c, h1, h2.next hb⟩
theorem AlK.out {w w1 : World} {m k : Nat} {Z : Array Value} {F : Nat → Nat → Int} (h : AlK w m Z F k w1) : Below w.heap.size w w1 := by
  obtain ⟨E, a, c, h1, h2⟩ := h
  exact h2.out
theorem all1_k (w w1 : World) (m k : Nat) (Z X : Array Value) (F : Nat → Nat → Int) (h : AlK w m Z F k w1) (hX : IsRow 16 (F k) X) (hF : ∀ i, Snd (F i)) (h10 : 10 ≤ m) (h32 : m ≤ 32) (hk : k + 1 ≤ 1000000) (hTab : Lv.Tab w) :
    Calls Tryz.prog 33 #[.agg X, .pointer (some ⟨w.heap.size + 3, 0, none⟩), .pointer (some ⟨w.heap.size, 0, none⟩), .pointer (some ⟨w.heap.size + 4, 0, none⟩), .pointer (some ⟨w.heap.size + 2, 0, none⟩)] w1 fun e w2 =>
      e = .returned (.bool true) ∧ AlK w m Z F (k + 1) w2 := by
  obtain ⟨E, a, c, h1, h2⟩ := h
  refine (all1_as w w1 m k c Z E X a (pkB F m) (enZ F m k) (F k) h2 h1 hX (enZ_re hF k) (hF k) h10 h32 rfl hk hTab).mono ?_
  rintro e w2 ⟨rfl, E', a', c', h3, h4⟩
  exact ⟨rfl, E', a', c', h3, h4⟩

set_option maxHeartbeats 1000000 in
theorem every_blk (w w1 : World) (m n c : Nat) (Z : Array Value) (a : Option Addr) (F : Nat → Nat → Int) (hS : SlR w a n c F) (h : AlK w m Z F 0 w1) (hF : ∀ i, Snd (F i)) (h10 : 10 ≤ m) (h32 : m ≤ 32) (hn : n ≤ 1000) (hTab : Lv.Tab w) :
    Calls Tryz.prog 34 #[.slice a n c, .func (.func 33) #[] #[.pointer (some ⟨w.heap.size + 3, 0, none⟩), .pointer (some ⟨w.heap.size, 0, none⟩), .pointer (some ⟨w.heap.size + 4, 0, none⟩), .pointer (some ⟨w.heap.size + 2, 0, none⟩)]] w1 fun e w2 =>
      e = .returned (.bool true) ∧ AlK w m Z F n w2 := by
  obtain ⟨Zb, hZb, _, hzb, hib⟩ := zero_b
  have HS := Lib.hid hS
  have H0 := Lib.hid h
  have HF := Lib.hid hF
  have HTAB := Lib.hid hTab
  have HIB := Lib.hid hib
  have HZB := Lib.hid hZb.1
  clear hS h hF hTab hib hZb
  go_enter Tryz.func34, Tryz.ntmps34
  go_wp2_with fail
  go_loopw [9] (fun i w' => ∃ k : Nat, k ≤ n ∧ i = .int .i64 k ∧ Hid (AlK w m Z F k w')) (fun i _ => n - (intOf i).toNat)
  case atStart => exact ⟨0, Nat.zero_le _, rfl, H0⟩
  case round =>
    obtain ⟨k, hk, rfl, HK⟩ := hrel
    clear H0
    by_cases hlt : k < n
    · have k1 : (k : Int) < n := by omega
      obtain ⟨b, o, rfl, _⟩ := HS.out.2.2 (by omega)
      obtain ⟨X, hX⟩ : ∃ X, IsRow 16 (F k) X := ⟨_, isRow _ _⟩
      have HX := Lib.hid hX
      have HR := Lib.hid (SlR.range (HS.out.below HK.out.out) hlt hX)
      have hix := fun w => run_bxo (c := c) (b := b) (o := o) hlt w
      have HK1 := Lib.hid (HK.out.next ((Below.refl _ _).alloc (Nat.le_refl _) (.cells X 32)))
      have HA1 := Lib.hid (At.new wr X 32)
      clear hX
      go_wp2_with (first
        | refine wpList_load_range (by rfl) 32 _ rfl b (o + k * 16) rfl HR.out Tryz.underlying32 rfl (HIB.out _ HX.out.1) ?_
        | (refine wpList_store_row rfl 32 _ _ rfl wr.heap.size X rfl rfl _ _ (heap_alloc_new _ _) (HIB.out _ HX.out.1) (by rw [HZB.out, HX.out.1]) HX.out.2.1 ?_; rw [World.setRow_alloc_new]
           clear HR HK
           revert HK1 HA1
           generalize wr.heap.size = b6
           generalize World.alloc _ _ = W6
           intro HK1 HA1)
        | refine wpList_load_all (by rfl) 32 _ rfl b6 rfl HX.out HA1.out Tryz.underlying32 rfl HIB.out ?_)
      refine (all1_k w W6 m k Z X F HK1.out HX.out HF.out h10 h32 (by omega) HTAB.out).mono ?_
      rintro e w7 ⟨rfl, h7⟩
      have HK7 := Lib.hid h7
      clear h7 HK1 HA1
      go_wp2_with fail
      go_roundw
      case rel => exact ⟨k + 1, by omega, by go_num, HK7⟩
      case measure => simp [intOf]; omega
    · obtain rfl : k = n := by omega
      go_wp2_with fail
      go_ret
      exact ⟨rfl, HK.out⟩

/-- What All answers: so many packets of its own, and the encoder then. -/
def RetAll (w : World) (m n : Nat) (F : Nat → Nat → Int) (e : Ending) (w' : World) : Prop :=
  ∃ a c Q, e = .returned (.tuple #[.slice a n c, .agg Q, .int .i64 0]) ∧ IsRow 55 (enZ F m n) Q ∧ Sgs w' w.heap.size a n c (pkB F m) ∧ Below w.heap.size w w'

theorem al_start (w : World) (m : Nat) (Z : Array Value) (F : Nat → Nat → Int) (hZ : IsRow 55 (fun _ => 0) Z) :
    AlK w m Z F 0 (((((w.alloc (.cells #[.int .i64 m] 3)).alloc (.cells Z 36)).alloc (.cells #[.slice none 0 0] 43)).alloc (.cells Z 36)).alloc (.cells #[.int .i64 0] 37)) := by
  have a1 := At.new (w.alloc (.cells #[.int .i64 m] 3)) Z 36
  have a2 := At.new ((w.alloc (.cells #[.int .i64 m] 3)).alloc (.cells Z 36)) #[.slice none 0 0] 43
  have a3 := At.new (((w.alloc (.cells #[.int .i64 m] 3)).alloc (.cells Z 36)).alloc (.cells #[.slice none 0 0] 43)) Z 36
  have a4 := At.new ((((w.alloc (.cells #[.int .i64 m] 3)).alloc (.cells Z 36)).alloc (.cells #[.slice none 0 0] 43)).alloc (.cells Z 36)) #[.int .i64 0] 37
  simp only [World.size_alloc] at a1 a2 a3 a4
  exact ⟨Z, none, 0, hZ, ⟨((((((Below.refl _ _).alloc (Nat.le_refl _) _).alloc (by simp) _).alloc (by simp; omega) _).alloc (by simp; omega) _).alloc (by simp; omega) _), ((((At.new _ _ _).alloc _).alloc _).alloc _).alloc _, ((a1.alloc _).alloc _).alloc _, (a2.alloc _).alloc _, a3.alloc _, a4, Sgs.nil _ _ _⟩⟩

set_option maxHeartbeats 1000000 in
theorem all_yes (a : Option Addr) (n c m : Nat) (F : Nat → Nat → Int) (w : World) (hS : SlR w a n c F) (hF : ∀ i, Snd (F i)) (h10 : 10 ≤ m) (h32 : m ≤ 32) (hn : n ≤ 1000) (hTab : Lv.Tab w) :
    Calls Tryz.prog 15 #[.slice a n c, .int .i64 m] w (RetAll w m n F) := by
  obtain ⟨Ze, hZe, _, hze, hie⟩ := zero_ep
  have hmf : ∀ (fn : Fn) (first cap : Array Value) (w : World), (Instr.makeFunc fn first cap).run Tryz.prog w = .ok (.func fn first cap) w := fun _ _ _ _ => rfl
  have HA := Lib.hid (al_start w m Ze F hZe)
  have HEV := Lib.hid (fun w1 h => every_blk w w1 m n c Ze a F hS h hF h10 h32 hn hTab)
  have HIE := Lib.hid hie
  have HZE := Lib.hid hZe.1
  clear hS hF hn hTab hie hZe
  go_enter Tryz.func15, Tryz.ntmps15
  go_wp2_with fail
  refine (HEV.out _ HA.out).mono ?_
  rintro e W1 ⟨rfl, E, v, d, hE, hA⟩
  have HE := Lib.hid hE
  have HB := Lib.hid hA
  clear hE hA HA HEV hmf
  go_wp2_with fail
  refine mf_start (fun w' => ∃ Z : Array Value, Z.size = 55 ∧ AlS w m Z E v n d (pkB F m) w') (fun i => i == 3) ⟨Ze, HZE.out, HB.out.next (Below.refl _ _).drew⟩ fun hS => ?_
  refine mf_yield (i := 0) (d := 18) (.slice v n d) rfl rfl (by kernel_rfl) (by kernel_rfl) (by kernel_rfl) (by kernel_rfl) hS (y_cellV (by rfl) rfl rfl (fun w' h => by obtain ⟨_, _, h⟩ := h; simpa using h.pks.cell 0)) ?_
  simp only [Act.put, List.setIfInBounds_toArray, List.set_cons_zero, List.set_cons_succ]
  refine mf_yield (i := 1) (d := 19) (.agg E) rfl rfl (by kernel_rfl) (by kernel_rfl) (by kernel_rfl) (by kernel_rfl) hS (y_load_part (l := 0) (by rfl) rfl rfl HE.out (fun w' h => by obtain ⟨_, _, h⟩ := h; exact h.enc) HE.out (by omega) (fun i _ => by rw [Nat.zero_add]) Tryz.underlying36 rfl (HIE.out _ HE.out.1)) ?_
  simp only [Act.put, List.setIfInBounds_toArray, List.set_cons_zero, List.set_cons_succ]
  refine mf_yield (i := 2) (d := 4) (.slice v n d) rfl rfl (by kernel_rfl) (by kernel_rfl) (by kernel_rfl) (by kernel_rfl) hS (y_run (by rfl) fun _ => by rfl) ?_
  simp only [Act.put, List.setIfInBounds_toArray, List.set_cons_zero, List.set_cons_succ]
  obtain ⟨Zo, hzo, hZo⟩ := hS
  refine mf_ready [3] (by kernel_rfl) (by simp) (af_store (i := 3) (w.heap.size + 1) E Zo rfl rfl (by rfl) rfl rfl rfl rfl hZo.res (by rw [hzo, HE.out.1]) HE.out.2.1 (HIE.out _ HE.out.1) ?_ AllReadyF.nil)
  have HC := Lib.hid (hZo.setZ E)
  clear hZo hzo Zo HB
  revert HC
  generalize World.setRow _ _ _ = W9
  intro HC
  refine mf_ready [4] (by kernel_rfl) (by simp) (af_assign (i := 4) (d := 6) (v := .int .i64 0) rfl rfl (by rfl) (fun _ => by rfl) (fun _ => ⟨E, HE.out.1, HC.out⟩) ?_ AllReadyF.nil)
  refine mf_done (by kernel_rfl) ?_
  go_wp2_with fail
  exact bodyPost_ret (v := .tuple #[.slice v n d, .agg E, .int .i64 0]) (results_three rfl _ _ (w.heap.size + 1) E _ rfl rfl rfl HC.out.res Tryz.underlying36 rfl (HIE.out _ HE.out.1)) rfl ⟨v, d, E, rfl, HE.out, HC.out.own.wide (by omega), HC.out.out⟩
end Go.Proofs.YtfohinlldchdpaaGreatDoor.En
end

section
/- What stage 15's laws share: the example, one frame, a row of frames written out. -/
set_option maxRecDepth 100000
set_option linter.unusedVariables false
namespace Go.Proofs.YtfohinlldchdpaaGreatDoor.En
open Go.RowKit Go.Proofs.YtfohinlldchdpaaGreatDoor.Row Go.Proofs.YtfohinlldchdpaaGreatDoor.Rg Go.Proofs.YtfohinlldchdpaaGreatDoor.Md Go.Proofs.YtfohinlldchdpaaGreatDoor.Tl Go.Proofs.YtfohinlldchdpaaGreatDoor.Sta

theorem map3 {f : Operand → Value} {x1 x2 x3 : Operand} {v1 v2 v3 : Value} (h1 : f x1 = v1) (h2 : f x2 = v2) (h3 : f x3 = v3) : #[x1, x2, x3].map f = #[v1, v2, v3] := by simp [h1, h2, h3]

set_option maxHeartbeats 1000000 in
theorem awake_as (w : World) (hT : Lv.Tab w) : Calls Tryz.prog 10 #[] w fun e w' => e = .returned (.bool true) ∧ Below w.heap.size w w' := by
  obtain ⟨Ze, hZe, _, hze, hie⟩ := zero_ep
  obtain ⟨G, hG, bG⟩ := ebuilt_0 isEn_p
  obtain ⟨D, hD, bD⟩ := Sta.built_b
  obtain ⟨B, hB⟩ : ∃ B, (⟨(pkt (fun _ => 0) (fun _ => 0) 10).toArray⟩ : ByteArray) = B := ⟨_, rfl⟩
  have hlen : B.size = 10 := by
    rw [← hB]
    show (pkt (fun _ => 0) (fun _ => 0) 10).toArray.size = 10
    rw [List.size_toArray]; exact pkt_length re_zero (by omega) (by omega)
  have HEN := Lib.hid (as_E (encode_yes G D (fun _ => 0) (fun _ => 0) 10 B w hG hD (by omega) (by omega) re_zero (fun _ _ => by dsimp only; omega) hB hT) (by rw [nx_none 10 fun _ _ => rfl]; exact hG))
  have e1 := en_eq_p hG hG (fun _ _ => rfl)
  have HG := Lib.hid hG
  have HD := Lib.hid hD
  have HBG := Lib.hid bG
  have HBD := Lib.hid bD
  have HIE := Lib.hid hie
  have HZE := Lib.hid hZe.1
  clear hT hG hD bG bD hie hZe hB
  go_enter Tryz.func10, Tryz.ntmps10
  go_wp2_with (first
    | refine wpList_build_parts (by rfl) 36 [] rfl _ rfl HBG.out ?_
    | refine wpList_build_parts (by rfl) 32 [] rfl _ rfl HBD.out ?_)
  refine HEN.out.mono ?_
  rintro e W1 ⟨rfl, hb⟩
  have HB := Lib.hid hb
  clear hb
  go_wp2_with (first
    | (refine wpList_store_row rfl 36 _ _ rfl W1.heap.size G rfl rfl _ _ (heap_alloc_new _ _) (HIE.out _ HG.out.1) (by rw [HZE.out, HG.out.1]) HG.out.2.1 ?_; rw [World.setRow_alloc_new]
       have HB2 := Lib.hid (HB.out.alloc HB.out.size (.cells G 36))
       have HA := Lib.hid (At.new W1 G 36)
       revert HB2 HA
       generalize W1.heap.size = b1
       generalize World.alloc _ _ = W2
       intro HB2 HA)
    | refine wpList_load_all (by rfl) 36 _ rfl b1 rfl HG.out HA.out Tryz.underlying36 rfl HIE.out ?_
    | refine wpList_build_parts (by rfl) 36 [] rfl _ rfl HBG.out ?_)
  go_ret
  exact ⟨rfl, HB2.out⟩

theorem run_assign {o : Oper} {a : Act} {w : World} {y : Operand} {v : Value} (ho : o.op = .assign y) (hy : a.eval y = v) : (execOp a.eval o).run Tryz.prog w = .ok (.value v) w := by
  unfold execOp; simp only [ho, hy]; rfl
/-- A slice of one row of sixteen numbers written out. -/
theorem run_slice16 {f : Nat → Int} {R : Array Value} (hR : IsRow 16 f R) (w : World) :
    (Instr.buildSlice 31 1 #[(0, .agg R)]).run Tryz.prog w = .ok (.slice (some ⟨w.heap.size, 0, none⟩) 1 1) (w.alloc (.cells R 22)) := by
  obtain ⟨Z, hZ, _, hz, hi⟩ := zero_a
  have hsz : ∀ w, (sizeOf 22).run Tryz.prog w = .ok 16 w := fun w => by
    have h : (Tryz.prog.info? 22).map (·.size) = some 16 := by kernel_rfl
    cases hq : Tryz.prog.info? 22 with
    | none => rw [hq] at h; cases h
    | some i =>
      rw [hq] at h
      injection h with h
      simp [sizeOf, typeInfo, hq, h]
  have r1 : Instr.fill (fun i => some (i * 16, 16)) ((Array.range (1 * 16)).map (Z[· % Z.size]!)) [(0, .agg R)] = some R := by
    obtain ⟨p1, p2⟩ := fold_lay R.toList 0 0 ((Array.range (1 * 16)).map (Z[· % Z.size]!))
    rw [fill_step (l := 0) (n := 16) rfl (by exact hR.1) (by simp)]
    show some _ = some _
    congr 1
    rw [show (Value.agg R).cells = R from rfl]
    refine (isRow_of (f := f) (by rw [p1]; simp) fun k hk => ?_).eq hR fun _ _ => rfl
    have := p2 k (by simp; exact hk)
    rw [this, if_pos (by rw [Array.length_toList, hR.1]; omega)]
    simp only [Nat.add_zero, Nat.sub_zero, Array.getElem?_toList]
    exact hR.2.2 k hk
  have hlt : ¬ (1 * 16 > 2 ^ 24) := by omega
  have h0 : ¬ (1 * 16 = 0) := by omega
  unfold Instr.buildSlice
  simp only [Sem.run_bind, run_underlying Tryz.underlying31, Result.andThen_ok, hsz, hlt, h0, if_false, hz, Value.cells, Sem.run_pure, r1]
  rfl
theorem wpList_slice16 {ops : Array Oper} {rest : List Oper} {o : Oper} {a : Act} {w : World} {Q : Exit → Act → World → Prop} (hgd : o.guard = none) (x : Operand) (ho : o.op = .buildSlice 31 1 #[(0, x)]) {f : Nat → Int} {R : Array Value} (hx : a.eval x = .agg R) (hR : IsRow 16 f R)
    (h : wpList Tryz.prog ops Q rest (a.put o.dst (.slice (some ⟨w.heap.size, 0, none⟩) 1 1)) (w.alloc (.cells R 22))) : wpList Tryz.prog ops Q (o :: rest) a w := by
  refine wpList_plain hgd fun K hK => ?_
  unfold Oper.wp execOp
  have hv : (#[(0, x)] : Array (Nat × Operand)).map (fun (i, x) => (i, a.eval x)) = #[(0, .agg R)] := by simp [hx]
  simp only [ho, hv, run_slice16 hR, Sem.run_bind, Result.andThen_ok, Sem.run_pure]
  exact hK _ _ h
theorem slR_one {w : World} {b : Nat} {R : Array Value} {x : Nat → Int} {t : TypeId} (hR : IsRow 16 x R) (hA : At w b R t) : SlR w (some ⟨b, 0, none⟩) 1 1 (fun _ => x) :=
  ⟨Nat.le_refl _, by unfold maxLen; omega, fun _ => ⟨b, 0, rfl, fun i hi j hj => by
    obtain rfl : i = 0 := by omega
    simpa using hR.cell hA j hj⟩⟩
/-- One frame's samples. -/
def smF (x : Nat → Int) : Nat → Int := fun j => smp (x j)
theorem smF_snd (x : Nat → Int) : Snd (smF x) := fun j _ => smp_bd _
theorem frames_one (b : Nat) (R : Array Value) (x : Nat → Int) (t : TypeId) (w : World) (hR : IsRow 16 x R) (hA : At w b R t) :
    Calls Tryz.prog 11 #[.slice (some ⟨b, 0, none⟩) 1 1] w fun e w' => ∃ g c, e = .returned (.slice (some ⟨g, 0, none⟩) 1 c) ∧ Bks w' w.heap.size (some ⟨g, 0, none⟩) 1 c (fun _ => smF x) ∧ Below w.heap.size w w' := by
  refine (frames_as (some ⟨b, 0, none⟩) 1 1 (fun _ => x) w (slR_one hR hA)).mono ?_
  rintro e w' ⟨a, c, rfl, hB, hb⟩
  obtain ⟨g, rfl, _⟩ := hB.addr (by decide)
  exact ⟨g, c, rfl, hB.ext fun i _ j _ => rfl, hb⟩
theorem enter_encode (args : Array Value) (w : World) : (callFunc 12 args).run Tryz.prog w = .ok (.enter 12 args) w := run_enter Tryz.func12 (by kernel_rfl) rfl args w
/-- The size that a law asks for. -/
theorem law_size {z : Int} (h0 : 0 ≤ z) (h1 : z ≤ 255) : ∃ I m : Nat, z.tmod 23 = I ∧ I < 23 ∧ (10 : Int) + I = m ∧ 10 ≤ m ∧ m ≤ 32 := by
  have h2 := Int.emod_nonneg z (show (23 : Int) ≠ 0 by omega)
  have h3 := Int.emod_lt_of_pos z (show (0 : Int) < 23 by omega)
  refine ⟨(z % 23).toNat, 10 + (z % 23).toNat, ?_, by omega, by omega, by omega, by omega⟩
  rw [Int.tmod_eq_emod_of_nonneg h0]; omega
end Go.Proofs.YtfohinlldchdpaaGreatDoor.En
end

section
/- EncSizes: the walks. Written by g45.py. -/
set_option maxRecDepth 100000
set_option linter.unusedVariables false
namespace Go.Proofs.YtfohinlldchdpaaGreatDoor.En
open Go.RowKit Go.Proofs.YtfohinlldchdpaaGreatDoor.Row Go.Proofs.YtfohinlldchdpaaGreatDoor.Rg Go.Proofs.YtfohinlldchdpaaGreatDoor.Md Go.Proofs.YtfohinlldchdpaaGreatDoor.Tl Go.Proofs.YtfohinlldchdpaaGreatDoor.Sta

set_option maxHeartbeats 4000000 in
theorem encSizes_no (T F : Array Value) (f x : Nat → Int) (z : Int) (w : World) (hT : IsRow 55 f T) (hF : IsRow 16 x F) (h0 : 0 ≤ z) (h1 : z ≤ 255) (hr : ¬ Re f) (hTab : Lv.Tab w) :
    Calls Tryz.prog 3 #[.agg T, .agg F, .int .u8 z] w fun e w' => e = .returned (.bool true) ∧ Below w.heap.size w w' := by
  obtain ⟨Ze, hZe, _, hze, hie⟩ := zero_ep
  obtain ⟨_, _, _, _, hir⟩ := zero_er
  obtain ⟨_, _, _, _, hia⟩ := zero_a
  obtain ⟨_, _, _, _, hib⟩ := zero_b
  obtain ⟨G, hG, bG⟩ := ebuilt_0 isEn_p
  obtain ⟨I, m, htz, hI, hm, h10, h32⟩ := law_size h0 h1
  obtain ⟨X, hX⟩ : ∃ X, IsRow 16 (smF x) X := ⟨_, isRow _ _⟩
  obtain ⟨B, hB⟩ : ∃ B : ByteArray, B = ⟨#[]⟩ := ⟨_, rfl⟩
  obtain ⟨Q, hQ⟩ : ∃ Q, IsRow 55 (fun _ => 0) Q := ⟨_, isRow _ _⟩
  have HEN := Lib.hid (show ∀ w' : World, Lv.Tab w' → Calls Tryz.prog 12 #[.agg T, .agg X, .int .i64 m] w' fun e w'' => e = .returned (.tuple #[.string B, .agg Q, .int .i64 1]) ∧ Below w'.heap.size w' w'' from fun w' _ => by rw [hB]; exact as_E (encode_no T X f (smF x) m w' hT hX h10 h32 fun h => hr h.1) hQ)
  have HRT := Lib.hid (fun w' => eright_any T f false w' hT ⟨fun h => (by cases h), fun h => absurd h hr⟩)
  have e1 := en_eq_p hQ hG (fun _ _ => rfl)
  have HBE := Lib.hid hB
  have HQ := Lib.hid hQ
  have HW := Lib.hid (Duo.start (Below.refl w.heap.size w) T F 27 22)
  have HT := Lib.hid hT
  have HF := Lib.hid hF
  have HX := Lib.hid hX
  have HIE := Lib.hid hie
  have HIR := Lib.hid hir
  have HIA := Lib.hid hia
  have HIB := Lib.hid hib
  have HZE := Lib.hid hZe.1
  have HG := Lib.hid hG
  have HBG := Lib.hid bG
  have HM := Lib.hid hm
  have HTAB := Lib.hid hTab
  clear hT hF hX hie hir hia hib hZe hG bG hm hTab hr hB hQ
  go_enter Tryz.func3, Tryz.ntmps3
  go_wp2_with fail
  refine (awake_as _ (HTAB.out.next HW.out.1)).mono ?_
  rintro e W1 ⟨rfl, hb⟩
  replace HW := Lib.hid (HW.out.next hb)
  clear hb
  go_wp2_with (first
    | refine wpList_load_all (by rfl) 22 _ rfl (w.heap.size + 1) rfl HF.out HW.out.2.2.2 Tryz.underlying22 rfl HIA.out ?_
    | (refine wpList_slice16 rfl _ rfl rfl HF.out ?_
       have hb := (Below.refl W1.heap.size W1).alloc (Nat.le_refl _) (.cells F 22)
       replace HW := Lib.hid (HW.out.next hb)
       have HA := Lib.hid (At.new W1 F 22)
       clear hb
       revert HW HA
       generalize W1.heap.size = b6
       generalize World.alloc _ _ = W6
       intro HW HA
       clear W1))
  refine (frames_one b6 F x _ W6 HF.out HA.out).mono ?_
  rintro e W7 ⟨gq, c, rfl, hK, hb⟩
  have HK := Lib.hid (hK.wide (Nat.zero_le _))
  replace HW := Lib.hid (HW.out.next hb)
  clear hb hK HA W6
  rw [HM.out]
  go_wp2_with fail
  have HTW := Lib.hid (HTAB.out.next HW.out.1)
  refine mv_start fun hS => ?_
  refine mv_yield (i := 0) (d := 22) (.agg T) rfl rfl (by kernel_rfl) (by kernel_rfl) (by kernel_rfl) hS (y_load_part (l := 0) (by rfl) rfl rfl HT.out (fun w' h => HW.out.2.2.1.below h HW.out.2.2.1.lt) HT.out (by omega) (fun i _ => by rw [Nat.zero_add]) Tryz.underlying27 rfl (HIR.out _ HT.out.1)) ?_
  simp only [Act.put, List.setIfInBounds_toArray, List.set_cons_zero, List.set_cons_succ]
  refine mv_yield (i := 2) (d := 24) (.slice (some ⟨gq, 0, none⟩) 1 c) rfl rfl (by kernel_rfl) (by kernel_rfl) (by kernel_rfl) hS (y_run (by rfl) fun _ => by rfl) ?_
  simp only [Act.put, List.setIfInBounds_toArray, List.set_cons_zero, List.set_cons_succ]
  refine mv_yield (i := 3) (d := 25) (.pointer (some ⟨gq, 0 * 16, none⟩)) rfl rfl (by kernel_rfl) (by kernel_rfl) (by kernel_rfl) hS (y_bx (k := 0) (by rfl) rfl rfl rfl rfl (by omega)) ?_
  simp only [Act.put, List.setIfInBounds_toArray, List.set_cons_zero, List.set_cons_succ]
  refine mv_yield (i := 4) (d := 26) (.agg X) rfl rfl (by kernel_rfl) (by kernel_rfl) (by kernel_rfl) hS (y_load_range (by rfl) rfl rfl (fun w' h => Bks.range (HK.out.below h) (by omega) HX.out) Tryz.underlying32 rfl (HIB.out _ HX.out.1)) ?_
  simp only [Act.put, List.setIfInBounds_toArray, List.set_cons_zero, List.set_cons_succ]
  refine mv_yield (i := 5) (d := 27) (.int .i64 m) rfl rfl (by kernel_rfl) (by kernel_rfl) (by kernel_rfl) hS (y_run (by rfl) fun _ => by rfl) ?_
  simp only [Act.put, List.setIfInBounds_toArray, List.set_cons_zero, List.set_cons_succ]
  refine parD0 (fuel := 2) [1, 6, 7, 8, 9, 10, 11, 12] [1, 6, 7, 8, 9, 11, 12] 10 (fun i => i == 11) (fun i => if i = 1 then .agg T else if i = 6 then .tuple #[.string B, .agg Q, .int .i64 1] else if i = 7 then .tuple #[.string B, .agg Q, .int .i64 1] else if i = 8 then .string B else if i = 9 then .agg Q else if i = 10 then .int .i64 1 else .string B) (fun i => Ze) (fun i => 36) #[true, true, true, true, true, true, true, true, true, true, false, true, true, false, false] #[true, true, true, true, true, true, true, true, true, true, true, true, true, false, false] _ rfl (by decide) (by decide) (by decide) rfl (by kernel_rfl) (by kernel_rfl) (by kernel_rfl) (by decide) rfl rfl rfl (by kernel_rfl) (by kernel_rfl) (by kernel_rfl) (by kernel_rfl) (by kernel_rfl) (by kernel_rfl) hS ?_ ?_ ?_
  · intro i hi
    simp only [List.mem_cons, List.not_mem_nil, or_false] at hi
    rcases hi with rfl | rfl | rfl | rfl | rfl | rfl | rfl | rfl
    · exact ⟨_, rfl, fun D val w' hw' hD hv => st_call (isA := fun i => i == 11) (V := fun i => if i = 1 then .agg T else if i = 6 then .tuple #[.string B, .agg Q, .int .i64 1] else if i = 7 then .tuple #[.string B, .agg Q, .int .i64 1] else if i = 8 then .string B else if i = 9 then .agg Q else if i = 10 then .int .i64 1 else .string B) (Zc := fun i => Ze) (ty := fun i => 36) (i := 1) #[.agg T] rfl rfl rfl enter_of_en (map1 (Eq.trans (part_other _ _ (by kernel_rfl)) rfl)) (of_en T f HT.out _)⟩
    · exact ⟨_, rfl, fun D val w' hw' hD hv => st_call (isA := fun i => i == 11) (V := fun i => if i = 1 then .agg T else if i = 6 then .tuple #[.string B, .agg Q, .int .i64 1] else if i = 7 then .tuple #[.string B, .agg Q, .int .i64 1] else if i = 8 then .string B else if i = 9 then .agg Q else if i = 10 then .int .i64 1 else .string B) (Zc := fun i => Ze) (ty := fun i => 36) (i := 6) #[.agg T, .agg X, .int .i64 m] rfl rfl rfl enter_encode (map3 (Eq.trans (part_eval 1 rfl (hD 1 (by decide +kernel) (by decide)) _ _ rfl (by kernel_rfl) (by kernel_rfl)) (hv 1 (by decide) (hD 1 (by decide +kernel) (by decide)) rfl)) (Eq.trans (part_other _ _ (by kernel_rfl)) rfl) (Eq.trans (part_other _ _ (by kernel_rfl)) rfl)) (HEN.out _ (HTW.out.next hw'))⟩
    · exact ⟨_, rfl, fun D val w' hw' hD hv => st_run (isA := fun i => i == 11) (V := fun i => if i = 1 then .agg T else if i = 6 then .tuple #[.string B, .agg Q, .int .i64 1] else if i = 7 then .tuple #[.string B, .agg Q, .int .i64 1] else if i = 8 then .string B else if i = 9 then .agg Q else if i = 10 then .int .i64 1 else .string B) (Zc := fun i => Ze) (ty := fun i => 36) (i := 7) (run_move rfl (Eq.trans (part_eval 6 rfl (hD 6 (by decide +kernel) (by decide)) _ _ rfl (by kernel_rfl) (by kernel_rfl)) (hv 6 (by decide) (hD 6 (by decide +kernel) (by decide)) rfl))) rfl rfl⟩
    · exact ⟨_, rfl, fun D val w' hw' hD hv => st_run (isA := fun i => i == 11) (V := fun i => if i = 1 then .agg T else if i = 6 then .tuple #[.string B, .agg Q, .int .i64 1] else if i = 7 then .tuple #[.string B, .agg Q, .int .i64 1] else if i = 8 then .string B else if i = 9 then .agg Q else if i = 10 then .int .i64 1 else .string B) (Zc := fun i => Ze) (ty := fun i => 36) (i := 8) (run_extract rfl (Eq.trans (part_eval 7 rfl (hD 7 (by decide +kernel) (by decide)) _ _ rfl (by kernel_rfl) (by kernel_rfl)) (hv 7 (by decide) (hD 7 (by decide +kernel) (by decide)) rfl)) rfl) rfl rfl⟩
    · exact ⟨_, rfl, fun D val w' hw' hD hv => st_run (isA := fun i => i == 11) (V := fun i => if i = 1 then .agg T else if i = 6 then .tuple #[.string B, .agg Q, .int .i64 1] else if i = 7 then .tuple #[.string B, .agg Q, .int .i64 1] else if i = 8 then .string B else if i = 9 then .agg Q else if i = 10 then .int .i64 1 else .string B) (Zc := fun i => Ze) (ty := fun i => 36) (i := 9) (run_extract rfl (Eq.trans (part_eval 7 rfl (hD 7 (by decide +kernel) (by decide)) _ _ rfl (by kernel_rfl) (by kernel_rfl)) (hv 7 (by decide) (hD 7 (by decide +kernel) (by decide)) rfl)) rfl) rfl rfl⟩
    · exact ⟨_, rfl, fun D val w' hw' hD hv => st_run (isA := fun i => i == 11) (V := fun i => if i = 1 then .agg T else if i = 6 then .tuple #[.string B, .agg Q, .int .i64 1] else if i = 7 then .tuple #[.string B, .agg Q, .int .i64 1] else if i = 8 then .string B else if i = 9 then .agg Q else if i = 10 then .int .i64 1 else .string B) (Zc := fun i => Ze) (ty := fun i => 36) (i := 10) (run_extract rfl (Eq.trans (part_eval 7 rfl (hD 7 (by decide +kernel) (by decide)) _ _ rfl (by kernel_rfl) (by kernel_rfl)) (hv 7 (by decide) (hD 7 (by decide +kernel) (by decide)) rfl)) rfl) rfl rfl⟩
    · exact ⟨_, rfl, fun D val w' hw' hD hv => st_alloc (isA := fun i => i == 11) (V := fun i => if i = 1 then .agg T else if i = 6 then .tuple #[.string B, .agg Q, .int .i64 1] else if i = 7 then .tuple #[.string B, .agg Q, .int .i64 1] else if i = 8 then .string B else if i = 9 then .agg Q else if i = 10 then .int .i64 1 else .string B) (Zc := fun i => Ze) (ty := fun i => 36) (i := 11) rfl rfl rfl rfl hze⟩
    · exact ⟨_, rfl, fun D val w' hw' hD hv => st_run (isA := fun i => i == 11) (V := fun i => if i = 1 then .agg T else if i = 6 then .tuple #[.string B, .agg Q, .int .i64 1] else if i = 7 then .tuple #[.string B, .agg Q, .int .i64 1] else if i = 8 then .string B else if i = 9 then .agg Q else if i = 10 then .int .i64 1 else .string B) (Zc := fun i => Ze) (ty := fun i => 36) (i := 12) (run_assign rfl (Eq.trans (part_eval 8 rfl (hD 8 (by decide +kernel) (by decide)) _ _ rfl (by kernel_rfl) (by kernel_rfl)) (hv 8 (by decide) (hD 8 (by decide +kernel) (by decide)) rfl))) rfl rfl⟩
  · exact ⟨_, rfl, fun D val hD hv => y_of_run (by rfl) (fun w' => run_extract rfl (Eq.trans (part_eval 7 rfl (hD 7 (by decide +kernel) (by decide)) _ _ rfl (by kernel_rfl) (by kernel_rfl)) (hv 7 (by decide) (hD 7 (by decide +kernel) (by decide)) rfl)) rfl)⟩
  clear hS
  intro val w' hS hY hV
  have v1 : val 1 = .agg T := (hY 1 (by simp)).1 rfl
  have v6 : val 6 = .tuple #[.string B, .agg Q, .int .i64 1] := (hY 6 (by simp)).1 rfl
  have v7 : val 7 = .tuple #[.string B, .agg Q, .int .i64 1] := (hY 7 (by simp)).1 rfl
  have v8 : val 8 = .string B := (hY 8 (by simp)).1 rfl
  have v9 : val 9 = .agg Q := (hY 9 (by simp)).1 rfl
  have v10 : val 10 = .int .i64 1 := (hY 10 (by simp)).1 rfl
  have v12 : val 12 = .string B := (hY 12 (by simp)).1 rfl
  obtain ⟨b11, e11, a11, g11⟩ : ∃ b, val 11 = .pointer (some ⟨b, 0, none⟩) ∧ At w' b Ze 36 ∧ W7.heap.size ≤ b := (hY 11 (by simp)).2 rfl
  show wpAnyH _ _ _ _ _ _ _ (Act.put (Act.put (Act.put (Act.put (Act.put (Act.put (Act.put (Act.put _ (some 23) (val 1)) (some 28) (val 6)) (some 21) (val 7)) (some 29) (val 8)) (some 30) (val 9)) (some 31) (val 10)) (some 10) (val 11)) (some 9) (val 12)) _
  rw [v1, v6, v7, v8, v9, v10, v12, e11]
  simp only [Act.put, List.setIfInBounds_toArray, List.set_cons_zero, List.set_cons_succ]
  clear hY hV v1 v6 v7 v8 v9 v10 v12 e11
  refine mv_store (i := 13) b11 Q _ rfl rfl (by kernel_rfl) (by rfl) rfl rfl rfl a11 (by rw [HZE.out, HQ.out.1]) HQ.out.2.1 (HIE.out _ HQ.out.1) g11 hS (fun hS1 => ?_)
  clear hS
  have PX := Lib.hid (a11.setRow (C := Q))
  have hS := hS1
  clear hS1
  refine mv_yield (i := 14) (d := 11) (.int .i64 1) rfl rfl (by kernel_rfl) (by kernel_rfl) (by kernel_rfl) hS (y_run (by rfl) fun _ => by rfl) ?_
  simp only [Act.put, List.setIfInBounds_toArray, List.set_cons_zero, List.set_cons_succ]
  refine mv_done (by kernel_rfl) ?_
  replace HW := Lib.hid (HW.out.next hS)
  clear hS a11 g11 HK HTW
  revert HW PX
  generalize World.setRow _ _ _ = W8
  generalize b11 = b8
  intro PX HW
  rw [HBE.out]
  go_wp2_with (first
    | refine wpList_load_all (by rfl) 27 _ rfl w.heap.size rfl HT.out HW.out.2.2.1 Tryz.underlying27 rfl HIR.out ?_
    | refine wpList_load_all (by rfl) 36 _ rfl b8 rfl HQ.out PX.out Tryz.underlying36 rfl HIE.out ?_
    | refine wpList_build_parts (by rfl) 36 [] rfl _ rfl HBG.out ?_)
  refine (of_en T f HT.out _).mono ?_
  rintro e W9 ⟨rfl, hb⟩
  replace HW := Lib.hid (HW.out.next hb)
  replace PX := Lib.hid (At.two PX.out hb)
  clear hb
  go_wp2_with fail
  refine (HRT.out _).mono ?_
  rintro e W9 ⟨rfl, hb⟩
  replace HW := Lib.hid (HW.out.next hb)
  replace PX := Lib.hid (At.two PX.out hb)
  clear hb
  go_wp2_with (first
    | refine wpList_load_all (by rfl) 27 _ rfl w.heap.size rfl HT.out HW.out.2.2.1 Tryz.underlying27 rfl HIR.out ?_
    | refine wpList_load_all (by rfl) 36 _ rfl b8 rfl HQ.out PX.out Tryz.underlying36 rfl HIE.out ?_
    | refine wpList_build_parts (by rfl) 36 [] rfl _ rfl HBG.out ?_)
  go_ret
  exact ⟨rfl, HW.out.1⟩

set_option maxHeartbeats 4000000 in
theorem encSizes_yes (T F : Array Value) (f x : Nat → Int) (z : Int) (w : World) (hT : IsRow 55 f T) (hF : IsRow 16 x F) (h0 : 0 ≤ z) (h1 : z ≤ 255) (hr : Re f) (hTab : Lv.Tab w) :
    Calls Tryz.prog 3 #[.agg T, .agg F, .int .u8 z] w fun e w' => e = .returned (.bool true) ∧ Below w.heap.size w w' := by
  obtain ⟨Ze, hZe, _, hze, hie⟩ := zero_ep
  obtain ⟨_, _, _, _, hir⟩ := zero_er
  obtain ⟨_, _, _, _, hia⟩ := zero_a
  obtain ⟨_, _, _, _, hib⟩ := zero_b
  obtain ⟨G, hG, bG⟩ := ebuilt_0 isEn_p
  obtain ⟨I, m, htz, hI, hm, h10, h32⟩ := law_size h0 h1
  obtain ⟨X, hX⟩ : ∃ X, IsRow 16 (smF x) X := ⟨_, isRow _ _⟩
  obtain ⟨B, hB⟩ : ∃ B, (⟨(pkt f (smF x) m).toArray⟩ : ByteArray) = B := ⟨_, rfl⟩
  have hlen : B.size = m := by
    rw [← hB]
    show (pkt f (smF x) m).toArray.size = m
    rw [List.size_toArray]; exact pkt_length hr h10 h32
  obtain ⟨Q, hQ⟩ : ∃ Q, IsRow 55 (nxE f (smF x) m) Q := ⟨_, isRow _ _⟩
  have HEN := Lib.hid (fun w' hT' => as_E (encode_yes T X f (smF x) m B w' hT hX h10 h32 hr (smF_snd x) hB hT') hQ)
  have HRQ := Lib.hid (fun w' => eright_any Q _ true w' hQ ⟨fun _ => nx_re hr (smF_snd x), fun _ => rfl⟩)
  have HRT := Lib.hid (fun w' => eright_any T f true w' hT ⟨fun _ => hr, fun _ => rfl⟩)
  have HQ := Lib.hid hQ
  have HW := Lib.hid (Duo.start (Below.refl w.heap.size w) T F 27 22)
  have HT := Lib.hid hT
  have HF := Lib.hid hF
  have HX := Lib.hid hX
  have HIE := Lib.hid hie
  have HIR := Lib.hid hir
  have HIA := Lib.hid hia
  have HIB := Lib.hid hib
  have HZE := Lib.hid hZe.1
  have HG := Lib.hid hG
  have HBG := Lib.hid bG
  have HM := Lib.hid hm
  have HTAB := Lib.hid hTab
  clear hT hF hX hie hir hia hib hZe hG bG hm hTab hr hB hQ
  go_enter Tryz.func3, Tryz.ntmps3
  go_wp2_with fail
  refine (awake_as _ (HTAB.out.next HW.out.1)).mono ?_
  rintro e W1 ⟨rfl, hb⟩
  replace HW := Lib.hid (HW.out.next hb)
  clear hb
  go_wp2_with (first
    | refine wpList_load_all (by rfl) 22 _ rfl (w.heap.size + 1) rfl HF.out HW.out.2.2.2 Tryz.underlying22 rfl HIA.out ?_
    | (refine wpList_slice16 rfl _ rfl rfl HF.out ?_
       have hb := (Below.refl W1.heap.size W1).alloc (Nat.le_refl _) (.cells F 22)
       replace HW := Lib.hid (HW.out.next hb)
       have HA := Lib.hid (At.new W1 F 22)
       clear hb
       revert HW HA
       generalize W1.heap.size = b6
       generalize World.alloc _ _ = W6
       intro HW HA
       clear W1))
  refine (frames_one b6 F x _ W6 HF.out HA.out).mono ?_
  rintro e W7 ⟨gq, c, rfl, hK, hb⟩
  have HK := Lib.hid (hK.wide (Nat.zero_le _))
  replace HW := Lib.hid (HW.out.next hb)
  clear hb hK HA W6
  rw [HM.out]
  go_wp2_with fail
  have HTW := Lib.hid (HTAB.out.next HW.out.1)
  refine mv_start fun hS => ?_
  refine mv_yield (i := 0) (d := 22) (.agg T) rfl rfl (by kernel_rfl) (by kernel_rfl) (by kernel_rfl) hS (y_load_part (l := 0) (by rfl) rfl rfl HT.out (fun w' h => HW.out.2.2.1.below h HW.out.2.2.1.lt) HT.out (by omega) (fun i _ => by rw [Nat.zero_add]) Tryz.underlying27 rfl (HIR.out _ HT.out.1)) ?_
  simp only [Act.put, List.setIfInBounds_toArray, List.set_cons_zero, List.set_cons_succ]
  refine mv_yield (i := 2) (d := 24) (.slice (some ⟨gq, 0, none⟩) 1 c) rfl rfl (by kernel_rfl) (by kernel_rfl) (by kernel_rfl) hS (y_run (by rfl) fun _ => by rfl) ?_
  simp only [Act.put, List.setIfInBounds_toArray, List.set_cons_zero, List.set_cons_succ]
  refine mv_yield (i := 3) (d := 25) (.pointer (some ⟨gq, 0 * 16, none⟩)) rfl rfl (by kernel_rfl) (by kernel_rfl) (by kernel_rfl) hS (y_bx (k := 0) (by rfl) rfl rfl rfl rfl (by omega)) ?_
  simp only [Act.put, List.setIfInBounds_toArray, List.set_cons_zero, List.set_cons_succ]
  refine mv_yield (i := 4) (d := 26) (.agg X) rfl rfl (by kernel_rfl) (by kernel_rfl) (by kernel_rfl) hS (y_load_range (by rfl) rfl rfl (fun w' h => Bks.range (HK.out.below h) (by omega) HX.out) Tryz.underlying32 rfl (HIB.out _ HX.out.1)) ?_
  simp only [Act.put, List.setIfInBounds_toArray, List.set_cons_zero, List.set_cons_succ]
  refine mv_yield (i := 5) (d := 27) (.int .i64 m) rfl rfl (by kernel_rfl) (by kernel_rfl) (by kernel_rfl) hS (y_run (by rfl) fun _ => by rfl) ?_
  simp only [Act.put, List.setIfInBounds_toArray, List.set_cons_zero, List.set_cons_succ]
  refine parD0 (fuel := 2) [1, 6, 7, 8, 9, 10, 11, 12] [1, 6, 7, 8, 9, 11, 12] 10 (fun i => i == 11) (fun i => if i = 1 then .agg T else if i = 6 then .tuple #[.string B, .agg Q, .int .i64 0] else if i = 7 then .tuple #[.string B, .agg Q, .int .i64 0] else if i = 8 then .string B else if i = 9 then .agg Q else if i = 10 then .int .i64 0 else .string B) (fun i => Ze) (fun i => 36) #[true, true, true, true, true, true, true, true, true, true, false, true, true, false, false] #[true, true, true, true, true, true, true, true, true, true, true, true, true, false, false] _ rfl (by decide) (by decide) (by decide) rfl (by kernel_rfl) (by kernel_rfl) (by kernel_rfl) (by decide) rfl rfl rfl (by kernel_rfl) (by kernel_rfl) (by kernel_rfl) (by kernel_rfl) (by kernel_rfl) (by kernel_rfl) hS ?_ ?_ ?_
  · intro i hi
    simp only [List.mem_cons, List.not_mem_nil, or_false] at hi
    rcases hi with rfl | rfl | rfl | rfl | rfl | rfl | rfl | rfl
    · exact ⟨_, rfl, fun D val w' hw' hD hv => st_call (isA := fun i => i == 11) (V := fun i => if i = 1 then .agg T else if i = 6 then .tuple #[.string B, .agg Q, .int .i64 0] else if i = 7 then .tuple #[.string B, .agg Q, .int .i64 0] else if i = 8 then .string B else if i = 9 then .agg Q else if i = 10 then .int .i64 0 else .string B) (Zc := fun i => Ze) (ty := fun i => 36) (i := 1) #[.agg T] rfl rfl rfl enter_of_en (map1 (Eq.trans (part_other _ _ (by kernel_rfl)) rfl)) (of_en T f HT.out _)⟩
    · exact ⟨_, rfl, fun D val w' hw' hD hv => st_call (isA := fun i => i == 11) (V := fun i => if i = 1 then .agg T else if i = 6 then .tuple #[.string B, .agg Q, .int .i64 0] else if i = 7 then .tuple #[.string B, .agg Q, .int .i64 0] else if i = 8 then .string B else if i = 9 then .agg Q else if i = 10 then .int .i64 0 else .string B) (Zc := fun i => Ze) (ty := fun i => 36) (i := 6) #[.agg T, .agg X, .int .i64 m] rfl rfl rfl enter_encode (map3 (Eq.trans (part_eval 1 rfl (hD 1 (by decide +kernel) (by decide)) _ _ rfl (by kernel_rfl) (by kernel_rfl)) (hv 1 (by decide) (hD 1 (by decide +kernel) (by decide)) rfl)) (Eq.trans (part_other _ _ (by kernel_rfl)) rfl) (Eq.trans (part_other _ _ (by kernel_rfl)) rfl)) (HEN.out _ (HTW.out.next hw'))⟩
    · exact ⟨_, rfl, fun D val w' hw' hD hv => st_run (isA := fun i => i == 11) (V := fun i => if i = 1 then .agg T else if i = 6 then .tuple #[.string B, .agg Q, .int .i64 0] else if i = 7 then .tuple #[.string B, .agg Q, .int .i64 0] else if i = 8 then .string B else if i = 9 then .agg Q else if i = 10 then .int .i64 0 else .string B) (Zc := fun i => Ze) (ty := fun i => 36) (i := 7) (run_move rfl (Eq.trans (part_eval 6 rfl (hD 6 (by decide +kernel) (by decide)) _ _ rfl (by kernel_rfl) (by kernel_rfl)) (hv 6 (by decide) (hD 6 (by decide +kernel) (by decide)) rfl))) rfl rfl⟩
    · exact ⟨_, rfl, fun D val w' hw' hD hv => st_run (isA := fun i => i == 11) (V := fun i => if i = 1 then .agg T else if i = 6 then .tuple #[.string B, .agg Q, .int .i64 0] else if i = 7 then .tuple #[.string B, .agg Q, .int .i64 0] else if i = 8 then .string B else if i = 9 then .agg Q else if i = 10 then .int .i64 0 else .string B) (Zc := fun i => Ze) (ty := fun i => 36) (i := 8) (run_extract rfl (Eq.trans (part_eval 7 rfl (hD 7 (by decide +kernel) (by decide)) _ _ rfl (by kernel_rfl) (by kernel_rfl)) (hv 7 (by decide) (hD 7 (by decide +kernel) (by decide)) rfl)) rfl) rfl rfl⟩
    · exact ⟨_, rfl, fun D val w' hw' hD hv => st_run (isA := fun i => i == 11) (V := fun i => if i = 1 then .agg T else if i = 6 then .tuple #[.string B, .agg Q, .int .i64 0] else if i = 7 then .tuple #[.string B, .agg Q, .int .i64 0] else if i = 8 then .string B else if i = 9 then .agg Q else if i = 10 then .int .i64 0 else .string B) (Zc := fun i => Ze) (ty := fun i => 36) (i := 9) (run_extract rfl (Eq.trans (part_eval 7 rfl (hD 7 (by decide +kernel) (by decide)) _ _ rfl (by kernel_rfl) (by kernel_rfl)) (hv 7 (by decide) (hD 7 (by decide +kernel) (by decide)) rfl)) rfl) rfl rfl⟩
    · exact ⟨_, rfl, fun D val w' hw' hD hv => st_run (isA := fun i => i == 11) (V := fun i => if i = 1 then .agg T else if i = 6 then .tuple #[.string B, .agg Q, .int .i64 0] else if i = 7 then .tuple #[.string B, .agg Q, .int .i64 0] else if i = 8 then .string B else if i = 9 then .agg Q else if i = 10 then .int .i64 0 else .string B) (Zc := fun i => Ze) (ty := fun i => 36) (i := 10) (run_extract rfl (Eq.trans (part_eval 7 rfl (hD 7 (by decide +kernel) (by decide)) _ _ rfl (by kernel_rfl) (by kernel_rfl)) (hv 7 (by decide) (hD 7 (by decide +kernel) (by decide)) rfl)) rfl) rfl rfl⟩
    · exact ⟨_, rfl, fun D val w' hw' hD hv => st_alloc (isA := fun i => i == 11) (V := fun i => if i = 1 then .agg T else if i = 6 then .tuple #[.string B, .agg Q, .int .i64 0] else if i = 7 then .tuple #[.string B, .agg Q, .int .i64 0] else if i = 8 then .string B else if i = 9 then .agg Q else if i = 10 then .int .i64 0 else .string B) (Zc := fun i => Ze) (ty := fun i => 36) (i := 11) rfl rfl rfl rfl hze⟩
    · exact ⟨_, rfl, fun D val w' hw' hD hv => st_run (isA := fun i => i == 11) (V := fun i => if i = 1 then .agg T else if i = 6 then .tuple #[.string B, .agg Q, .int .i64 0] else if i = 7 then .tuple #[.string B, .agg Q, .int .i64 0] else if i = 8 then .string B else if i = 9 then .agg Q else if i = 10 then .int .i64 0 else .string B) (Zc := fun i => Ze) (ty := fun i => 36) (i := 12) (run_assign rfl (Eq.trans (part_eval 8 rfl (hD 8 (by decide +kernel) (by decide)) _ _ rfl (by kernel_rfl) (by kernel_rfl)) (hv 8 (by decide) (hD 8 (by decide +kernel) (by decide)) rfl))) rfl rfl⟩
  · exact ⟨_, rfl, fun D val hD hv => y_of_run (by rfl) (fun w' => run_extract rfl (Eq.trans (part_eval 7 rfl (hD 7 (by decide +kernel) (by decide)) _ _ rfl (by kernel_rfl) (by kernel_rfl)) (hv 7 (by decide) (hD 7 (by decide +kernel) (by decide)) rfl)) rfl)⟩
  clear hS
  intro val w' hS hY hV
  have v1 : val 1 = .agg T := (hY 1 (by simp)).1 rfl
  have v6 : val 6 = .tuple #[.string B, .agg Q, .int .i64 0] := (hY 6 (by simp)).1 rfl
  have v7 : val 7 = .tuple #[.string B, .agg Q, .int .i64 0] := (hY 7 (by simp)).1 rfl
  have v8 : val 8 = .string B := (hY 8 (by simp)).1 rfl
  have v9 : val 9 = .agg Q := (hY 9 (by simp)).1 rfl
  have v10 : val 10 = .int .i64 0 := (hY 10 (by simp)).1 rfl
  have v12 : val 12 = .string B := (hY 12 (by simp)).1 rfl
  obtain ⟨b11, e11, a11, g11⟩ : ∃ b, val 11 = .pointer (some ⟨b, 0, none⟩) ∧ At w' b Ze 36 ∧ W7.heap.size ≤ b := (hY 11 (by simp)).2 rfl
  show wpAnyH _ _ _ _ _ _ _ (Act.put (Act.put (Act.put (Act.put (Act.put (Act.put (Act.put (Act.put _ (some 23) (val 1)) (some 28) (val 6)) (some 21) (val 7)) (some 29) (val 8)) (some 30) (val 9)) (some 31) (val 10)) (some 10) (val 11)) (some 9) (val 12)) _
  rw [v1, v6, v7, v8, v9, v10, v12, e11]
  simp only [Act.put, List.setIfInBounds_toArray, List.set_cons_zero, List.set_cons_succ]
  clear hY hV v1 v6 v7 v8 v9 v10 v12 e11
  refine mv_store (i := 13) b11 Q _ rfl rfl (by kernel_rfl) (by rfl) rfl rfl rfl a11 (by rw [HZE.out, HQ.out.1]) HQ.out.2.1 (HIE.out _ HQ.out.1) g11 hS (fun hS1 => ?_)
  clear hS
  have PX := Lib.hid (a11.setRow (C := Q))
  have hS := hS1
  clear hS1
  refine mv_yield (i := 14) (d := 11) (.int .i64 0) rfl rfl (by kernel_rfl) (by kernel_rfl) (by kernel_rfl) hS (y_run (by rfl) fun _ => by rfl) ?_
  simp only [Act.put, List.setIfInBounds_toArray, List.set_cons_zero, List.set_cons_succ]
  refine mv_done (by kernel_rfl) ?_
  replace HW := Lib.hid (HW.out.next hS)
  clear hS a11 g11 HK HTW
  revert HW PX
  generalize World.setRow _ _ _ = W8
  generalize b11 = b8
  intro PX HW
  go_wp2_with (first
    | refine wpList_load_all (by rfl) 27 _ rfl w.heap.size rfl HT.out HW.out.2.2.1 Tryz.underlying27 rfl HIR.out ?_
    | refine wpList_load_all (by rfl) 36 _ rfl b8 rfl HQ.out PX.out Tryz.underlying36 rfl HIE.out ?_
    | refine wpList_build_parts (by rfl) 36 [] rfl _ rfl HBG.out ?_)
  refine (HRQ.out _).mono ?_
  rintro e W9 ⟨rfl, hb⟩
  replace HW := Lib.hid (HW.out.next hb)
  replace PX := Lib.hid (At.two PX.out hb)
  clear hb
  go_wp2_with (first
    | refine wpList_load_all (by rfl) 27 _ rfl w.heap.size rfl HT.out HW.out.2.2.1 Tryz.underlying27 rfl HIR.out ?_
    | refine wpList_load_all (by rfl) 36 _ rfl b8 rfl HQ.out PX.out Tryz.underlying36 rfl HIE.out ?_
    | refine wpList_build_parts (by rfl) 36 [] rfl _ rfl HBG.out ?_)
  refine (of_en T f HT.out _).mono ?_
  rintro e W9 ⟨rfl, hb⟩
  replace HW := Lib.hid (HW.out.next hb)
  replace PX := Lib.hid (At.two PX.out hb)
  clear hb
  go_wp2_with fail
  refine (HRT.out _).mono ?_
  rintro e W9 ⟨rfl, hb⟩
  replace HW := Lib.hid (HW.out.next hb)
  replace PX := Lib.hid (At.two PX.out hb)
  clear hb
  go_wp2_with (first
    | refine wpList_load_all (by rfl) 27 _ rfl w.heap.size rfl HT.out HW.out.2.2.1 Tryz.underlying27 rfl HIR.out ?_
    | refine wpList_load_all (by rfl) 36 _ rfl b8 rfl HQ.out PX.out Tryz.underlying36 rfl HIE.out ?_
    | refine wpList_build_parts (by rfl) 36 [] rfl _ rfl HBG.out ?_)
  go_ret
  exact ⟨rfl, HW.out.1⟩

theorem encSizes_walk (T F : Array Value) (f x : Nat → Int) (z : Int) (w : World) (hT : IsRow 55 f T) (hF : IsRow 16 x F) (h0 : 0 ≤ z) (h1 : z ≤ 255) (hTab : Lv.Tab w) :
    Calls Tryz.prog 3 #[.agg T, .agg F, .int .u8 z] w fun e w' => e = .returned (.bool true) ∧ Below w.heap.size w w' := by
  by_cases hr : Re f
  · exact encSizes_yes T F f x z w hT hF h0 h1 hr hTab
  · exact encSizes_no T F f x z w hT hF h0 h1 hr hTab
end Go.Proofs.YtfohinlldchdpaaGreatDoor.En
end
