/- Texts of the walk, one behind the other. -/
import Derived.Test.YtfohinlldchdpaaGreatDoorEncPlaysM43
import Derived.Test.YtfohinlldchdpaaGreatDoorEncPlaysM8
import Derived.Test.YtfohinlldchdpaaGreatDoorEncPlaysM5
import Derived.Test.YtfohinlldchdpaaGreatDoorEncPlaysM27
import Derived.Test.YtfohinlldchdpaaGreatDoorEncPlaysM44
import Derived.Test.YtfohinlldchdpaaGreatDoorEncPlaysM46
import Derived.Test.YtfohinlldchdpaaGreatDoorEncPlaysM29
import Derived.Test.YtfohinlldchdpaaGreatDoorEncPlaysM35
import Derived.Test.YtfohinlldchdpaaGreatDoorEncPlaysM49
import Derived.Deep.DeepCutAuto

section
/- Contract: the document's encoder. -/
set_option maxRecDepth 100000
set_option linter.unusedVariables false
namespace Go.Proofs.YtfohinlldchdpaaGreatDoor.En
open Go.RowKit Go.Proofs.YtfohinlldchdpaaGreatDoor.Row Rg Md Tl Sta
open List (setIfInBounds_toArray set_cons_zero set_cons_succ)
open Lib (hid)

theorem r_sub {p s r : Nat} (h : p + s = r) : r - p = s := by omega
theorem enter_rcell (args : Array Value) (w : World) : (callFunc 45 args).run Tryz.prog w = .ok (.enter 45 args) w := run_enter Tryz.func45 (by kernel_rfl) rfl args w
theorem enter_rput (args : Array Value) (w : World) : (callFunc 44 args).run Tryz.prog w = .ok (.enter 44 args) w := run_enter Tryz.func44 (by kernel_rfl) rfl args w

theorem enter_rused (args : Array Value) (w : World) : (callFunc 47 args).run Tryz.prog w = .ok (.enter 47 args) w := run_enter Tryz.func47 (by kernel_rfl) rfl args w
theorem enter_rpulses (args : Array Value) (w : World) : (callFunc 46 args).run Tryz.prog w = .ok (.enter 46 args) w := run_enter Tryz.func46 (by kernel_rfl) rfl args w
theorem as_R {fn : FuncId} {args : Array Value} {R : Array Value} {h : Nat → Int} {k : Nat} {w : World} (H : Calls Tryz.prog fn args w (Sp.RetR k w h)) (hR : IsRow k h R) :
    Calls Tryz.prog fn args w fun e w' => e = .returned (.agg R) ∧ Below w.heap.size w w' := by
  refine H.mono ?_
  rintro e w' ⟨⟨R', rfl, hR'⟩, hb⟩
  obtain rfl := hR'.eq hR fun _ _ => rfl
  exact ⟨rfl, hb⟩
theorem run_maxi (x y u : Int) (h : max x y = u) (w : World) : (Builtin.max_ #[3, 3] 3 #[.int .i64 x, .int .i64 y]).run Tryz.prog w = .ok (.int .i64 u) w := by
  have e : (if x < y then y else x) = u := by rw [← h]; split <;> omega
  rw [← e]
  simp [Builtin.max_, Builtin.max2]
theorem y_max {ops : Array Oper} {S : World → Prop} {a : Act} {oi : Oper} {y z : Operand} {m n r : Int} (hw : Region.wanted oi (yielded ops a.tmps) = true) (ho : oi.op = .call { callee := .builtin .max, args := #[y, z], argTypes := #[3, 3] }) (ht : oi.type = 3) (hy : a.eval y = .int .i64 m) (hz : a.eval z = .int .i64 n) (hr : max m n = r) : YieldsIf Tryz.prog ops S oi (.int .i64 r) a :=
  y_run hw fun w => by
    have h := run_maxi m n r hr w
    unfold execOp
    simp only [ho, ht, resolve, invoke, builtin, Sem.run_bind, Sem.run_pure, Result.andThen_ok, List.map_toArray, List.map_cons, List.map_nil, hy, hz, h]
theorem ES.other {w w1 : World} {T Lf Wv V : Array Value} {bl bw bc bv g n c b : Nat} {x : St} (h : ES w T bl bw bc bv Lf Wv V g n c x w1) (hb : bv < b) (hg : g ≠ b) (R : Array Value) : ES w T bl bw bc bv Lf Wv V g n c x (w1.setRow b R) := by
  obtain ⟨h1, h2, ⟨Z, z1, z2⟩, h4, h5, h6, h7, h8, o1, o2, o3, o4, g0, g1, g2⟩ := h
  exact ⟨below_setRow' h1 (by omega) _, h2.setRow_other (by omega), ⟨Z, z1, z2.setRow_other (by omega)⟩, h4.setRow_other (by omega), h5.setRow_other (by omega), h6.setRow_other (by omega), h7.setRow_other (by omega), RefAt.row_other h8 hg _, o1, o2, o3, o4, g0, g1, g2⟩

theorem enter_rfind (args : Array Value) (w : World) : (callFunc 50 args).run Tryz.prog w = .ok (.enter 50 args) w := run_enter Tryz.func50 (by kernel_rfl) rfl args w
theorem enter_rnumber (args : Array Value) (w : World) : (callFunc 49 args).run Tryz.prog w = .ok (.enter 49 args) w := run_enter Tryz.func49 (by kernel_rfl) rfl args w
theorem enter_rcost (args : Array Value) (w : World) : (callFunc 51 args).run Tryz.prog w = .ok (.enter 51 args) w := run_enter Tryz.func51 (by kernel_rfl) rfl args w
theorem enter_rbits (args : Array Value) (w : World) : (callFunc 48 args).run Tryz.prog w = .ok (.enter 48 args) w := run_enter Tryz.func48 (by kernel_rfl) rfl args w
theorem run_mini (x y u : Int) (h : min x y = u) (w : World) : (Builtin.min_ #[3, 3] 3 #[.int .i64 x, .int .i64 y]).run Tryz.prog w = .ok (.int .i64 u) w := by
  have e : (if y < x then y else x) = u := by rw [← h]; split <;> omega
  rw [← e]
  simp [Builtin.min_, Builtin.min2]
def EP (w : World) (T : Array Value) (bl bw bc bv bk : Nat) (Lf Wv V K : Array Value) (g n c : Nat) (x : St) (w' : World) : Prop := ES w T bl bw bc bv Lf Wv V g n c x w' ∧ At w' bk K 23 ∧ bv < bk
section
variable {w w1 w2 : World} {T Lf Wv V K : Array Value} {bl bw bc bv bk g n c : Nat} {x : St}
theorem EP.next (h : EP w T bl bw bc bv bk Lf Wv V K g n c x w1) (hb : Below w1.heap.size w1 w2) : EP w T bl bw bc bv bk Lf Wv V K g n c x w2 := ⟨h.1.next hb, h.2.1.below hb h.2.1.lt, h.2.2⟩
theorem EP.put {y : St} {g' n' c' : Nat} (h : EP w T bl bw bc bv bk Lf Wv V K g n c x w2) (hg : bv < g') (hr : RefAt w2 g' n' c' y) : EP w T bl bw bc bv bk Lf Wv V K g' n' c' y (w2.setRow bc #[.slice (some ⟨g', 0, none⟩) n' c', .int .i64 y.r]) :=
  ⟨h.1.put hg hr, h.2.1.setRow_other (by have := h.1.o4; have := h.2.2; omega), h.2.2⟩
end
theorem run_cx {g n c k : Nat} (hk : k < n) (w : World) :
    (Instr.indexAt 96 (.slice (some ⟨g, 0, none⟩) n c) (.int .i64 k)).run Tryz.prog w = .ok (.pointer (some ⟨g, k * 3, none⟩)) w := by
  have h : (0 : Int) ≤ (k : Int) ∧ (k : Int) < (n : Int) := by omega
  have hz : ∀ w, (sizeOf 92).run Tryz.prog w = .ok 3 w := fun w => by
    obtain ⟨i, h1, _, h2, _⟩ := info_cell
    simp [sizeOf, typeInfo, h1, h2]
  unfold Instr.indexAt
  simp only [Sem.run_bind, asIntOf, Sem.run_pure, Result.andThen_ok, run_underlying Tryz.underlying96, if_pos h, hz]
  simp only [Addr.add, Int.toNat_natCast, Nat.zero_add]
  split <;> simp_all
theorem y_cx {ops : Array Oper} {S : World → Prop} {a : Act} {oi : Oper} {y z : Operand} {g n c k : Nat} {x : Int} (hw : Region.wanted oi (yielded ops a.tmps) = true) (ho : oi.op = .indexAddr 96 y z) (hy : a.eval y = .slice (some ⟨g, 0, none⟩) n c) (hz : a.eval z = .int .i64 x)
    (hx : x = k) (hk : k < n) : YieldsIf Tryz.prog ops S oi (.pointer (some ⟨g, k * 3, none⟩)) a :=
  y_run hw fun w => by
    subst hx
    unfold execOp
    simp only [ho, hy, hz, run_cx hk, Sem.run_bind, Result.andThen_ok, Sem.run_pure]
theorem cls_range {w : World} {B n c g i : Nat} {L : List Cl} {C : Cl} (h : Cls w B (some ⟨g, 0, none⟩) n c L) (hi : L[i]? = some C) : w.rangeAt g (i * 3) [.int .i64 C.s, .int .i64 C.w, .int .i64 C.t] := by
  obtain ⟨h1, h2, h3⟩ := h.at hi
  intro j v hj
  match j, hj with
  | 0, hj => injection hj with hj; subst hj; exact h1
  | 1, hj => injection hj with hj; subst hj; exact h2
  | 2, hj => injection hj with hj; subst hj; exact h3
  | n + 3, hj => simp at hj

def CR (bc : Nat) (ao : Option Addr) (L : List Cl) (w : World) : Prop := ∀ i C, L[i]? = some C → ∃ gc, ao = some ⟨gc, 0, none⟩ ∧ bc < gc ∧ w.rangeAt gc (i * 3) [.int .i64 C.s, .int .i64 C.w, .int .i64 C.t]
theorem CR.of {w : World} {B n c bc : Nat} {ao : Option Addr} {L : List Cl} (h : Cls w B ao n c L) (hB : bc < B) : CR bc ao L w := fun i C hC => by
  have hl : i < L.length := (List.getElem?_eq_some_iff.1 hC).1
  obtain ⟨gc, rfl, hg⟩ := h.addr (by rw [h.1] at hl; omega)
  exact ⟨gc, rfl, by omega, cls_range h hC⟩
theorem CR.range {w : World} {bc gc i : Nat} {L : List Cl} {C : Cl} (h : CR bc (some ⟨gc, 0, none⟩) L w) (hC : L[i]? = some C) : w.rangeAt gc (i * 3) [.int .i64 C.s, .int .i64 C.w, .int .i64 C.t] := by
  obtain ⟨g', e, _, h⟩ := h i C hC
  cases e
  exact h
theorem CR.next {w w1 : World} {bc : Nat} {ao : Option Addr} {L : List Cl} (h : CR bc ao L w) (hb : Below w.heap.size w w1) : CR bc ao L w1 := fun i C hC => by
  obtain ⟨gc, e, h1, h2⟩ := h i C hC
  exact ⟨gc, e, h1, fun j v hj => (Below.cell hb (block_lt_of_cell (h2 j v hj))).trans (h2 j v hj)⟩
theorem CR.row {w : World} {bc : Nat} {ao : Option Addr} {L : List Cl} (h : CR bc ao L w) (R : Array Value) : CR bc ao L (w.setRow bc R) := fun i C hC => by
  obtain ⟨gc, e, h1, h2⟩ := h i C hC
  refine ⟨gc, e, h1, fun j v hj => ?_⟩
  rw [← h2 j v hj]
  refine World.cell?_of_block ?_
  unfold World.setRow
  simp [Array.getElem?_modify, Nat.ne_of_lt h1]

theorem enter_rcut (args : Array Value) (w : World) : (callFunc 54 args).run Tryz.prog w = .ok (.enter 54 args) w := run_enter Tryz.func54 (by kernel_rfl) rfl args w
theorem results_tmp_row {fn : Func} {p q : Tmp} {t : TypeId} {z : Value} (h : fn.results = #[.tmp q, .cell p t]) (tmps : Array Value) (w : World) (g : Nat) (A : Array Value) {u : TypeId} (d : TypeDesc)
    (hq : tmps.getD q undef = z) (hp : tmps.getD p undef = .pointer (some ⟨g, 0, none⟩)) (hg : At w g A u)
    (hu : Tryz.prog.underlying t = some d) (hd : d.isRow = true) (hA : (Tryz.prog.info? t).map (·.size) = some A.size) :
    (results fn tmps).run Tryz.prog w = .ok (.tuple #[z, .agg A]) w := by
  have hp' : tmps[p]?.getD undef = .pointer (some ⟨g, 0, none⟩) := by simpa using hp
  have hq' : tmps[q]?.getD undef = z := by simpa using hq
  have h1 := run_loadVar_row w g u t A (0, 0) _ hg hu (by cases d <;> first | rfl | cases hd) hA
  simp [results, h, hp', hq', asAddr, h1]

def RetEn (w : World) (s : List UInt8) (g : Nat → Int) (e : Ending) (w' : World) : Prop := (∃ B Q, ⟨s.toArray⟩ = B ∧ e = .returned (.tuple #[.string B, .agg Q]) ∧ IsRow 55 g Q) ∧ Below w.heap.size w w'

set_option maxHeartbeats 4000000 in
theorem refEncode_as (T F : Array Value) (f b : Nat → Int) (m : Nat) (hT : IsRow 55 f T) (hF : IsRow 16 b F) (hr : Re f) (hs : Snd b) (h10 : 10 ≤ m) (h32 : m ≤ 32) (w : World) :
    Calls Tryz.prog 19 #[.agg T, .agg F, .int .i64 m] w (RetEn w (pkE (lvA f) (lvE f b) (wvE f b) m) (enF (liS (f 16) b) (ct22 (b 15)) (De.nxD (byteF (pkE (lvA f) (lvE f b) (wvE f b) m)) (fun i => f (17 + i)) m))) := by
  obtain ⟨Ze, hZe, _, hze, hie⟩ := zero_er
  obtain ⟨Za, hZa, _, hza, hia⟩ := zero_a
  obtain ⟨Zv, hZv, _, hzv, hi4⟩ := zero_4
  obtain ⟨Zr, hZr, _, hzr, hir⟩ := zero_r
  obtain ⟨M, hM⟩ : ∃ M, T.extract 0 (0 + 16) = M := ⟨_, rfl⟩
  have hM' := hT.sub (show 0 + 16 ≤ 55 by omega)
  rw [hM] at hM'
  have hM2 : IsRow 16 f M := hM'.ext fun i _ => by rw [Nat.zero_add]
  obtain ⟨z, hz⟩ : ∃ z, f 16 = z := ⟨_, rfl⟩
  have hlif := fun w => refLift_any z F b w hF
  obtain ⟨Lf, hLf⟩ : ∃ L, rowL 16 (liS z b) 16 = L := ⟨_, rfl⟩
  have hLf' : IsRow 16 (liS z b) Lf := by rw [← hLf]; exact isRow _ _
  obtain ⟨q, hq⟩ : ∃ q, ct22 (b 15) = q := ⟨_, rfl⟩
  rw [hLf, hq] at hlif
  have hwav := fun w => refWaves_any M Lf f (liS z b) hM2 hLf' (prev_le hr) (by rw [← hz]; exact li_le hr.2.1 hs) w
  have hwe : wS f (liS z b) = wvE f b := by unfold wvE; rw [hz]
  rw [hwe] at hwav
  obtain ⟨Wv, hWv⟩ : ∃ L, rowL 16 (wvE f b) 16 = L := ⟨_, rfl⟩
  have hWv' : IsRow 16 (wvE f b) Wv := by rw [← hWv]; exact isRow _ _
  rw [hWv] at hwav
  have HLF := hid hlif
  have HWV := hid hwav
  have HT := hid hT
  have HF := hid hF
  have HM := hid hM'
  have HZ := hid hz
  have HQ := hid hq
  have HL := hid hLf'
  have HV := hid hWv'
  have HIE := hid hie
  have HIA := hid hia
  have HI4 := hid hi4
  have HIR := hid hir
  have hZr38 := hZr.1
  have HZE := hid hZe.1
  have HZA := hid hZa.1
  have HZV := hid hZv
  have HRE := hid hr
  have HM10 := hid h10
  have HM32 := hid h32
  have HW := hid (Tri.start w T F Ze 27 22 27)
  clear hlif hwav hT hF hM hM' hM2 hz hq hLf hLf' hWv hWv' hwe hie hia hi4 hir hZe hZa hZv hZr hr hs h10 h32
  go_enter Tryz.func19, Tryz.ntmps19
  have c16 := HT.out.cell HW.out.2.1 16 (by omega)
  rw [HZ.out] at c16
  go_wp2_with (refine wpList_load_all (by rfl) 22 _ rfl (w.heap.size + 1) rfl HF.out HW.out.2.2.1 Tryz.underlying22 rfl HIA.out ?_)
  clear c16
  revert HW
  generalize World.alloc _ _ = W
  intro HW
  refine (HLF.out W).mono ?_
  rintro e W1 ⟨rfl, hb⟩
  replace HW := hid (HW.out.next hb)
  clear hb HLF W
  go_wp2_with (first
    | (refine wpList_store_row rfl 22 _ _ rfl W1.heap.size Lf rfl rfl _ _ (heap_alloc_new _ _) (HIA.out _ HL.out.1) (by rw [HZA.out, HL.out.1]) HL.out.2.1 ?_; rw [World.setRow_alloc_new]
       have OL := hid HW.out.2.2.2.lt
       replace HW := hid (HW.out.alloc (.cells Lf 22))
       have PL := hid (At.new W1 Lf 22)
       revert OL HW PL
       generalize W1.heap.size = bl
       generalize World.alloc _ _ = W
       intro OL HW PL
       clear W1)
    | refine wpList_load_part (by rfl) 22 _ rfl w.heap.size 0 rfl HT.out HW.out.2.1 HM.out (by omega) (fun i _ => rfl) Tryz.underlying22 rfl (HIA.out _ HM.out.1) ?_
    | refine wpList_load_all (by rfl) 22 _ rfl bl rfl HL.out PL.out Tryz.underlying22 rfl HIA.out ?_)
  refine (HWV.out W).mono ?_
  rintro e W1 ⟨rfl, hb⟩
  replace HW := hid (HW.out.next hb)
  replace PL := hid (At.two PL.out hb)
  clear hb HWV W
  go_wp2_with (first
    | (refine wpList_store_row rfl 22 _ _ rfl W1.heap.size Wv rfl rfl _ _ (heap_alloc_new _ _) (HIA.out _ HV.out.1) (by rw [HZA.out, HV.out.1]) HV.out.2.1 ?_; rw [World.setRow_alloc_new]
       have OV := hid PL.out.lt
       replace HW := hid (HW.out.alloc (.cells Wv 22))
       replace PL := hid (PL.out.alloc (.cells Wv 22))
       have PV := hid (At.new W1 Wv 22)
       revert OV HW PL PV
       generalize W1.heap.size = bw
       generalize World.alloc _ _ = W
       intro OV HW PL PV
       clear W1))
  refine (refNew_as W).mono ?_
  rintro e W1 ⟨g, n, c, rfl, hg, hR, hb⟩
  unfold refV
  replace HW := hid (HW.out.next hb)
  have OC := hid (Nat.lt_of_lt_of_le PV.out.lt hb.size)
  have HGW := hid (Nat.lt_of_lt_of_le PV.out.lt hg)
  have HGL := hid (RefAt.lt hR)
  replace PL := hid (At.two PL.out hb)
  replace PV := hid (At.two PV.out hb)
  have HR := hid hR
  clear hb hg hR W
  go_wp2_with fail
  have HES := hid (ES.start HW.out HZE.out PL.out PV.out HR.out OL.out OV.out OC.out HGW.out Zv)
  clear HR PL PV HW HGL HGW
  revert HES
  generalize World.alloc _ _ = W
  generalize W1.heap.size + 1 = bv
  have OC2 := OC
  revert OC2
  generalize W1.heap.size = bc
  intro OC2 HES
  clear OC W1
  obtain ⟨L, hL⟩ : ∃ L, lvA f = L := ⟨_, rfl⟩
  obtain ⟨l, hl⟩ : ∃ L, lvE f b = L := ⟨_, rfl⟩
  obtain ⟨u, hu⟩ : ∃ L, wvE f b = L := ⟨_, rfl⟩
  have HLO := hid (show Sp.okL L by rw [← hL]; exact lvA_ok HRE.out)
  have HLO2 := hid (show Sp.okL l by rw [← hl]; exact lvE_ok f b)
  have HLB := hid (show ∀ k, k < 4 → Lv.lv (fun i => u (Lv.fs k + i)) (Sp.sB k) = l k from fun k hk => by
    have h := (De.sB_fs k hk).1
    rw [← hl, ← hu]
    show _ = Lv.lv (fun i => wvE f b (Lv.fs k + i)) (Lv.fs (k + 1) - Lv.fs k)
    rw [show Lv.fs (k + 1) - Lv.fs k = Sp.sB k by omega])
  have HLA := hid (show ∀ k, k < 4 → f (34 + k) = L k from fun k _ => by rw [← hL]; rfl)
  rw [hu] at HV
  have Hl := hid hl
  have Hu := hid hu
  have HLL := hid hL
  clear hL hl hu
  go_loopw [13] (fun i w' => ∃ (k : Nat) (V : Array Value) (g n c : Nat), k ≤ 4 ∧ i = .int .i64 k ∧ Hid (ES w T bl bw bc bv Lf Wv V g n c (xL L l k) w') ∧ Hid (IsRow 4 (Tl.mix l (fun _ => 0) k) V)) (fun i _ => 4 - (intOf i).toNat)
  case atStart => exact ⟨0, Zv, g, n, c, by omega, rfl, HES, hid (HZV.out.ext fun i _ => by rw [Tl.mix_0])⟩
  case round =>
    obtain ⟨k, V, g, n, c, hk, rfl, HE, HVR⟩ := hrel
    clear HES
    by_cases hk4 : k < 4
    · have k1 : (k : Int) < 4 := by omega
      have k0 : (0 : Int) ≤ (k : Int) := by omega
      obtain ⟨p, hp⟩ : ∃ p, Lv.fs k = p := ⟨_, rfl⟩
      obtain ⟨r, hr⟩ : ∃ p, Lv.fs (k + 1) = p := ⟨_, rfl⟩
      obtain ⟨s, hs⟩ : ∃ p, Sp.sB k = p := ⟨_, rfl⟩
      obtain ⟨e1, e2, e3, e4⟩ := De.sB_fs k hk4
      rw [hp, hr, hs] at e1
      rw [hr] at e4
      rw [hs] at e2 e3
      have HCB := hid (fun w => Lv.bounds_any k w hk4)
      rw [hp, hr] at HCB
      have HP := hid hp
      have HS := hid hs
      clear hp hr hs
      go_wp2_with fail
      refine (HCB.out wr).mono ?_
      rintro e W1 ⟨rfl, hb⟩
      replace HE := hid (HE.out.next hb)
      clear hb HCB
      have h1 : (p : Int) ≤ r := by omega
      have h2 : (r : Int) ≤ 16 := by omega
      have h0 : (0 : Int) ≤ p := by omega
      go_wp2_with fail
      have hsl := r_sub (show p + s = r by omega)
      have HSL := hid (show Sl .i64 W1 (some ⟨bw, p, none⟩) (r - p) (16 - p) (fun i => u (p + i)) from ⟨by omega, by unfold maxLen; omega, fun _ => ⟨bw, p, rfl, fun i hi => HV.out.cell HE.out.wv (p + i) (by omega)⟩⟩)
      have hlev := Lv.refLevel_any (some ⟨bw, p, none⟩) (r - p) (16 - p) (fun i => u (p + i)) W1 HSL.out (by omega)
      have hlk := HLB.out k hk4
      rw [HP.out, HS.out] at hlk
      rw [hsl, hlk] at hlev
      obtain ⟨lv, hlv⟩ : ∃ q, l k = q := ⟨_, rfl⟩
      rw [hlv] at hlev
      have HLEV := hid hlev
      have HLVk := hid hlv
      clear hlev hlk hlv
      rw [hsl]
      clear hsl HSL
      refine HLEV.out.mono ?_
      rintro e w1 ⟨rfl, rfl⟩
      clear HLEV
      have c2 := HVR.out.cell HE.out.le k hk4
      have f2 := HE.out.le.frozen k
      have HE2 := hid (HE.out.lev k (.int .i64 lv))
      have HV2 := hid ((HVR.out.set (k := k) lv hk4).ext (g := Tl.mix l (fun _ => 0) (k + 1)) fun j _ => by rw [← Tl.mix_next _ _ k j, HLVk.out])
      obtain ⟨V2, hV2⟩ : ∃ A, V.setIfInBounds k (.int .i64 lv) = A := ⟨_, rfl⟩
      rw [hV2] at HE2 HV2
      obtain ⟨la, hla⟩ : ∃ q, L k = q := ⟨_, rfl⟩
      have HLAk := hid (show f (34 + k) = la by rw [← hla]; exact HLA.out k hk4)
      have hbd := df_bd HLO.out HLO2.out hk4
      have hlo := HLO.out k hk4
      have hlo2 := HLO2.out k hk4
      rw [HLVk.out] at hlo2 hbd
      rw [hla] at hlo hbd
      obtain ⟨df, hdf⟩ : ∃ q, lv - la = q := ⟨_, rfl⟩
      have HDF := hid (show IntKind.i64.wrap (lv - la) = df by rw [IntWalk.i64_in _ (by omega)]; exact hdf)
      rw [hdf] at hbd
      obtain ⟨cs, hcs⟩ : ∃ q : Int, ((Lp.sI (Lp.iV df) : Nat) : Int) = q := ⟨_, rfl⟩
      obtain ⟨cu, hcu⟩ : ∃ q : Int, ((Lp.wI (Lp.iV df) : Nat) : Int) = q := ⟨_, rfl⟩
      have hcc := fun w => Lp.refCell_as df _ _ w hbd rfl rfl
      rw [hcs, hcu] at hcc
      have HCC := hid hcc
      have hxok := xL_ok HLO.out HLO2.out k (by omega)
      have hxg := xL_g HLO.out HLO2.out k (by omega)
      have hyx : xL L l (k + 1) = (xL L l k).put (Lp.cl df) := by rw [xL_next, HLVk.out, hla, hdf]
      obtain ⟨x, hx⟩ : ∃ x, xL L l k = x := ⟨_, rfl⟩
      obtain ⟨y, hy⟩ : ∃ y, xL L l (k + 1) = y := ⟨_, rfl⟩
      rw [hx] at hxok hxg hyx HE2
      rw [hy] at hyx
      obtain ⟨rr, hrr⟩ : ∃ q : Int, (x.r : Int) = q := ⟨_, rfl⟩
      have HPP := hid (show ∀ g n c w, RefAt w g n c x → Calls Tryz.prog 44 #[.agg #[.slice (some ⟨g, 0, none⟩) n c, .int .i64 rr], .agg #[.int .i64 cs, .int .i64 cu, .int .i64 32768]] w fun e w' => RetRef w y e w' from fun g n c w h => by
        rw [hyx]
        exact refPut_at g n c x (Lp.cl df) rr cs cu 32768 w hrr hcs hcu rfl h hxok (Lp.cl_ok hbd.1 hbd.2) (by omega))
      have HRR := hid hrr
      have HY := hid hy
      have HI81 := hid (show (Tryz.prog.info? 85).map (·.size) = some (#[Value.slice (some ⟨g, 0, none⟩) n c, .int .i64 rr] : Array Value).size by kernel_rfl)
      obtain ⟨kk, hkk⟩ : ∃ q : Int, q = (k : Int) := ⟨_, rfl⟩
      have Hkk := hid hkk
      have HMX := hid (show Tl.mix l (fun _ => 0) (k + 1) k = lv by unfold Tl.mix; rw [if_pos (by omega)]; exact HLVk.out)
      clear hla hbd hlo hlo2 hdf hcs hcu hcc hxok hxg hyx hx hy hrr HE HVR
      go_wp2_with fail
      rw [hV2] at *
      rw [← hkk]
      clear hkk
      refine mf_start (ES w T bl bw bc bv Lf Wv V2 g n c x) (fun i => i == 12) (HE2.out.next ((Below.refl _ _).drew)) fun hS => ?_
      refine mf_yield (i := 0) (d := 55) (.agg #[.slice (some ⟨g, 0, none⟩) n c, .int .i64 rr]) rfl rfl (by kernel_rfl) (by kernel_rfl) (by kernel_rfl) (by kernel_rfl) hS (y_load_range (by rfl) rfl rfl (fun w' h => by have := At.whole h.co; rw [HRR.out] at this; exact this) Tryz.underlying85 rfl HI81.out) ?_
      simp only [Act.put, setIfInBounds_toArray, set_cons_zero, set_cons_succ]
      refine mf_yield (i := 1) (d := 56) (.int .i64 kk) rfl rfl (by kernel_rfl) (by kernel_rfl) (by kernel_rfl) (by kernel_rfl) hS (y_run (by rfl) fun _ => by rfl) ?_
      simp only [Act.put, setIfInBounds_toArray, set_cons_zero, set_cons_succ]
      refine mf_yield (i := 2) (d := 57) (.pointer (some ⟨bv, k, none⟩)) rfl rfl (by kernel_rfl) (by kernel_rfl) (by kernel_rfl) (by kernel_rfl) hS (y_at (m := 4) (k := k) (by rfl) rfl rfl rfl Tryz.underlying23 Hkk.out hk4) ?_
      simp only [Act.put, setIfInBounds_toArray, set_cons_zero, set_cons_succ]
      refine mf_yield (i := 3) (d := 58) (.int .i64 lv) rfl rfl (by kernel_rfl) (by kernel_rfl) (by kernel_rfl) (by kernel_rfl) hS (y_cellS (by rfl) rfl rfl (fun w' h => by have := HV2.out.cell h.le k hk4; rw [HMX.out] at this; exact this)) ?_
      simp only [Act.put, setIfInBounds_toArray, set_cons_zero, set_cons_succ]
      refine mf_yield (i := 4) (d := 59) (.int .i64 kk) rfl rfl (by kernel_rfl) (by kernel_rfl) (by kernel_rfl) (by kernel_rfl) hS (y_run (by rfl) fun _ => by rfl) ?_
      simp only [Act.put, setIfInBounds_toArray, set_cons_zero, set_cons_succ]
      refine mf_yield (i := 5) (d := 60) (.pointer (some ⟨w.heap.size, 17, none⟩)) rfl rfl (by kernel_rfl) (by kernel_rfl) (by kernel_rfl) (by kernel_rfl) hS (y_field (by rfl) rfl rfl fld_er2) ?_
      simp only [Act.put, setIfInBounds_toArray, set_cons_zero, set_cons_succ]
      refine mf_yield (i := 6) (d := 61) (.pointer (some ⟨w.heap.size, 17 + 17, none⟩)) rfl rfl (by kernel_rfl) (by kernel_rfl) (by kernel_rfl) (by kernel_rfl) hS (fld_off fld_rs2 (by rfl) rfl rfl) ?_
      simp only [Act.put, setIfInBounds_toArray, set_cons_zero, set_cons_succ]
      refine mf_yield (i := 7) (d := 62) (.pointer (some ⟨w.heap.size, 17 + 17 + k, none⟩)) rfl rfl (by kernel_rfl) (by kernel_rfl) (by kernel_rfl) (by kernel_rfl) hS (y_bj (k := k) (by rfl) rfl Tryz.underlying23 rfl rfl Hkk.out hk4) ?_
      simp only [Act.put, setIfInBounds_toArray, set_cons_zero, set_cons_succ]
      refine mf_yield (i := 8) (d := 63) (.int .i64 la) rfl rfl (by kernel_rfl) (by kernel_rfl) (by kernel_rfl) (by kernel_rfl) hS (y_cellS (by rfl) rfl rfl (fun w' h => by have := HT.out.cell h.t (34 + k) (by omega); rw [HLAk.out] at this; exact this)) ?_
      simp only [Act.put, setIfInBounds_toArray, set_cons_zero, set_cons_succ]
      refine mf_yield (i := 9) (d := 64) (.int .i64 df) rfl rfl (by kernel_rfl) (by kernel_rfl) (by kernel_rfl) (by kernel_rfl) hS (y_sub (by rfl) rfl rfl rfl HDF.out) ?_
      simp only [Act.put, setIfInBounds_toArray, set_cons_zero, set_cons_succ]
      refine mf_ready [10] (by kernel_rfl) (by simp) (af_call (i := 10) (d := 65) (R := fun v w' => v = .agg #[.int .i64 cs, .int .i64 cu, .int .i64 32768] ∧ ES w T bl bw bc bv Lf Wv V2 g n c x w') #[.int .i64 df] rfl rfl (by rfl) rfl enter_rcell (by kernel_rfl) ((HCC.out _).mono fun e w' h => ⟨_, h.1, rfl, hS.next h.2⟩) (fun v w' h => h.2) ?_ AllReadyF.nil)
      clear hS
      rintro v w5 ⟨rfl, hS⟩ _
      simp only [Act.put, setIfInBounds_toArray, set_cons_zero, set_cons_succ]
      refine mf_ready [11] (by kernel_rfl) (by simp) (af_call (i := 11) (d := 66) (R := fun v w' => ∃ g' n' c', v = .agg #[.slice (some ⟨g', 0, none⟩) n' c', .int .i64 y.r] ∧ bv < g' ∧ RefAt w' g' n' c' y ∧ ES w T bl bw bc bv Lf Wv V2 g n c x w') #[.agg #[.slice (some ⟨g, 0, none⟩) n c, .int .i64 rr], .agg #[.int .i64 cs, .int .i64 cu, .int .i64 32768]] rfl rfl (by rfl) rfl enter_rput (by kernel_rfl) ((HPP.out g n c _ hS.rf).mono fun e w' h => by
        obtain ⟨g', n', c', he, h1, h2, h3⟩ := h
        exact ⟨_, he, g', n', c', rfl, Nat.lt_of_lt_of_le hS.le.lt h1, h2, hS.next h3⟩) (fun v w' h => by obtain ⟨_, _, _, _, _, _, h⟩ := h; exact h) ?_ AllReadyF.nil)
      clear hS
      rintro v w6 ⟨g', n', c', rfl, hg', hR', hS⟩ _
      simp only [Act.put, setIfInBounds_toArray, set_cons_zero, set_cons_succ]
      refine mf_ready [12] (by kernel_rfl) (by simp) (af_store (i := 12) bc #[.slice (some ⟨g', 0, none⟩) n' c', .int .i64 y.r] #[.slice (some ⟨g, 0, none⟩) n c, .int .i64 x.r] rfl rfl (by rfl) rfl rfl rfl rfl hS.co rfl (one_ref _ _ _ _) HI81.out ?_ AllReadyF.nil)
      have HE3 := hid (hS.put hg' hR')
      refine mf_done (by kernel_rfl) ?_
      clear hS hg' hR'
      rw [Hkk.out]
      go_wp2_with fail
      go_roundw
      case rel => exact ⟨k + 1, V2, g', n', c', by omega, by go_num, by rw [HY.out]; exact HE3, HV2⟩
      case measure => simp [intOf]; omega
    · have e4 : k = 4 := by omega
      have hn4 : ¬ (k : Int) < 4 := by omega
      go_upto_region 11 with fail
      clear hn4
      rw [e4] at HE HVR
      clear e4 hk hk4
      have HV4 := hid (HVR.out.ext (g := l) fun i hi => Tl.mix_all _ _ 4 i hi)
      have HXO := hid (xL_ok HLO.out HLO2.out 4 (Nat.le_refl _))
      have hxok := HXO.out
      have hxg := xL_g HLO.out HLO2.out 4 (Nat.le_refl _)
      have hfit := Rg.fit_used hxok (xL_fit HLO.out HLO2.out 4 (Nat.le_refl _)) (by omega)
      have hun := Rg.used_nonneg hxok
      have HRME := hid (show Sp.rm m (xL L l 4).used = rmE L l m from rfl)
      have HKE := hid (show Sp.given l (rmE L l m) = kE L l m from rfl)
      have hkl := kE_le L l m
      obtain ⟨x, hx⟩ : ∃ x, xL L l 4 = x := ⟨_, rfl⟩
      obtain ⟨kk, hkk⟩ : ∃ x, kE L l m = x := ⟨_, rfl⟩
      obtain ⟨rm, hrm⟩ : ∃ x, rmE L l m = x := ⟨_, rfl⟩
      rw [hx] at hxok hxg hfit hun HE HXO HRME
      rw [hkk] at HKE hkl
      rw [hrm] at HKE HRME
      obtain ⟨us, hus⟩ : ∃ q, x.used = q := ⟨_, rfl⟩
      rw [hus] at hfit hun HRME
      have hrb : 0 ≤ rm ∧ rm ≤ 1048576 := by
        have h := HRME.out
        have := HM32.out
        unfold Sp.rm at h
        split at h <;> omega
      obtain ⟨rr, hrr⟩ : ∃ q : Int, (x.r : Int) = q := ⟨_, rfl⟩
      obtain ⟨dd, hdd⟩ : ∃ q : Int, 8 * (m : Int) - 40 - us = q := ⟨_, rfl⟩
      have HMX := hid (show max dd 0 = rm by rw [← hdd, De.rm_max m us HM10.out HM32.out hun]; exact HRME.out)
      have HMU := hid (show IntKind.i64.wrap (8 * (m : Int)) = 8 * m by have := HM32.out; rw [IntWalk.i64_in _ (by omega)])
      have HSV := hid (show IntKind.i64.wrap (8 * (m : Int) - 40) = 8 * m - 40 by have := HM32.out; rw [IntWalk.i64_in _ (by omega)])
      have HSU := hid (show IntKind.i64.wrap (8 * (m : Int) - 40 - us) = dd by have := HM32.out; rw [IntWalk.i64_in _ (by omega)]; exact hdd)
      have HUS := hid (fun g n c w (h : RefAt w g n c x) => Rg.refUsed_at g n c x rr us w hrr h.n_eq (by have := hxok.2.1; omega) (by omega) hus)
      obtain ⟨K, hK⟩ : ∃ K, IsRow 4 (fun i => (kk i : Int)) K := ⟨_, isRow _ _⟩
      have HPU := hid (fun w => as_R (Sp.refPulses_as V l rm w HV4.out ⟨HLO2.out, hrb.1, hrb.2⟩) (by rw [HKE.out]; exact hK))
      have HK := hid hK
      have HRR := hid hrr
      have HX := hid hx
      have HKK := hid hkk
      have HKL := hid hkl
      have HXG := hid hxg
      have HI81 := hid (show (Tryz.prog.info? 85).map (·.size) = some (#[Value.slice (some ⟨g, 0, none⟩) n c, .int .i64 rr] : Array Value).size by kernel_rfl)
      clear hK hx hkk hrm hus hrr hdd hxok hxg hfit hun hrb hkl
      go_cut [16] (fun v wx => ∃ bk : Nat, v = .pointer (some ⟨bk, 0, none⟩) ∧ Hid (ES w T bl bw bc bv Lf Wv V g n c x wx) ∧ bv < bk ∧ Hid (At wx bk K 23))
      case first =>
        have hgb0 : bv < wr.heap.size := HE.out.le.lt
        have hgk0 : g < wr.heap.size := RefAt.lt HE.out.rf
        refine mv_startS (ES w T bl bw bc bv Lf Wv V g n c x) (HE.out.next ((Below.refl _ _).drew)) fun hS => ?_
        refine mv_yield (i := 0) (d := 67) (.agg V) rfl rfl (by kernel_rfl) (by kernel_rfl) (by kernel_rfl) hS (y_load_range (by rfl) rfl rfl (fun w' h => At.whole h.le) Tryz.underlying23 rfl (HI4.out _ HV4.out.1)) ?_
        simp only [Act.put, setIfInBounds_toArray, set_cons_zero, set_cons_succ]
        refine mv_yield (i := 1) (d := 68) (.int .i64 m) rfl rfl (by kernel_rfl) (by kernel_rfl) (by kernel_rfl) hS (y_run (by rfl) fun _ => by rfl) ?_
        simp only [Act.put, setIfInBounds_toArray, set_cons_zero, set_cons_succ]
        refine mv_yield (i := 2) (d := 69) (.int .i64 (8 * m)) rfl rfl (by kernel_rfl) (by kernel_rfl) (by kernel_rfl) hS (y_mul (by rfl) rfl rfl rfl HMU.out) ?_
        simp only [Act.put, setIfInBounds_toArray, set_cons_zero, set_cons_succ]
        refine mv_yield (i := 3) (d := 70) (.int .i64 (8 * m - 40)) rfl rfl (by kernel_rfl) (by kernel_rfl) (by kernel_rfl) hS (y_sub (by rfl) rfl rfl rfl HSV.out) ?_
        simp only [Act.put, setIfInBounds_toArray, set_cons_zero, set_cons_succ]
        refine mv_yield (i := 4) (d := 71) (.agg #[.slice (some ⟨g, 0, none⟩) n c, .int .i64 rr]) rfl rfl (by kernel_rfl) (by kernel_rfl) (by kernel_rfl) hS (y_load_range (by rfl) rfl rfl (fun w' h => by have := At.whole h.co; rw [HRR.out] at this; exact this) Tryz.underlying85 rfl HI81.out) ?_
        simp only [Act.put, setIfInBounds_toArray, set_cons_zero, set_cons_succ]
        refine mv_ready [5, 9] (by kernel_rfl) (by simp) (ar_callP (i := 5) (d := 72) #[.agg #[.slice (some ⟨g, 0, none⟩) n c, .int .i64 rr]] rfl rfl (by rfl) rfl enter_rused (by kernel_rfl) (HUS.out g n c _ hS.rf) (fun w' h => hS.next h) ?_ (ar_alloc (i := 9) (d := 16) rfl rfl (by rfl) rfl hzv (hS.next ((Below.refl _ _).alloc (Nat.le_refl _) _)) ?_ AllReadyH.nil))
        · rintro w1 h1 hS1
          clear hS; have hS := hS1; clear hS1
          simp only [Act.put, setIfInBounds_toArray, set_cons_zero, set_cons_succ]
          refine mv_yield (i := 6) (d := 73) (.int .i64 dd) rfl rfl (by kernel_rfl) (by kernel_rfl) (by kernel_rfl) hS (y_sub (by rfl) rfl rfl rfl HSU.out) ?_
          simp only [Act.put, setIfInBounds_toArray, set_cons_zero, set_cons_succ]
          refine mv_yield (i := 7) (d := 74) (.int .i64 rm) rfl rfl (by kernel_rfl) (by kernel_rfl) (by kernel_rfl) hS (y_max (by rfl) rfl rfl rfl rfl HMX.out) ?_
          simp only [Act.put, setIfInBounds_toArray, set_cons_zero, set_cons_succ]
          refine mv_ready [8, 9] (by kernel_rfl) (by simp) (ar_callP (i := 8) (d := 75) #[.agg V, .int .i64 rm] rfl rfl (by rfl) rfl enter_rpulses (by kernel_rfl) (HPU.out _) (fun w' h => hS.next h) ?_ (ar_alloc (i := 9) (d := 16) rfl rfl (by rfl) rfl hzv (hS.next ((Below.refl _ _).alloc (Nat.le_refl _) _)) ?_ AllReadyH.nil))
          · rintro w2 h2 hS2
            clear hS; have hS := hS2; clear hS2
            simp only [Act.put, setIfInBounds_toArray, set_cons_zero, set_cons_succ]
            refine mv_ready [9] (by kernel_rfl) (by simp) (ar_alloc (i := 9) (d := 16) rfl rfl (by rfl) rfl hzv (hS.next ((Below.refl _ _).alloc (Nat.le_refl _) _)) ?_ AllReadyH.nil)
            intro hS2
            simp only [Act.put, setIfInBounds_toArray, set_cons_zero, set_cons_succ]
            have hgb : bv < w2.heap.size := hS.le.lt
            have hgk : g ≠ w2.heap.size := Nat.ne_of_lt (RefAt.lt hS.rf)
            clear hS; have hS := hS2; clear hS2
            have a1 := At.new w2 Zv 23
            refine mv_ready [10] (by kernel_rfl) (by simp) (ar_store (i := 10) _ K Zv rfl rfl (by rfl) rfl rfl rfl a1 (by rw [HZV.out.1, HK.out.1]) HK.out.2.1 (HI4.out _ HK.out.1) (hS.other hgb hgk _) (fun hS' => ?_) AllReadyH.nil)
            refine mv_done (by kernel_rfl) ?_
            go_wp2_with fail
            go_meet
            exact ⟨_, rfl, hid hS', hgb, hid (At.setRow a1)⟩
          · intro hS2
            simp only [Act.put, setIfInBounds_toArray, set_cons_zero, set_cons_succ]
            have hgb : bv < w1.heap.size := hS.le.lt
            have hgk : g ≠ w1.heap.size := Nat.ne_of_lt (RefAt.lt hS.rf)
            clear hS; have hS := hS2; clear hS2
            have a1 := At.new w1 Zv 23
            have l1 := a1.lt
            refine mv_ready [8] (by kernel_rfl) (by simp) (ar_callP (i := 8) (d := 75) #[.agg V, .int .i64 rm] rfl rfl (by rfl) rfl enter_rpulses (by kernel_rfl) (HPU.out _) (fun w' h => hS.next h) ?_ AllReadyH.nil)
            rintro w3 h3 hS2
            clear hS; have hS := hS2; clear hS2
            simp only [Act.put, setIfInBounds_toArray, set_cons_zero, set_cons_succ]
            have a2 := a1.below h3 l1
            refine mv_ready [10] (by kernel_rfl) (by simp) (ar_store (i := 10) _ K Zv rfl rfl (by rfl) rfl rfl rfl a2 (by rw [HZV.out.1, HK.out.1]) HK.out.2.1 (HI4.out _ HK.out.1) (hS.other hgb hgk _) (fun hS' => ?_) AllReadyH.nil)
            refine mv_done (by kernel_rfl) ?_
            go_wp2_with fail
            go_meet
            exact ⟨_, rfl, hid hS', hgb, hid (At.setRow a2)⟩
        · intro hS1
          simp only [Act.put, setIfInBounds_toArray, set_cons_zero, set_cons_succ]
          have hgb : bv < wr.drew.heap.size := hS.le.lt
          have hgk : g ≠ wr.drew.heap.size := Nat.ne_of_lt (RefAt.lt hS.rf)
          clear hS; have hS := hS1; clear hS1
          have a1 := At.new wr.drew Zv 23
          have l1 := a1.lt
          refine mv_ready [5] (by kernel_rfl) (by simp) (ar_callP (i := 5) (d := 72) #[.agg #[.slice (some ⟨g, 0, none⟩) n c, .int .i64 rr]] rfl rfl (by rfl) rfl enter_rused (by kernel_rfl) (HUS.out g n c _ hS.rf) (fun w' h => hS.next h) ?_ AllReadyH.nil)
          rintro w2 h2 hS2
          clear hS; have hS := hS2; clear hS2
          simp only [Act.put, setIfInBounds_toArray, set_cons_zero, set_cons_succ]
          have a2 := a1.below h2 l1
          have l2 := a2.lt
          refine mv_yield (i := 6) (d := 73) (.int .i64 dd) rfl rfl (by kernel_rfl) (by kernel_rfl) (by kernel_rfl) hS (y_sub (by rfl) rfl rfl rfl HSU.out) ?_
          simp only [Act.put, setIfInBounds_toArray, set_cons_zero, set_cons_succ]
          refine mv_yield (i := 7) (d := 74) (.int .i64 rm) rfl rfl (by kernel_rfl) (by kernel_rfl) (by kernel_rfl) hS (y_max (by rfl) rfl rfl rfl rfl HMX.out) ?_
          simp only [Act.put, setIfInBounds_toArray, set_cons_zero, set_cons_succ]
          refine mv_ready [8] (by kernel_rfl) (by simp) (ar_callP (i := 8) (d := 75) #[.agg V, .int .i64 rm] rfl rfl (by rfl) rfl enter_rpulses (by kernel_rfl) (HPU.out _) (fun w' h => hS.next h) ?_ AllReadyH.nil)
          rintro w3 h3 hS2
          clear hS; have hS := hS2; clear hS2
          simp only [Act.put, setIfInBounds_toArray, set_cons_zero, set_cons_succ]
          have a3 := a2.below h3 l2
          refine mv_ready [10] (by kernel_rfl) (by simp) (ar_store (i := 10) _ K Zv rfl rfl (by rfl) rfl rfl rfl a3 (by rw [HZV.out.1, HK.out.1]) HK.out.2.1 (HI4.out _ HK.out.1) (hS.other hgb hgk _) (fun hS' => ?_) AllReadyH.nil)
          refine mv_done (by kernel_rfl) ?_
          go_wp2_with fail
          go_meet
          exact ⟨_, rfl, hid hS', hgb, hid (At.setRow a3)⟩
      case rest =>
        obtain ⟨bk, rfl, HE2, hbk, HKA⟩ := hcut
        have HEP := hid (show EP w T bl bw bc bv bk Lf Wv V K g n c x _ from ⟨HE2.out, HKA.out, hbk⟩)
        clear HE2 HKA HE HVR HV4 HUS HPU HMX HMU HSV HSU HI81 HLB HLA HKE HRME hbk
        go_wp2_with fail
        go_loopw [17] (fun i w' => ∃ (b g n c : Nat), b ≤ 4 ∧ i = .int .i64 b ∧ Hid (EP w T bl bw bc bv bk Lf Wv V K g n c (xW x u kk b) w')) (fun i _ => 4 - (intOf i).toNat)
        case atStart => exact ⟨0, g, n, c, by omega, rfl, HEP⟩
        case round =>
          obtain ⟨b, g, n, c, hb4, rfl, HE⟩ := hrel
          clear HEP
          by_cases hb : b < 4
          · have b1 : (b : Int) < 4 := by omega
            have b0 : (0 : Int) ≤ (b : Int) := by omega
            have HXB := hid (xW_ok HXO.out u kk b)
            have HXN := hid (xW_next x u kk b)
            have HGB := hid (show (xW x u kk b).g ≤ 100 by have := xW_g HXO.out u kk b; have := HXG.out; omega)
            have HBK := hid (bC_ok u kk b)
            have HBL := hid (bC_len u kk b)
            have h24 := De.P_24 b hb (kk b) (HKL.out b)
            have hk8 := HKL.out b
            have hck0 := HK.out.cell HE.out.2.1 b hb
            have HLQ := hid (show kk b ≠ 0 → bC u kk b = bitsC 3 (iE u b (kk b)) (Sp.P b (kk b)) from fun h => if_neg h)
            have HLZ := hid (show kk b = 0 → bC u kk b = [] from fun h => if_pos h)
            have HIB := hid (iE_bits u hb hk8)
            have hnp : Ve.pI (yE u b (kk b)) (Sp.sB b) = kk b := by
              unfold Ve.pI
              rw [if_pos (De.sB_fs b hb).2.2.1, yE_sm u hb]
              omega
            have hNU := fun w gf U (hU : IsRow (Sp.sB b) (yE u b (kk b)) U) (hA : At w gf U 3) => Ve.refNumber_yes (some ⟨gf, 0, none⟩) (Sp.sB b) (Sp.sB b) (kk b) (yE u b (kk b)) w (Sl.of_isRow hU hA (by have := (De.sB_fs b hb).2.2.1; unfold maxLen; omega)) hnp hk8
            have hFI := fun w B go cc (h : OwnS w B (some ⟨go, 0, none⟩) (Sp.sB b) cc (wC u b)) => Sh.refFind_as go 0 (Sp.sB b) cc (kk b) (wC u b) w (fun i hi => by rw [Nat.zero_add]; obtain ⟨g', e, h'⟩ := h.pos (De.sB_fs b hb).2.1; cases e; exact h'.cell i hi) (De.sB_fs b hb).2.1 (De.sB_fs b hb).2.2.1 (fun i _ => by unfold wC; omega) hk8
            rw [show Sh.fS (wC u b) (Sp.sB b) (kk b) = yE u b (kk b) from rfl] at hFI
            rw [show Ve.num (yE u b (kk b)) (Sp.sB b) (kk b) = iE u b (kk b) from rfl] at hNU
            have hCO := fun w => Sp.refCost_as b (kk b) (Sp.P b (kk b)) w hb hk8 rfl
            have hBI := fun w (h : iE u b (kk b) < 2 ^ 24) => refBits_as (iE u b (kk b)) (Sp.P b (kk b)) w h24 h
            have hI24 : iE u b (kk b) < 2 ^ 24 := Nat.lt_of_lt_of_le HIB.out (Nat.pow_le_pow_right (by omega) h24)
            replace hBI := fun w => hBI w hI24
            obtain ⟨e1, e2, e3, e4⟩ := De.sB_fs b hb
            have HCB := hid (fun w => Lv.bounds_any b w hb)
            have HWC := hid (show ∀ i, wC u b i = max (-1048576) (min (u (Lv.fs b + i)) 1048576) from fun _ => rfl)
            obtain ⟨s, hs⟩ : ∃ x, Sp.sB b = x := ⟨_, rfl⟩
            obtain ⟨p, hp⟩ : ∃ x, Lv.fs b = x := ⟨_, rfl⟩
            obtain ⟨r, hr⟩ : ∃ x, Lv.fs (b + 1) = x := ⟨_, rfl⟩
            obtain ⟨q, hq⟩ : ∃ x, kk b = x := ⟨_, rfl⟩
            obtain ⟨F, hF⟩ : ∃ x, yE u b q = x := ⟨_, rfl⟩
            obtain ⟨I, hI⟩ : ∃ x, iE u b q = x := ⟨_, rfl⟩
            obtain ⟨z, hz⟩ : ∃ x, Sp.P b q = x := ⟨_, rfl⟩
            obtain ⟨f8, hf8⟩ : ∃ x, wC u b = x := ⟨_, rfl⟩
            obtain ⟨L, hL⟩ : ∃ x, bC u kk b = x := ⟨_, rfl⟩
            obtain ⟨xb, hxb⟩ : ∃ y, xW x u kk b = y := ⟨_, rfl⟩
            obtain ⟨xn, hxn⟩ : ∃ y, xW x u kk (b + 1) = y := ⟨_, rfl⟩
            rw [hs, hp, hr] at e1
            rw [hs] at e2 e3
            rw [hr] at e4
            rw [hp, hr] at HCB
            rw [hq] at hck0 h24 hk8
            rw [hq, hI, hz, hL] at HLQ
            rw [hq, hL] at HLZ
            rw [hs, hq, hF, hI] at hNU
            rw [hs, hq, hF, hf8] at hFI
            rw [hq, hz] at hCO
            rw [hq, hI, hz] at hBI
            rw [hf8, hp] at HWC
            rw [hL] at HBK HBL
            rw [hxb] at HXB HXN HGB HE
            rw [hxn, hL] at HXN
            have HNU := hid hNU
            have HFI := hid hFI
            have HCO := hid hCO
            have HBI := hid hBI
            have HXE := hid hxn
            have HKB := hid hq
            have HC0 := hid hck0
            clear hs hp hr hq hF hI hz hf8 hL hxb hxn hNU hFI hCO hBI hI24 hnp h24 hck0 HIB
            by_cases h0 : q = 0
            · have kz : ((q : Int) == 0) = true := by simp; omega
              have HLE := hid (HLZ.out h0)
              clear HNU HFI HCO HBI HLQ HLZ h0
              go_wp2_with fail
              refine (HCB.out _).mono ?_
              rintro e w8 ⟨rfl, hbb⟩
              have HE8 := hid (HE.out.next hbb)
              have hck := (Below.cell hbb (block_lt_of_cell HC0.out)).trans HC0.out
              clear hbb HE HC0 HCB
              go_wp2_with fail
              go_roundw
              case rel => exact ⟨b + 1, g, n, c, by omega, by go_num, by rw [HXE.out, HXN.out, HLE.out]; exact HE8⟩
              case measure => simp [intOf]; omega
            · have kz : ((q : Int) == 0) = false := by simp; omega
              have HLE := hid (HLQ.out h0)
              have hBI2 := HBI.out
              rw [← HLE.out] at hBI2
              replace HBI := hid hBI2
              clear HLQ HLZ h0 hBI2
              go_wp2_with fail
              refine (HCB.out _).mono ?_
              rintro e w8 ⟨rfl, hbb⟩
              have HE8 := hid (HE.out.next hbb)
              have hck := (Below.cell hbb (block_lt_of_cell HC0.out)).trans HC0.out
              clear hbb HE HC0 HCB
              go_wp2_with fail
              clear hck
              go_loopw [20, 21] (fun v i w' => ∃ (j : Nat) (ao : Option Addr) (cc : Nat), j ≤ s ∧ v = .slice ao j cc ∧ i = .int .i64 ((p + j : Nat) : Int) ∧ Hid (OwnS w' w8.heap.size ao j cc f8) ∧ Hid (Below w8.heap.size w8 w')) (fun _ i _ => r - (intOf i).toNat)
              case atStart => exact ⟨0, none, 0, Nat.zero_le _, rfl, rfl, hid (OwnS.nil _ _ _), hid (Below.refl _ _)⟩
              case round =>
                obtain ⟨j, ao, cc, hj, rfl, rfl, HO, HB⟩ := hrel
                by_cases hjs : j < s
                · have j1 : ((p + j : Nat) : Int) < r := by omega
                  have j0 : (0 : Int) ≤ ((p + j : Nat) : Int) := by omega
                  have j16 : ((p + j : Nat) : Int) < 16 := by omega
                  have hcw := HV.out.cell (HE8.out.next HB.out).1.wv (p + j) (by omega)
                  have hw8 := HWC.out j
                  obtain ⟨t, ht⟩ : ∃ t, p + j = t := ⟨_, rfl⟩
                  rw [ht] at hcw hw8
                  obtain ⟨ut, hut⟩ : ∃ x, u t = x := ⟨_, rfl⟩
                  rw [hut] at hcw hw8
                  obtain ⟨y1, hy1⟩ : ∃ y, max ut (-1048576) = y := ⟨_, rfl⟩
                  obtain ⟨y2, hy2⟩ : ∃ y, min y1 1048576 = y := ⟨_, rfl⟩
                  have HF2 := hid (show f8 j = y2 by rw [hw8, ← hy2, ← hy1]; omega)
                  have rmx := run_maxi ut (-1048576) y1 hy1
                  have rmn := run_mini y1 1048576 y2 hy2
                  have HT2 := hid ht
                  rw [ht] at j1 j0 j16
                  rw [ht]
                  clear hw8 hut hy1 hy2 ht
                  go_wp2_with (at_builtin; refine wpList_append_one rfl _ _ rfl w8.heap.size f8 ao j cc rfl (HO.out.below ((Below.refl _ _).alloc (Nat.le_refl _) _)) wr.heap.size rfl (De.new_int wr _ _ HF2.out) (by omega) (by have := HB.out.size; simp; omega) ?_)
                  intro g4 c4 w4 hO hB4 _ _
                  have HO4 := hid (show OwnS w4 w8.heap.size (some ⟨g4, 0, none⟩) (j + 1) c4 f8 from .inr ⟨g4, rfl, hO⟩)
                  have HB5 := hid ((HB.out.alloc HB.out.size _).trans hB4)
                  clear hO hB4 HO HB
                  go_wp2_with fail
                  go_roundw
                  case rel => exact ⟨j + 1, some ⟨g4, 0, none⟩, c4, by omega, rfl, congrArg (Value.int .i64) (by have := HT2.out; omega), HO4, HB5⟩
                  case measure => simp [intOf]; have := HT2.out; omega
                · obtain rfl : s = j := by omega
                  have j1 : ¬ ((p + s : Nat) : Int) < r := by omega
                  obtain ⟨t, ht⟩ : ∃ t, p + s = t := ⟨_, rfl⟩
                  rw [ht] at j1
                  rw [ht]
                  clear ht
                  have HE9 := hid (HE8.out.next HB.out)
                  obtain ⟨go, rfl, hOG⟩ := HO.out.pos e2
                  clear hOG HE8 HB HWC
                  obtain ⟨B8, hB8⟩ : ∃ x, w8.heap.size = x := ⟨_, rfl⟩
                  rw [hB8] at HO
                  clear hB8
                  go_upto_region 22 with fail
                  clear j1
                  go_cut [22] (fun v wx => ∃ (ao : Option Addr) (cb B : Nat), v = .slice ao L.length cb ∧ Hid (Cls wx B ao L.length cb L) ∧ bv < B ∧ Hid (EP w T bl bw bc bv bk Lf Wv V K g n c xb wx))
                  case first =>
                    refine mf_start (fun w' => EP w T bl bw bc bv bk Lf Wv V K g n c xb w' ∧ OwnS w' B8 (some ⟨go, 0, none⟩) s cc f8) (fun _ => false) ⟨HE9.out.next ((Below.refl _ _).drew), HO.out.below ((Below.refl _ _).drew)⟩ fun hS => ?_
                    refine mf_yield (i := 0) (d := 103) (.slice (some ⟨go, 0, none⟩) s cc) rfl rfl (by kernel_rfl) (by kernel_rfl) (by kernel_rfl) (by kernel_rfl) hS (y_run (by rfl) fun _ => by rfl) ?_
                    simp only [Act.put, setIfInBounds_toArray, set_cons_zero, set_cons_succ]
                    refine mf_yield (i := 1) (d := 104) (.int .i64 b) rfl rfl (by kernel_rfl) (by kernel_rfl) (by kernel_rfl) (by kernel_rfl) hS (y_run (by rfl) fun _ => by rfl) ?_
                    simp only [Act.put, setIfInBounds_toArray, set_cons_zero, set_cons_succ]
                    refine mf_yield (i := 2) (d := 105) (.pointer (some ⟨bk, b, none⟩)) rfl rfl (by kernel_rfl) (by kernel_rfl) (by kernel_rfl) (by kernel_rfl) hS (y_at (m := 4) (k := b) (by rfl) rfl rfl rfl Tryz.underlying23 rfl hb) ?_
                    simp only [Act.put, setIfInBounds_toArray, set_cons_zero, set_cons_succ]
                    refine mf_yield (i := 3) (d := 106) (.int .i64 q) rfl rfl (by kernel_rfl) (by kernel_rfl) (by kernel_rfl) (by kernel_rfl) hS (y_cellS (by rfl) rfl rfl (fun w' h => by have := HK.out.cell h.1.2.1 b hb; rw [HKB.out] at this; exact this)) ?_
                    simp only [Act.put, setIfInBounds_toArray, set_cons_zero, set_cons_succ]
                    refine mf_yield (i := 6) (d := 109) (.int .i64 b) rfl rfl (by kernel_rfl) (by kernel_rfl) (by kernel_rfl) (by kernel_rfl) hS (y_run (by rfl) fun _ => by rfl) ?_
                    simp only [Act.put, setIfInBounds_toArray, set_cons_zero, set_cons_succ]
                    refine mf_yield (i := 7) (d := 110) (.int .i64 b) rfl rfl (by kernel_rfl) (by kernel_rfl) (by kernel_rfl) (by kernel_rfl) hS (y_run (by rfl) fun _ => by rfl) ?_
                    simp only [Act.put, setIfInBounds_toArray, set_cons_zero, set_cons_succ]
                    refine mf_yield (i := 8) (d := 111) (.pointer (some ⟨bk, b, none⟩)) rfl rfl (by kernel_rfl) (by kernel_rfl) (by kernel_rfl) (by kernel_rfl) hS (y_at (m := 4) (k := b) (by rfl) rfl rfl rfl Tryz.underlying23 rfl hb) ?_
                    simp only [Act.put, setIfInBounds_toArray, set_cons_zero, set_cons_succ]
                    refine mf_yield (i := 9) (d := 112) (.int .i64 q) rfl rfl (by kernel_rfl) (by kernel_rfl) (by kernel_rfl) (by kernel_rfl) hS (y_cellS (by rfl) rfl rfl (fun w' h => by have := HK.out.cell h.1.2.1 b hb; rw [HKB.out] at this; exact this)) ?_
                    simp only [Act.put, setIfInBounds_toArray, set_cons_zero, set_cons_succ]
                    refine mf_ready [4] (by kernel_rfl) (by simp) (af_call (i := 4) (d := 107) (R := fun v w' => ∃ (gf : Nat) (U : Array Value), v = .slice (some ⟨gf, 0, none⟩) s s ∧ IsRow s F U ∧ At w' gf U 3 ∧ EP w T bl bw bc bv bk Lf Wv V K g n c xb w' ∧ OwnS w' B8 (some ⟨go, 0, none⟩) s cc f8) #[.slice (some ⟨go, 0, none⟩) s cc, .int .i64 q] rfl rfl (by rfl) rfl enter_rfind (by kernel_rfl) ((HFI.out _ _ _ _ hS.2).mono fun e w' h => by
                      obtain ⟨gf, U, he, h1, h2, h3, h4⟩ := h
                      exact ⟨_, he, gf, U, rfl, h2, h3, hS.1.next h4, hS.2.below h4⟩) (fun v w' h => by obtain ⟨_, _, _, _, _, h⟩ := h; exact h) ?_ AllReadyF.nil)
                    clear hS
                    rintro v w1 ⟨gf, U, rfl, hU, hA, hS⟩ _
                    simp only [Act.put, setIfInBounds_toArray, set_cons_zero, set_cons_succ]
                    refine mf_ready [5] (by kernel_rfl) (by simp) (af_call (i := 5) (d := 108) (R := fun v w' => v = .int .i64 (I : Nat) ∧ EP w T bl bw bc bv bk Lf Wv V K g n c xb w' ∧ OwnS w' B8 (some ⟨go, 0, none⟩) s cc f8) #[.slice (some ⟨gf, 0, none⟩) s s] rfl rfl (by rfl) rfl enter_rnumber (by kernel_rfl) ((HNU.out _ gf U hU hA).mono fun e w' h => ⟨_, h.1, rfl, hS.1.next h.2, hS.2.below h.2⟩) (fun v w' h => h.2) ?_ AllReadyF.nil)
                    clear hS
                    rintro v w2 ⟨rfl, hS⟩ _
                    simp only [Act.put, setIfInBounds_toArray, set_cons_zero, set_cons_succ]
                    refine mf_ready [10] (by kernel_rfl) (by simp) (af_call (i := 10) (d := 113) (R := fun v w' => v = .int .i64 (z : Nat) ∧ Below w2.heap.size w2 w' ∧ EP w T bl bw bc bv bk Lf Wv V K g n c xb w' ∧ OwnS w' B8 (some ⟨go, 0, none⟩) s cc f8) #[.int .i64 b, .int .i64 q] rfl rfl (by rfl) rfl enter_rcost (by kernel_rfl) ((HCO.out _).mono fun e w' h => ⟨_, h.1, rfl, h.2, hS.1.next h.2, hS.2.below h.2⟩) (fun v w' h => h.2.2) ?_ AllReadyF.nil)
                    clear hS
                    rintro v w3 ⟨rfl, _, hS⟩ _
                    simp only [Act.put, setIfInBounds_toArray, set_cons_zero, set_cons_succ]
                    refine mf_ready [11] (by kernel_rfl) (by simp) (af_call (i := 11) (d := 114) (R := fun v w' => ∃ (ao : Option Addr) (cb B : Nat), v = .slice ao L.length cb ∧ Cls w' B ao L.length cb L ∧ bv < B ∧ EP w T bl bw bc bv bk Lf Wv V K g n c xb w' ∧ OwnS w' B8 (some ⟨go, 0, none⟩) s cc f8) #[.int .i64 (I : Nat), .int .i64 (z : Nat)] rfl rfl (by rfl) rfl enter_rbits (by kernel_rfl) ((HBI.out _).mono fun e w' h => by
                      obtain ⟨ao, cb, he, h1, h2⟩ := h
                      exact ⟨_, he, ao, cb, _, rfl, h1, hS.1.1.le.lt, hS.1.next h2, hS.2.below h2⟩) (fun v w' h => by obtain ⟨_, _, _, _, _, _, h⟩ := h; exact h) ?_ AllReadyF.nil)
                    clear hS
                    rintro v w9 ⟨ao, cb, B, rfl, hC, hB, hS⟩ _
                    simp only [Act.put, setIfInBounds_toArray, set_cons_zero, set_cons_succ]
                    refine mf_yield (i := 12) (d := 22) (.slice ao L.length cb) rfl rfl (by kernel_rfl) (by kernel_rfl) (by kernel_rfl) (by kernel_rfl) hS (y_run (by rfl) fun _ => by rfl) ?_
                    simp only [Act.put, setIfInBounds_toArray, set_cons_zero, set_cons_succ]
                    refine mf_done (by kernel_rfl) ?_
                    go_wp2_with fail
                    go_meet
                    exact ⟨ao, cb, B, rfl, hid hC, hB, hid hS.1⟩
                  case rest =>
                    obtain ⟨ao, cb, B, rfl, HC, hB, HE⟩ := hcut
                    have HCR := hid (CR.of HC.out (Nat.lt_trans HE.out.1.o4 hB))
                    clear HO HE9 HC HCO HFI HNU HBI e1 e2 e3 e4 kz hB HLE hk8
                    go_wp2_with fail
                    go_loopw [23] (fun i w' => ∃ (j g n c : Nat), j ≤ L.length ∧ i = .int .i64 j ∧ Hid (EP w T bl bw bc bv bk Lf Wv V K g n c (xb.run (L.take j)) w') ∧ Hid (CR bc ao L w')) (fun i _ => L.length - (intOf i).toNat)
                    case atStart => exact ⟨0, g, n, c, Nat.zero_le _, rfl, HE, HCR⟩
                    case round =>
                      obtain ⟨j, g, n, c, hj, rfl, HE, HC⟩ := hrel
                      clear HCR
                      by_cases hjl : j < L.length
                      · have j1 : (j : Int) < ((L.length : Nat) : Int) := by omega
                        obtain ⟨C, hC⟩ : ∃ C, L[j]? = some C := ⟨_, List.getElem?_eq_getElem hjl⟩
                        obtain ⟨gc, rfl, hgc, _⟩ := HC.out j C hC
                        have HRUN := hid (show xb.run (L.take (j + 1)) = (xb.run (L.take j)).put C by rw [List.take_add_one, hC]; exact run_snoc _ _ _)
                        have hok := run_ok (l := L.take j) HXB.out (fun D hD => HBK.out D (List.mem_of_mem_take hD))
                        have hgg := run_g_le (l := L.take j) HXB.out (fun D hD => HBK.out D (List.mem_of_mem_take hD))
                        have hlen := List.length_take_le j L
                        have hgb := HGB.out
                        have hbl := HBL.out
                        have j4 : (j : Int) < 4 := by omega
                        have j0 : (0 : Int) ≤ (j : Int) := by omega
                        have hCok := HBK.out C (List.mem_of_getElem? hC)
                        obtain ⟨x1, hx1⟩ : ∃ y, xb.run (L.take j) = y := ⟨_, rfl⟩
                        obtain ⟨x2, hx2⟩ : ∃ y, xb.run (L.take (j + 1)) = y := ⟨_, rfl⟩
                        rw [hx1] at HRUN hok hgg HE
                        rw [hx2] at HRUN
                        obtain ⟨rr, hrr⟩ : ∃ q : Int, (x1.r : Int) = q := ⟨_, rfl⟩
                        obtain ⟨cs, hcs⟩ : ∃ q : Int, (C.s : Int) = q := ⟨_, rfl⟩
                        obtain ⟨cu, hcu⟩ : ∃ q : Int, (C.w : Int) = q := ⟨_, rfl⟩
                        obtain ⟨ct, hct⟩ : ∃ q : Int, (C.t : Int) = q := ⟨_, rfl⟩
                        have HPP := hid (show ∀ g n c w, RefAt w g n c x1 → Calls Tryz.prog 44 #[.agg #[.slice (some ⟨g, 0, none⟩) n c, .int .i64 rr], .agg #[.int .i64 cs, .int .i64 cu, .int .i64 ct]] w fun e w' => RetRef w x2 e w' from fun g n c w h => by
                          rw [HRUN.out]
                          exact refPut_at g n c x1 C rr cs cu ct w hrr hcs hcu hct h hok hCok (by omega))
                        have HCC := hid (show ∀ w', CR bc (some ⟨gc, 0, none⟩) L w' → w'.rangeAt gc (j * 3) [.int .i64 cs, .int .i64 cu, .int .i64 ct] from fun w' h => by
                          have := h.range hC
                          rw [hcs, hcu, hct] at this
                          exact this)
                        have HRR := hid hrr
                        have HX2 := hid hx2
                        have HI81 := hid (show (Tryz.prog.info? 85).map (·.size) = some (#[Value.slice (some ⟨g, 0, none⟩) n c, .int .i64 rr] : Array Value).size by kernel_rfl)
                        have HI88 := hid (show (Tryz.prog.info? 92).map (·.size) = some (#[Value.int .i64 cs, .int .i64 cu, .int .i64 ct] : Array Value).size by kernel_rfl)
                        obtain ⟨ln, hln⟩ : ∃ q : Nat, L.length = q := ⟨_, rfl⟩
                        have HLN := hid hln
                        rw [hln] at j1 hjl
                        rw [hln]
                        clear hx1 hx2 hrr hcs hcu hct hok hgg hlen hgb hbl hCok hC hln hgc
                        go_wp2_with fail
                        refine mf_start (fun w' => EP w T bl bw bc bv bk Lf Wv V K g n c x1 w' ∧ CR bc (some ⟨gc, 0, none⟩) L w') (fun i => i == 6) ⟨HE.out.next ((Below.refl _ _).drew), HC.out.next ((Below.refl _ _).drew)⟩ fun hS => ?_
                        refine mf_yield (i := 0) (d := 121) (.agg #[.slice (some ⟨g, 0, none⟩) n c, .int .i64 rr]) rfl rfl (by kernel_rfl) (by kernel_rfl) (by kernel_rfl) (by kernel_rfl) hS (y_load_range (by rfl) rfl rfl (fun w' h => by have := At.whole h.1.1.co; rw [HRR.out] at this; exact this) Tryz.underlying85 rfl HI81.out) ?_
                        simp only [Act.put, setIfInBounds_toArray, set_cons_zero, set_cons_succ]
                        refine mf_yield (i := 1) (d := 122) (.slice (some ⟨gc, 0, none⟩) ln cb) rfl rfl (by kernel_rfl) (by kernel_rfl) (by kernel_rfl) (by kernel_rfl) hS (y_run (by rfl) fun _ => by rfl) ?_
                        simp only [Act.put, setIfInBounds_toArray, set_cons_zero, set_cons_succ]
                        refine mf_yield (i := 2) (d := 123) (.int .i64 j) rfl rfl (by kernel_rfl) (by kernel_rfl) (by kernel_rfl) (by kernel_rfl) hS (y_run (by rfl) fun _ => by rfl) ?_
                        simp only [Act.put, setIfInBounds_toArray, set_cons_zero, set_cons_succ]
                        refine mf_yield (i := 3) (d := 124) (.pointer (some ⟨gc, j * 3, none⟩)) rfl rfl (by kernel_rfl) (by kernel_rfl) (by kernel_rfl) (by kernel_rfl) hS (y_cx (by rfl) rfl rfl rfl rfl hjl) ?_
                        simp only [Act.put, setIfInBounds_toArray, set_cons_zero, set_cons_succ]
                        refine mf_yield (i := 4) (d := 125) (.agg #[.int .i64 cs, .int .i64 cu, .int .i64 ct]) rfl rfl (by kernel_rfl) (by kernel_rfl) (by kernel_rfl) (by kernel_rfl) hS (y_load_range (by rfl) rfl rfl (fun w' h => HCC.out w' h.2) Tryz.underlying92 rfl HI88.out) ?_
                        simp only [Act.put, setIfInBounds_toArray, set_cons_zero, set_cons_succ]
                        refine mf_ready [5] (by kernel_rfl) (by simp) (af_call (i := 5) (d := 126) (R := fun v w' => ∃ g' n' c', v = .agg #[.slice (some ⟨g', 0, none⟩) n' c', .int .i64 x2.r] ∧ bv < g' ∧ RefAt w' g' n' c' x2 ∧ EP w T bl bw bc bv bk Lf Wv V K g n c x1 w' ∧ CR bc (some ⟨gc, 0, none⟩) L w') #[.agg #[.slice (some ⟨g, 0, none⟩) n c, .int .i64 rr], .agg #[.int .i64 cs, .int .i64 cu, .int .i64 ct]] rfl rfl (by rfl) rfl enter_rput (by kernel_rfl) ((HPP.out g n c _ hS.1.1.rf).mono fun e w' h => by
                            obtain ⟨g', n', c', he, h1, h2, h3⟩ := h
                            exact ⟨_, he, g', n', c', rfl, Nat.lt_of_lt_of_le hS.1.1.le.lt h1, h2, hS.1.next h3, hS.2.next h3⟩) (fun v w' h => by obtain ⟨_, _, _, _, _, _, h⟩ := h; exact h) ?_ AllReadyF.nil)
                        clear hS
                        rintro v w6 ⟨g', n', c', rfl, hg', hR', hS⟩ _
                        simp only [Act.put, setIfInBounds_toArray, set_cons_zero, set_cons_succ]
                        refine mf_ready [6] (by kernel_rfl) (by simp) (af_store (i := 6) bc #[.slice (some ⟨g', 0, none⟩) n' c', .int .i64 x2.r] #[.slice (some ⟨g, 0, none⟩) n c, .int .i64 x1.r] rfl rfl (by rfl) rfl rfl rfl rfl hS.1.1.co rfl (one_ref _ _ _ _) HI81.out ?_ AllReadyF.nil)
                        have HE3 := hid (hS.1.put hg' hR')
                        have HC3 := hid (hS.2.row #[.slice (some ⟨g', 0, none⟩) n' c', .int .i64 x2.r])
                        refine mf_done (by kernel_rfl) ?_
                        clear hS hg' hR'
                        go_wp2_with fail
                        go_roundw
                        case rel => exact ⟨j + 1, g', n', c', by have := HLN.out; omega, by go_num, by rw [HX2.out]; exact HE3, HC3⟩
                        case measure => have := HLN.out; simp [intOf]; omega
                      · have hjL : j = L.length := by omega
                        have j1 : ¬ (j : Int) < ((L.length : Nat) : Int) := by omega
                        rw [hjL, List.take_length, ← HXN.out] at HE
                        clear HC hjL
                        go_wp2_with fail
                        go_roundw
                        case rel => exact ⟨b + 1, g, n, c, by omega, by go_num, by rw [HXE.out]; exact HE⟩
                        case measure => simp [intOf]; omega
          · have hb4' : b = 4 := by omega
            have hn4 : ¬ (b : Int) < 4 := by omega
            rw [hb4'] at HE
            have HXX := hid (show xE L l u m = xW x u kk 4 by unfold xE; rw [HX.out, HKK.out])
            have hyok := xW_ok HXO.out u kk 4
            have hyg := xW_g HXO.out u kk 4
            have hfits := pkE_fits HLO.out HLO2.out u HM10.out HM32.out
            have hlen := pkE_length HLO.out HLO2.out u HM10.out HM32.out
            rw [HXX.out] at hfits
            have hpk : pkE L l u m = (xW x u kk 4).out m := by unfold pkE St.out; rw [HXX.out, if_pos hfits]
            obtain ⟨yy, hy⟩ : ∃ y, xW x u kk 4 = y := ⟨_, rfl⟩
            obtain ⟨pk, hpk'⟩ : ∃ y, pkE L l u m = y := ⟨_, rfl⟩
            rw [hy] at HE hyok hyg hfits hpk
            rw [hpk'] at hpk hlen
            obtain ⟨t, ht⟩ : ∃ t : ByteArray, ⟨pk.toArray⟩ = t := ⟨_, rfl⟩
            have htm : t.size = m := by rw [← ht, ← hlen]; rfl
            obtain ⟨rr, hrr⟩ : ∃ q : Int, (yy.r : Int) = q := ⟨_, rfl⟩
            have hxg := HXG.out
            have HDN := hid (fun g n c w (h : RefAt w g n c yy) => Rg.refDone_at g n c yy rr m (m : Int) t true w hrr rfl (by rw [← hpk]; exact ht) (decide_eq_true hfits) h (by omega) (by have := HM32.out; omega))
            obtain ⟨P, hP⟩ : ∃ P, T.extract 17 (17 + 38) = P := ⟨_, rfl⟩
            have hP' := HT.out.sub (show 17 + 38 ≤ 55 by omega)
            rw [hP] at hP'
            obtain ⟨X, hX⟩ : ∃ X, IsRow 16 (De.soD (byteF pk) (fun i => f (17 + i)) m) X := ⟨_, isRow _ _⟩
            obtain ⟨Y, hY⟩ : ∃ X, IsRow 38 (De.nxD (byteF pk) (fun i => f (17 + i)) m) X := ⟨_, isRow _ _⟩
            have HDE := hid (fun w => De.as_N (De.refDecode_as P (fun i => f (17 + i)) t pk m w hP' ht htm ⟨HM10.out, HM32.out⟩ HRE.out.2.2) hX hY)
            obtain ⟨E, hE, hEb⟩ := ebuilt_3 isEn_r HL.out q hY
            have HX16 := hid hX
            have HY := hid hY
            have HP := hid hP'
            have HEB := hid hEb
            have HER := hid hE
            have HPK := hid hpk'
            have HTT := hid ht
            have HPE := hid hP
            have HZR := hid hZr38
            have HI81 := hid (show (Tryz.prog.info? 85).map (·.size) = some (#[Value.slice (some ⟨g, 0, none⟩) n c, .int .i64 rr] : Array Value).size by kernel_rfl)
            have HCO := hid HE.out.1.co
            rw [hrr] at HCO
            clear hb4 hb hb4' hyok hyg hfits hlen hpk hy hpk' ht htm hrr hxg hP hP' hX hY hE hEb HXX
            go_wp2_with (refine wpList_load_row rfl 85 _ rfl bc rfl _ _ (0, 0) _ HCO.out Tryz.underlying85 rfl HI81.out ?_)
            refine (HDN.out g n c _ HE.out.1.rf).mono ?_
            rintro e w1 ⟨rfl, hbb⟩
            replace HE := hid (HE.out.next hbb)
            clear hbb HCO HDN
            go_wp2_with (refine wpList_load_part (by rfl) 25 _ rfl w.heap.size 17 rfl HT.out HE.out.1.t HP.out (by omega) (fun i _ => rfl) Tryz.underlying25 rfl (HIR.out _ HP.out.1) ?_)
            refine (HDE.out _).mono ?_
            rintro e w2 ⟨rfl, hbb⟩
            replace HE := hid (HE.out.next hbb)
            clear hbb HDE
            have HU := hid (Duo.start (Below.refl w2.heap.size w2) Za Zr 22 25)
            go_wp2_with (first
              | (refine wpList_store_row rfl 22 _ _ rfl w2.heap.size X rfl rfl _ _ HU.out.2.2.1 (HIA.out _ HX16.out.1) (by rw [HZA.out, HX16.out.1]) HX16.out.2.1 ?_
                 replace HU := hid (HU.out.set1 X)
                 revert HU
                 generalize World.setRow _ _ _ = W4
                 intro HU)
              | (refine wpList_store_row rfl 25 _ _ rfl (w2.heap.size + 1) Y rfl rfl _ _ HU.out.2.2.2 (HIR.out _ HY.out.1) (by rw [HZR.out, HY.out.1]) HY.out.2.1 ?_
                 replace HU := hid (HU.out.set2 Y)
                 have HE5 := hid (HE.out.next HU.out.1)
                 clear HE
                 revert HU HE5
                 generalize World.setRow _ _ _ = W5
                 intro HU HE5))
            have HCT := hid (fun w => Tl.refCut22 q q w (by rw [← HQ.out]; exact ct22_ct22 _))
            obtain ⟨Zo, hzo, hZo⟩ := HE5.out.1.z
            refine mf_start (fun w' => ES w T bl bw bc bv Lf Wv V g n c yy w' ∧ At w' (w2.heap.size + 1) Y 25) (fun i => i == 7) ⟨HE5.out.1.next ((Below.refl _ _).drew), HU.out.2.2.2.below ((Below.refl _ _).drew) HU.out.2.2.2.lt⟩ fun hS => ?_
            refine mf_yield (i := 0) (d := 140) (.string t) rfl rfl (by kernel_rfl) (by kernel_rfl) (by kernel_rfl) (by kernel_rfl) hS (y_run (by rfl) fun _ => by rfl) ?_
            simp only [Act.put, setIfInBounds_toArray, set_cons_zero, set_cons_succ]
            refine mf_yield (i := 1) (d := 141) (.agg Lf) rfl rfl (by kernel_rfl) (by kernel_rfl) (by kernel_rfl) (by kernel_rfl) hS (y_load_range (by rfl) rfl rfl (fun w' h => At.whole h.1.lf) Tryz.underlying22 rfl (HIA.out _ HL.out.1)) ?_
            simp only [Act.put, setIfInBounds_toArray, set_cons_zero, set_cons_succ]
            refine mf_yield (i := 2) (d := 142) (.int .i64 q) rfl rfl (by kernel_rfl) (by kernel_rfl) (by kernel_rfl) (by kernel_rfl) hS (y_run (by rfl) fun _ => by rfl) ?_
            simp only [Act.put, setIfInBounds_toArray, set_cons_zero, set_cons_succ]
            refine mf_yield (i := 4) (d := 144) (.agg Y) rfl rfl (by kernel_rfl) (by kernel_rfl) (by kernel_rfl) (by kernel_rfl) hS (y_load_range (by rfl) rfl rfl (fun w' h => At.whole h.2) Tryz.underlying25 rfl (HIR.out _ HY.out.1)) ?_
            simp only [Act.put, setIfInBounds_toArray, set_cons_zero, set_cons_succ]
            refine mf_ready [3] (by kernel_rfl) (by simp) (af_call (i := 3) (d := 143) (R := fun v w' => v = .int .i64 q ∧ (ES w T bl bw bc bv Lf Wv V g n c yy w' ∧ At w' (w2.heap.size + 1) Y 25)) #[.int .i64 q, .int .i64 22] rfl rfl (by rfl) rfl enter_rcut (by kernel_rfl) ((HCT.out _).mono fun e w' h => ⟨_, h.1, rfl, h.2 ▸ hS⟩) (fun v w' h => h.2) ?_ AllReadyF.nil)
            clear hS
            rintro v w7 ⟨rfl, hS⟩ _
            simp only [Act.put, setIfInBounds_toArray, set_cons_zero, set_cons_succ]
            refine mf_yield (i := 5) (d := 145) (.agg E) rfl rfl (by kernel_rfl) (by kernel_rfl) (by kernel_rfl) (by kernel_rfl) hS (y_build_parts (L := [(0, .tmp 141), (1, .tmp 143), (2, .tmp 144)]) (by rfl) rfl _ rfl HEB.out) ?_
            simp only [Act.put, setIfInBounds_toArray, set_cons_zero, set_cons_succ]
            refine mf_yield (i := 6) (d := 6) (.string t) rfl rfl (by kernel_rfl) (by kernel_rfl) (by kernel_rfl) (by kernel_rfl) hS (y_run (by rfl) fun _ => by rfl) ?_
            simp only [Act.put, setIfInBounds_toArray, set_cons_zero, set_cons_succ]
            clear Zo hzo hZo
            obtain ⟨Zo, hzo, hZo⟩ := hS.1.z
            refine mf_ready [7] (by kernel_rfl) (by simp) (af_store (i := 7) (w.heap.size + 1 + 1) E Zo rfl rfl (by rfl) rfl rfl rfl rfl hZo (by rw [hzo, HER.out.1]) HER.out.2.1 (HIE.out _ HER.out.1) ?_ AllReadyF.nil)
            refine mf_done (by kernel_rfl) ?_
            have HA9 := hid (At.setRow (C := E) hZo)
            have HB9 := hid (below_setRow' hS.1.out (show w.heap.size ≤ w.heap.size + 1 + 1 by omega) E)
            clear hS HU HE5 HEB HCT hzo hZo
            revert HA9 HB9
            generalize World.setRow _ _ _ = W9
            intro HA9 HB9
            try go_wp2_with fail
            refine bodyPost_ret (v := .tuple #[.string t, .agg E]) (results_tmp_row rfl _ _ (w.heap.size + 1 + 1) E _ rfl rfl HA9.out Tryz.underlying27 rfl (HIE.out _ HER.out.1)) rfl ?_
            rw [HLL.out, Hl.out, Hu.out, HZ.out, HQ.out, HPK.out]
            exact ⟨⟨t, E, HTT.out, rfl, HER.out⟩, HB9.out⟩
end Go.Proofs.YtfohinlldchdpaaGreatDoor.En
end
