/- Texts of the walk, one behind the other. -/
import Derived.Test.YtfohinlldchdpaaGreatDoorEncSilenceM40
import Derived.Test.YtfohinlldchdpaaGreatDoorEncSilenceM41
import Derived.Test.YtfohinlldchdpaaGreatDoorEncSilenceM42
import Derived.Great.BuildSlice
import Derived.Laws.EntriesVeiled
import Derived.Test.YtfohinlldchdpaaGreatDoorEncSilenceM47
import Derived.Test.YtfohinlldchdpaaGreatDoorEncSilenceM45
import Derived.Test.YtfohinlldchdpaaGreatDoorEncSilenceM2

section
/- Contracts: enc's All and what it hands to every. -/
set_option maxRecDepth 100000
set_option linter.unusedVariables false
namespace Go.Proofs.YtfohinlldchdpaaGreatDoor.En
open Go.RowKit Go.Proofs.YtfohinlldchdpaaGreatDoor.Row Go.Proofs.YtfohinlldchdpaaGreatDoor.Rg Go.Proofs.YtfohinlldchdpaaGreatDoor.Md Go.Proofs.YtfohinlldchdpaaGreatDoor.Tl Go.Proofs.YtfohinlldchdpaaGreatDoor.Sta

/-- The bytes of the k-th packet. -/
noncomputable def pkB (F : Nat → Nat → Int) (m k : Nat) : ByteArray := ⟨(pkS F m (fun _ => 0) k).toArray⟩
noncomputable def enZ (F : Nat → Nat → Int) (m k : Nat) : Nat → Int := enS F m (fun _ => 0) k
theorem enZ_re {F : Nat → Nat → Int} {m : Nat} (hF : ∀ i, Snd (F i)) (k : Nat) : Re (enZ F m k) := enS_re re_zero hF k

theorem run_str (B : ByteArray) (w : World) : (Instr.buildSlice 43 1 #[(0, .string B)]).run Tryz.prog w = .ok (.slice (some ⟨w.heap.size, 0, none⟩) 1 1) (w.alloc (.cells #[.string B] 9)) := by
  obtain ⟨i, hi, hz, hsz, _⟩ := info_string
  refine run_buildSlice w 43 9 1 _ _ i (.string ⟨#[]⟩) Tryz.underlying43 hi hz (by rw [hsz]; decide) (by rw [hsz]; decide) ?_
  rw [hsz]
  first | kernel_rfl | (simp [Instr.fill, Value.cells]; done) | (unfold Instr.fill; rfl)
theorem wpList_slice_str {ops : Array Oper} {rest : List Oper} {o : Oper} {a : Act} {w : World} {Q : Exit → Act → World → Prop} (hgd : o.guard = none) (x : Operand) (ho : o.op = .buildSlice 43 1 #[(0, x)]) {B : ByteArray} (hx : a.eval x = .string B)
    (h : wpList Tryz.prog ops Q rest (a.put o.dst (.slice (some ⟨w.heap.size, 0, none⟩) 1 1)) (w.alloc (.cells #[.string B] 9))) : wpList Tryz.prog ops Q (o :: rest) a w := by
  refine wpList_plain hgd fun K hK => ?_
  unfold Oper.wp execOp
  have hv : (#[(0, x)] : Array (Nat × Operand)).map (fun (i, x) => (i, a.eval x)) = #[(0, .string B)] := by simp [hx]
  simp only [ho, hv, run_str, Sem.run_bind, Result.andThen_ok, Sem.run_pure]
  exact hK _ _ h
theorem run_cellV {w : World} {p : Addr} {a : Option Addr} {n c : Nat} (h : w.cell? p = some (.slice a n c)) : (Instr.loadAt 43 (.pointer (some p))).run Tryz.prog w = .ok (.slice a n c) w := by
  simp [Instr.loadAt, Instr.sureAddr, loadVar, isAgg, run_underlying Tryz.underlying43, h, go_sem]
theorem y_cellV {ops : Array Oper} {S : World → Prop} {a : Act} {oi : Oper} {y : Operand} {p : Addr} {v : Option Addr} {n c : Nat} (hw : Region.wanted oi (yielded ops a.tmps) = true) (ho : oi.op = .load 43 y) (hy : a.eval y = .pointer (some p))
    (hc : ∀ w, S w → w.cell? p = some (.slice v n c)) : YieldsIf Tryz.prog ops S oi (.slice v n c) a :=
  .inl ⟨hw, fun w hw' => by
    unfold execOp
    simp only [ho, hy, run_cellV (hc w hw'), Sem.run_bind, Sem.run_pure, Result.andThen_ok]⟩
theorem run_bxo {b o n c k : Nat} (hk : k < n) (w : World) :
    (Instr.indexAt 29 (.slice (some ⟨b, o, none⟩) n c) (.int .i64 k)).run Tryz.prog w = .ok (.pointer (some ⟨b, o + k * 16, none⟩)) w := by
  have h : (0 : Int) ≤ (k : Int) ∧ (k : Int) < (n : Int) := by omega
  unfold Instr.indexAt
  simp only [Sem.run_bind, asIntOf, Sem.run_pure, Result.andThen_ok, run_underlying Tryz.underlying29, if_pos h, size_block]
  simp only [Addr.add, Int.toNat_natCast]
  split <;> simp_all
theorem SlR.range {w : World} {b o n c i : Nat} {F : Nat → Nat → Int} {R : Array Value} (h : SlR w (some ⟨b, o, none⟩) n c F) (hi : i < n) (hR : IsRow 16 (F i) R) : w.rangeAt b (o + i * 16) R.toList := fun j v hv => by
  have hj : j < 16 := by
    have := (List.getElem?_eq_some_iff.1 hv).1
    rw [Array.length_toList, hR.1] at this
    exact this
  rw [Array.getElem?_toList, hR.2.2 j hj] at hv
  injection hv with hv
  rw [← hv]
  obtain ⟨b', o', e, hc⟩ := h.2.2 (by omega)
  cases e
  exact hc i hi j hj

/-- All's own variables: the size, the result's row, the packets, the encoder, the error. -/
structure AlS (w : World) (m : Nat) (Z E : Array Value) (a : Option Addr) (k c : Nat) (G : Nat → ByteArray) (w' : World) : Prop where
  out : Below w.heap.size w w'
  sz : At w' w.heap.size #[.int .i64 m] 3
  res : At w' (w.heap.size + 1) Z 36
  pks : At w' (w.heap.size + 2) #[.slice a k c] 43
  enc : At w' (w.heap.size + 3) E 36
  err : At w' (w.heap.size + 4) #[.int .i64 0] 37
  own : Sgs w' (w.heap.size + 5) a k c G
section
variable {w w1 w2 : World} {m k c : Nat} {Z E : Array Value} {a : Option Addr} {G : Nat → ByteArray}
theorem AlS.next (h : AlS w m Z E a k c G w1) (hb : Below w1.heap.size w1 w2) : AlS w m Z E a k c G w2 :=
  ⟨below_trans h.out hb h.out.size, h.sz.below hb h.sz.lt, h.res.below hb h.res.lt, h.pks.below hb h.pks.lt, h.enc.below hb h.enc.lt, h.err.below hb h.err.lt, h.own.below hb⟩
theorem AlS.setE (h : AlS w m Z E a k c G w1) (R : Array Value) : AlS w m Z R a k c G (w1.setRow (w.heap.size + 3) R) :=
  ⟨below_setRow' h.out (by omega) _, h.sz.setRow_other (by omega), h.res.setRow_other (by omega), h.pks.setRow_other (by omega), h.enc.setRow, h.err.setRow_other (by omega), h.own.setRow (by omega) _⟩
theorem AlS.setZ (h : AlS w m Z E a k c G w1) (R : Array Value) : AlS w m R E a k c G (w1.setRow (w.heap.size + 1) R) :=
  ⟨below_setRow' h.out (by omega) _, h.sz.setRow_other (by omega), h.res.setRow, h.pks.setRow_other (by omega), h.enc.setRow_other (by omega), h.err.setRow_other (by omega), h.own.setRow (by omega) _⟩
theorem Sgs.setCell {w : World} {B n c : Nat} {a : Option Addr} {G : Nat → ByteArray} (h : Sgs w B a n c G) {b i : Nat} (v : Value) (hb : b < B) : Sgs (w.setCell ⟨b, i, none⟩ v) B a n c G :=
  h.keep fun g hg => by
    have hne : b ≠ g := by have := (h.block g hg).1; omega
    unfold World.setCell
    simp [Array.getElem?_modify, hne]
theorem AlS.setR (h : AlS w m Z E a k c G w1) : AlS w m Z E a k c G (w1.setCell ⟨w.heap.size + 4, 0, none⟩ (.int .i64 0)) :=
  ⟨h.out.setCell (by dsimp only; omega) _, h.sz.setCell_other (by dsimp only; omega), h.res.setCell_other (by dsimp only; omega), h.pks.setCell_other (by dsimp only; omega), h.enc.setCell_other (by dsimp only; omega), (At.setCell h.err (v := .int .i64 0) (i := 0) : _), Sgs.setCell h.own _ (by omega)⟩
theorem AlS.grown (h : AlS w m Z E a k c G w1) {a' : Option Addr} {c' : Nat} (hg : w1.grownBy w2 (Value.slice a k c).ownBlock) (hb : Below (w.heap.size + 5) w1 w2) (ho : Sgs w2 (w.heap.size + 5) a' (k + 1) c' G) :
    AlS w m Z E a' (k + 1) c' G (w2.setCell ⟨w.heap.size + 2, 0, none⟩ (.slice a' (k + 1) c')) := by
  have hx : ∀ b, b < w.heap.size + 5 → (Value.slice a k c).ownBlock ≠ some b := fun b hb e => by have := (h.own.block b e).1; omega
  refine ⟨(h.out.trans ⟨hb.os, hb.tape, hb.output, hb.size, fun k hk => hb.block k (by omega)⟩).setCell (by dsimp only; omega) _, (h.sz.grown hg (hx _ (by omega))).setCell_other (by dsimp only; omega), (h.res.grown hg (hx _ (by omega))).setCell_other (by dsimp only; omega), (At.setCell (h.pks.grown hg (hx _ (by omega))) (v := .slice a' (k + 1) c') (i := 0) : _), (h.enc.grown hg (hx _ (by omega))).setCell_other (by dsimp only; omega), (h.err.grown hg (hx _ (by omega))).setCell_other (by dsimp only; omega), Sgs.setCell ho _ (by omega)⟩
end

set_option maxHeartbeats 1000000 in
theorem all1_as (w w1 : World) (m k c : Nat) (Z E F : Array Value) (a : Option Addr) (G : Nat → ByteArray) (g b : Nat → Int) (h : AlS w m Z E a k c G w1) (hE : IsRow 55 g E) (hF : IsRow 16 b F) (hr : Re g) (hs : Snd b) (h10 : 10 ≤ m) (h32 : m ≤ 32)
    (hG : ⟨(pkt g b m).toArray⟩ = G k) (hk : k + 1 ≤ 1000000) (hTab : Lv.Tab w) :
    Calls Tryz.prog 33 #[.agg F, .pointer (some ⟨w.heap.size + 3, 0, none⟩), .pointer (some ⟨w.heap.size, 0, none⟩), .pointer (some ⟨w.heap.size + 4, 0, none⟩), .pointer (some ⟨w.heap.size + 2, 0, none⟩)] w1 fun e w2 =>
      e = .returned (.bool true) ∧ ∃ E' a' c', IsRow 55 (nxE g b m) E' ∧ AlS w m Z E' a' (k + 1) c' G w2 := by
  obtain ⟨_, _, _, _, hie⟩ := zero_ep
  obtain ⟨_, _, _, _, hib⟩ := zero_b
  obtain ⟨Q, hQ⟩ : ∃ Q, IsRow 55 (nxE g b m) Q := ⟨_, isRow _ _⟩
  have HEN := Lib.hid (fun w' hT => as_E (encode_yes E F g b m (G k) w' hE hF h10 h32 hr hs hG hT) hQ)
  have HA := Lib.hid (h.next ((Below.refl _ _).alloc (Nat.le_refl _) (.cells F 32)))
  have HAF := Lib.hid (At.new w1 F 32)
  have HE := Lib.hid hE
  have HF := Lib.hid hF
  have HQ := Lib.hid hQ
  have HIE := Lib.hid hie
  have HIB := Lib.hid hib
  have HTAB := Lib.hid hTab
  clear hE hF hQ hie hib hTab hr hs hG
  have c2 := HA.out.sz.cell 0
  simp only [List.getElem?_toArray, List.getElem?_cons_zero] at c2
  go_enter Tryz.func33, Tryz.ntmps33
  go_wp2_with (first
    | refine wpList_load_all (by rfl) 36 _ rfl (w.heap.size + 3) rfl HE.out HA.out.enc Tryz.underlying36 rfl HIE.out ?_
    | refine wpList_load_all (by rfl) 32 _ rfl w1.heap.size rfl HF.out HAF.out Tryz.underlying32 rfl HIB.out ?_)
  clear c2
  refine (HEN.out _ (HTAB.out.next HA.out.out)).mono ?_
  rintro e w3 ⟨rfl, hb⟩
  have HB := Lib.hid (HA.out.next hb)
  clear hb HA HAF h
  go_wp2_with (first
    | (refine wpList_store_row rfl 36 _ _ rfl (w.heap.size + 3) Q rfl rfl _ _ HB.out.enc (HIE.out _ HQ.out.1) (by rw [HE.out.1, HQ.out.1]) HQ.out.2.1 ?_
       have HC := Lib.hid (HB.out.setE Q)
       clear HB
       revert HC
       generalize World.setRow _ _ _ = W4
       intro HC
       have c4 := HC.out.err.cell 0
       simp only [List.getElem?_toArray, List.getElem?_cons_zero] at c4
       have f4 := HC.out.err.frozen 0
       have c5 := HC.out.setR.pks.cell 0
       simp only [List.getElem?_toArray, List.getElem?_cons_zero] at c5)
    | (refine wpList_slice_str rfl _ rfl rfl ?_
       have HC5 := Lib.hid HC.out.setR
       clear c4 f4 c5 HC
       revert HC5
       generalize World.setCell _ _ _ = W5
       intro HC5
       have HC1 := Lib.hid (HC5.out.next ((Below.refl _ _).alloc (Nat.le_refl _) (.cells #[.string (G k)] 9)))
       have hn := (At.new W5 #[.string (G k)] 9).cell 0
       simp only [List.getElem?_toArray, List.getElem?_cons_zero] at hn
       have HN := Lib.hid hn
       clear hn HC5
       revert HC1 HN
       generalize W5.heap.size = b6
       generalize World.alloc _ _ = W6
       intro HC1 HN)
    | (refine wpList_append_string rfl _ _ rfl (w.heap.size + 5) G a k c rfl HC1.out.own b6 rfl HN.out hk (by have := HC1.out.err.lt; omega) ?_
       intro a' c' w7 hS7 hb7 hg7
       have HD := Lib.hid (HC1.out.grown hg7 hb7 hS7)
       have hx : ∀ b, b < w.heap.size + 5 → (Value.slice a k c).ownBlock ≠ some b := fun b hb e => by have := (HC1.out.own.block b e).1; omega
       have c7 := (HC1.out.pks.grown hg7 (hx _ (by omega))).cell 0
       simp only [List.getElem?_toArray, List.getElem?_cons_zero] at c7
       have f7 := (HC1.out.pks.grown hg7 (hx _ (by omega))).frozen 0
       have c8 := HD.out.err.cell 0
       simp only [List.getElem?_toArray, List.getElem?_cons_zero] at c8
       clear hS7 hb7 hg7 hx HC1 HN))
  go_ret
  exact ⟨rfl, Q, a', c', HQ.out, HD.out⟩

/-- Behind k frames. -/
def AlK (w : World) (m : Nat) (Z : Array Value) (F : Nat → Nat → Int) (k : Nat) (w' : World) : Prop := ∃ E a c, IsRow 55 (enZ F m k) E ∧ AlS w m Z E a k c (pkB F m) w'
theorem AlK.next {w w1 w2 : World} {m k : Nat} {Z : Array Value} {F : Nat → Nat → Int} (h : AlK w m Z F k w1) (hb : Below w1.heap.size w1 w2) : AlK w m Z F k w2 := by
  obtain ⟨E, a, c, h1, h2⟩ := h
  exact ⟨E, a, c, h1, h2.next hb⟩
theorem AlK.out {w w1 : World} {m k : Nat} {Z : Array Value} {F : Nat → Nat → Int} (h : AlK w m Z F k w1) : Below w.heap.size w w1 := by
  obtain ⟨E, a, c, h1, h2⟩ := h
  exact h2.out
theorem all1_k (w w1 : World) (m k : Nat) (Z X : Array Value) (F : Nat → Nat → Int) (h : AlK w m Z F k w1) (hX : IsRow 16 (F k) X) (hF : ∀ i, Snd (F i)) (h10 : 10 ≤ m) (h32 : m ≤ 32) (hk : k + 1 ≤ 1000000) (hTab : Lv.Tab w) :
    Calls Tryz.prog 33 #[.agg X, .pointer (some ⟨w.heap.size + 3, 0, none⟩), .pointer (some ⟨w.heap.size, 0, none⟩), .pointer (some ⟨w.heap.size + 4, 0, none⟩), .pointer (some ⟨w.heap.size + 2, 0, none⟩)] w1 fun e w2 =>
      e = .returned (.bool true) ∧ AlK w m Z F (k + 1) w2 := by
  obtain ⟨E, a, c, h1, h2⟩ := h
  refine (all1_as w w1 m k c Z E X a (pkB F m) (enZ F m k) (F k) h2 h1 hX (enZ_re hF k) (hF k) h10 h32 rfl hk hTab).mono ?_
  rintro e w2 ⟨rfl, E', a', c', h3, h4⟩
  exact ⟨rfl, E', a', c', h3, h4⟩

set_option maxHeartbeats 1000000 in
theorem every_blk (w w1 : World) (m n c : Nat) (Z : Array Value) (a : Option Addr) (F : Nat → Nat → Int) (hS : SlR w a n c F) (h : AlK w m Z F 0 w1) (hF : ∀ i, Snd (F i)) (h10 : 10 ≤ m) (h32 : m ≤ 32) (hn : n ≤ 1000) (hTab : Lv.Tab w) :
    Calls Tryz.prog 34 #[.slice a n c, .func (.func 33) #[] #[.pointer (some ⟨w.heap.size + 3, 0, none⟩), .pointer (some ⟨w.heap.size, 0, none⟩), .pointer (some ⟨w.heap.size + 4, 0, none⟩), .pointer (some ⟨w.heap.size + 2, 0, none⟩)]] w1 fun e w2 =>
      e = .returned (.bool true) ∧ AlK w m Z F n w2 := by
  obtain ⟨Zb, hZb, _, hzb, hib⟩ := zero_b
  have HS := Lib.hid hS
  have H0 := Lib.hid h
  have HF := Lib.hid hF
  have HTAB := Lib.hid hTab
  have HIB := Lib.hid hib
  have HZB := Lib.hid hZb.1
  clear hS h hF hTab hib hZb
  go_enter Tryz.func34, Tryz.ntmps34
  go_wp2_with fail
  go_loopw [9] (fun i w' => ∃ k : Nat, k ≤ n ∧ i = .int .i64 k ∧ Hid (AlK w m Z F k w')) (fun i _ => n - (intOf i).toNat)
  case atStart => exact ⟨0, Nat.zero_le _, rfl, H0⟩
  case round =>
    obtain ⟨k, hk, rfl, HK⟩ := hrel
    clear H0
    by_cases hlt : k < n
    · have k1 : (k : Int) < n := by omega
      obtain ⟨b, o, rfl, _⟩ := HS.out.2.2 (by omega)
      obtain ⟨X, hX⟩ : ∃ X, IsRow 16 (F k) X := ⟨_, isRow _ _⟩
      have HX := Lib.hid hX
      have HR := Lib.hid (SlR.range (HS.out.below HK.out.out) hlt hX)
      have hix := fun w => run_bxo (c := c) (b := b) (o := o) hlt w
      have HK1 := Lib.hid (HK.out.next ((Below.refl _ _).alloc (Nat.le_refl _) (.cells X 32)))
      have HA1 := Lib.hid (At.new wr X 32)
      clear hX
      go_wp2_with (first
        | refine wpList_load_range (by rfl) 32 _ rfl b (o + k * 16) rfl HR.out Tryz.underlying32 rfl (HIB.out _ HX.out.1) ?_
        | (refine wpList_store_row rfl 32 _ _ rfl wr.heap.size X rfl rfl _ _ (heap_alloc_new _ _) (HIB.out _ HX.out.1) (by rw [HZB.out, HX.out.1]) HX.out.2.1 ?_; rw [World.setRow_alloc_new]
           clear HR HK
           revert HK1 HA1
           generalize wr.heap.size = b6
           generalize World.alloc _ _ = W6
           intro HK1 HA1)
        | refine wpList_load_all (by rfl) 32 _ rfl b6 rfl HX.out HA1.out Tryz.underlying32 rfl HIB.out ?_)
      refine (all1_k w W6 m k Z X F HK1.out HX.out HF.out h10 h32 (by omega) HTAB.out).mono ?_
      rintro e w7 ⟨rfl, h7⟩
      have HK7 := Lib.hid h7
      clear h7 HK1 HA1
      go_wp2_with fail
      go_roundw
      case rel => exact ⟨k + 1, by omega, by go_num, HK7⟩
      case measure => simp [intOf]; omega
    · obtain rfl : k = n := by omega
      go_wp2_with fail
      go_ret
      exact ⟨rfl, HK.out⟩

/-- What All answers: so many packets of its own, and the encoder then. -/
def RetAll (w : World) (m n : Nat) (F : Nat → Nat → Int) (e : Ending) (w' : World) : Prop :=
  ∃ a c Q, e = .returned (.tuple #[.slice a n c, .agg Q, .int .i64 0]) ∧ IsRow 55 (enZ F m n) Q ∧ Sgs w' w.heap.size a n c (pkB F m) ∧ Below w.heap.size w w'

theorem al_start (w : World) (m : Nat) (Z : Array Value) (F : Nat → Nat → Int) (hZ : IsRow 55 (fun _ => 0) Z) :
    AlK w m Z F 0 (((((w.alloc (.cells #[.int .i64 m] 3)).alloc (.cells Z 36)).alloc (.cells #[.slice none 0 0] 43)).alloc (.cells Z 36)).alloc (.cells #[.int .i64 0] 37)) := by
  have a1 := At.new (w.alloc (.cells #[.int .i64 m] 3)) Z 36
  have a2 := At.new ((w.alloc (.cells #[.int .i64 m] 3)).alloc (.cells Z 36)) #[.slice none 0 0] 43
  have a3 := At.new (((w.alloc (.cells #[.int .i64 m] 3)).alloc (.cells Z 36)).alloc (.cells #[.slice none 0 0] 43)) Z 36
  have a4 := At.new ((((w.alloc (.cells #[.int .i64 m] 3)).alloc (.cells Z 36)).alloc (.cells #[.slice none 0 0] 43)).alloc (.cells Z 36)) #[.int .i64 0] 37
  simp only [World.size_alloc] at a1 a2 a3 a4
  exact ⟨Z, none, 0, hZ, ⟨((((((Below.refl _ _).alloc (Nat.le_refl _) _).alloc (by simp) _).alloc (by simp; omega) _).alloc (by simp; omega) _).alloc (by simp; omega) _), ((((At.new _ _ _).alloc _).alloc _).alloc _).alloc _, ((a1.alloc _).alloc _).alloc _, (a2.alloc _).alloc _, a3.alloc _, a4, Sgs.nil _ _ _⟩⟩

set_option maxHeartbeats 1000000 in
theorem all_yes (a : Option Addr) (n c m : Nat) (F : Nat → Nat → Int) (w : World) (hS : SlR w a n c F) (hF : ∀ i, Snd (F i)) (h10 : 10 ≤ m) (h32 : m ≤ 32) (hn : n ≤ 1000) (hTab : Lv.Tab w) :
    Calls Tryz.prog 15 #[.slice a n c, .int .i64 m] w (RetAll w m n F) := by
  obtain ⟨Ze, hZe, _, hze, hie⟩ := zero_ep
  have hmf : ∀ (fn : Fn) (first cap : Array Value) (w : World), (Instr.makeFunc fn first cap).run Tryz.prog w = .ok (.func fn first cap) w := fun _ _ _ _ => rfl
  have HA := Lib.hid (al_start w m Ze F hZe)
  have HEV := Lib.hid (fun w1 h => every_blk w w1 m n c Ze a F hS h hF h10 h32 hn hTab)
  have HIE := Lib.hid hie
  have HZE := Lib.hid hZe.1
  clear hS hF hn hTab hie hZe
  go_enter Tryz.func15, Tryz.ntmps15
  go_wp2_with fail
  refine (HEV.out _ HA.out).mono ?_
  rintro e W1 ⟨rfl, E, v, d, hE, hA⟩
  have HE := Lib.hid hE
  have HB := Lib.hid hA
  clear hE hA HA HEV hmf
  go_wp2_with fail
  refine mf_start (fun w' => ∃ Z : Array Value, Z.size = 55 ∧ AlS w m Z E v n d (pkB F m) w') (fun i => i == 3) ⟨Ze, HZE.out, HB.out.next (Below.refl _ _).drew⟩ fun hS => ?_
  refine mf_yield (i := 0) (d := 18) (.slice v n d) rfl rfl (by kernel_rfl) (by kernel_rfl) (by kernel_rfl) (by kernel_rfl) hS (y_cellV (by rfl) rfl rfl (fun w' h => by obtain ⟨_, _, h⟩ := h; simpa using h.pks.cell 0)) ?_
  simp only [Act.put, List.setIfInBounds_toArray, List.set_cons_zero, List.set_cons_succ]
  refine mf_yield (i := 1) (d := 19) (.agg E) rfl rfl (by kernel_rfl) (by kernel_rfl) (by kernel_rfl) (by kernel_rfl) hS (y_load_part (l := 0) (by rfl) rfl rfl HE.out (fun w' h => by obtain ⟨_, _, h⟩ := h; exact h.enc) HE.out (by omega) (fun i _ => by rw [Nat.zero_add]) Tryz.underlying36 rfl (HIE.out _ HE.out.1)) ?_
  simp only [Act.put, List.setIfInBounds_toArray, List.set_cons_zero, List.set_cons_succ]
  refine mf_yield (i := 2) (d := 4) (.slice v n d) rfl rfl (by kernel_rfl) (by kernel_rfl) (by kernel_rfl) (by kernel_rfl) hS (y_run (by rfl) fun _ => by rfl) ?_
  simp only [Act.put, List.setIfInBounds_toArray, List.set_cons_zero, List.set_cons_succ]
  obtain ⟨Zo, hzo, hZo⟩ := hS
  refine mf_ready [3] (by kernel_rfl) (by simp) (af_store (i := 3) (w.heap.size + 1) E Zo rfl rfl (by rfl) rfl rfl rfl rfl hZo.res (by rw [hzo, HE.out.1]) HE.out.2.1 (HIE.out _ HE.out.1) ?_ AllReadyF.nil)
  have HC := Lib.hid (hZo.setZ E)
  clear hZo hzo Zo HB
  revert HC
  generalize World.setRow _ _ _ = W9
  intro HC
  refine mf_ready [4] (by kernel_rfl) (by simp) (af_assign (i := 4) (d := 6) (v := .int .i64 0) rfl rfl (by rfl) (fun _ => by rfl) (fun _ => ⟨E, HE.out.1, HC.out⟩) ?_ AllReadyF.nil)
  refine mf_done (by kernel_rfl) ?_
  go_wp2_with fail
  exact bodyPost_ret (v := .tuple #[.slice v n d, .agg E, .int .i64 0]) (results_three rfl _ _ (w.heap.size + 1) E _ rfl rfl rfl HC.out.res Tryz.underlying36 rfl (HIE.out _ HE.out.1)) rfl ⟨v, d, E, rfl, HE.out, HC.out.own.wide (by omega), HC.out.out⟩
end Go.Proofs.YtfohinlldchdpaaGreatDoor.En
end

section
/- What stage 15's laws share: the example, one frame, a row of frames written out. -/
set_option maxRecDepth 100000
set_option linter.unusedVariables false
namespace Go.Proofs.YtfohinlldchdpaaGreatDoor.En
open Go.RowKit Go.Proofs.YtfohinlldchdpaaGreatDoor.Row Go.Proofs.YtfohinlldchdpaaGreatDoor.Rg Go.Proofs.YtfohinlldchdpaaGreatDoor.Md Go.Proofs.YtfohinlldchdpaaGreatDoor.Tl Go.Proofs.YtfohinlldchdpaaGreatDoor.Sta

theorem map3 {f : Operand → Value} {x1 x2 x3 : Operand} {v1 v2 v3 : Value} (h1 : f x1 = v1) (h2 : f x2 = v2) (h3 : f x3 = v3) : #[x1, x2, x3].map f = #[v1, v2, v3] := by simp [h1, h2, h3]

set_option maxHeartbeats 1000000 in
theorem awake_as (w : World) (hT : Lv.Tab w) : Calls Tryz.prog 10 #[] w fun e w' => e = .returned (.bool true) ∧ Below w.heap.size w w' := by
  obtain ⟨Ze, hZe, _, hze, hie⟩ := zero_ep
  obtain ⟨G, hG, bG⟩ := ebuilt_0 isEn_p
  obtain ⟨D, hD, bD⟩ := Sta.built_b
  obtain ⟨B, hB⟩ : ∃ B, (⟨(pkt (fun _ => 0) (fun _ => 0) 10).toArray⟩ : ByteArray) = B := ⟨_, rfl⟩
  have hlen : B.size = 10 := by
    rw [← hB]
    show (pkt (fun _ => 0) (fun _ => 0) 10).toArray.size = 10
    rw [List.size_toArray]; exact pkt_length re_zero (by omega) (by omega)
  have HEN := Lib.hid (as_E (encode_yes G D (fun _ => 0) (fun _ => 0) 10 B w hG hD (by omega) (by omega) re_zero (fun _ _ => by dsimp only; omega) hB hT) (by rw [nx_none 10 fun _ _ => rfl]; exact hG))
  have e1 := en_eq_p hG hG (fun _ _ => rfl)
  have HG := Lib.hid hG
  have HD := Lib.hid hD
  have HBG := Lib.hid bG
  have HBD := Lib.hid bD
  have HIE := Lib.hid hie
  have HZE := Lib.hid hZe.1
  clear hT hG hD bG bD hie hZe hB
  go_enter Tryz.func10, Tryz.ntmps10
  go_wp2_with (first
    | refine wpList_build_parts (by rfl) 36 [] rfl _ rfl HBG.out ?_
    | refine wpList_build_parts (by rfl) 32 [] rfl _ rfl HBD.out ?_)
  refine HEN.out.mono ?_
  rintro e W1 ⟨rfl, hb⟩
  have HB := Lib.hid hb
  clear hb
  go_wp2_with (first
    | (refine wpList_store_row rfl 36 _ _ rfl W1.heap.size G rfl rfl _ _ (heap_alloc_new _ _) (HIE.out _ HG.out.1) (by rw [HZE.out, HG.out.1]) HG.out.2.1 ?_; rw [World.setRow_alloc_new]
       have HB2 := Lib.hid (HB.out.alloc HB.out.size (.cells G 36))
       have HA := Lib.hid (At.new W1 G 36)
       revert HB2 HA
       generalize W1.heap.size = b1
       generalize World.alloc _ _ = W2
       intro HB2 HA)
    | refine wpList_load_all (by rfl) 36 _ rfl b1 rfl HG.out HA.out Tryz.underlying36 rfl HIE.out ?_
    | refine wpList_build_parts (by rfl) 36 [] rfl _ rfl HBG.out ?_)
  go_ret
  exact ⟨rfl, HB2.out⟩

theorem run_assign {o : Oper} {a : Act} {w : World} {y : Operand} {v : Value} (ho : o.op = .assign y) (hy : a.eval y = v) : (execOp a.eval o).run Tryz.prog w = .ok (.value v) w := by
  unfold execOp; simp only [ho, hy]; rfl
/-- A slice of one row of sixteen numbers written out. -/
theorem run_slice16 {f : Nat → Int} {R : Array Value} (hR : IsRow 16 f R) (w : World) :
    (Instr.buildSlice 31 1 #[(0, .agg R)]).run Tryz.prog w = .ok (.slice (some ⟨w.heap.size, 0, none⟩) 1 1) (w.alloc (.cells R 22)) := by
  obtain ⟨Z, hZ, _, hz, hi⟩ := zero_a
  have hsz : ∀ w, (sizeOf 22).run Tryz.prog w = .ok 16 w := fun w => by
    have h : (Tryz.prog.info? 22).map (·.size) = some 16 := by kernel_rfl
    cases hq : Tryz.prog.info? 22 with
    | none => rw [hq] at h; cases h
    | some i =>
      rw [hq] at h
      injection h with h
      simp [sizeOf, typeInfo, hq, h]
  have r1 : Instr.fill (fun i => some (i * 16, 16)) ((Array.range (1 * 16)).map (Z[· % Z.size]!)) [(0, .agg R)] = some R := by
    obtain ⟨p1, p2⟩ := fold_lay R.toList 0 0 ((Array.range (1 * 16)).map (Z[· % Z.size]!))
    rw [fill_step (l := 0) (n := 16) rfl (by exact hR.1) (by simp)]
    show some _ = some _
    congr 1
    rw [show (Value.agg R).cells = R from rfl]
    refine (isRow_of (f := f) (by rw [p1]; simp) fun k hk => ?_).eq hR fun _ _ => rfl
    have := p2 k (by simp; exact hk)
    rw [this, if_pos (by rw [Array.length_toList, hR.1]; omega)]
    simp only [Nat.add_zero, Nat.sub_zero, Array.getElem?_toList]
    exact hR.2.2 k hk
  have hlt : ¬ (1 * 16 > 2 ^ 24) := by omega
  have h0 : ¬ (1 * 16 = 0) := by omega
  unfold Instr.buildSlice
  simp only [Sem.run_bind, run_underlying Tryz.underlying31, Result.andThen_ok, hsz, hlt, h0, if_false, hz, Value.cells, Sem.run_pure, r1]
  rfl
theorem wpList_slice16 {ops : Array Oper} {rest : List Oper} {o : Oper} {a : Act} {w : World} {Q : Exit → Act → World → Prop} (hgd : o.guard = none) (x : Operand) (ho : o.op = .buildSlice 31 1 #[(0, x)]) {f : Nat → Int} {R : Array Value} (hx : a.eval x = .agg R) (hR : IsRow 16 f R)
    (h : wpList Tryz.prog ops Q rest (a.put o.dst (.slice (some ⟨w.heap.size, 0, none⟩) 1 1)) (w.alloc (.cells R 22))) : wpList Tryz.prog ops Q (o :: rest) a w := by
  refine wpList_plain hgd fun K hK => ?_
  unfold Oper.wp execOp
  have hv : (#[(0, x)] : Array (Nat × Operand)).map (fun (i, x) => (i, a.eval x)) = #[(0, .agg R)] := by simp [hx]
  simp only [ho, hv, run_slice16 hR, Sem.run_bind, Result.andThen_ok, Sem.run_pure]
  exact hK _ _ h
theorem slR_one {w : World} {b : Nat} {R : Array Value} {x : Nat → Int} {t : TypeId} (hR : IsRow 16 x R) (hA : At w b R t) : SlR w (some ⟨b, 0, none⟩) 1 1 (fun _ => x) :=
  ⟨Nat.le_refl _, by unfold maxLen; omega, fun _ => ⟨b, 0, rfl, fun i hi j hj => by
    obtain rfl : i = 0 := by omega
    simpa using hR.cell hA j hj⟩⟩
/-- One frame's samples. -/
def smF (x : Nat → Int) : Nat → Int := fun j => smp (x j)
theorem smF_snd (x : Nat → Int) : Snd (smF x) := fun j _ => smp_bd _
theorem frames_one (b : Nat) (R : Array Value) (x : Nat → Int) (t : TypeId) (w : World) (hR : IsRow 16 x R) (hA : At w b R t) :
    Calls Tryz.prog 11 #[.slice (some ⟨b, 0, none⟩) 1 1] w fun e w' => ∃ g c, e = .returned (.slice (some ⟨g, 0, none⟩) 1 c) ∧ Bks w' w.heap.size (some ⟨g, 0, none⟩) 1 c (fun _ => smF x) ∧ Below w.heap.size w w' := by
  refine (frames_as (some ⟨b, 0, none⟩) 1 1 (fun _ => x) w (slR_one hR hA)).mono ?_
  rintro e w' ⟨a, c, rfl, hB, hb⟩
  obtain ⟨g, rfl, _⟩ := hB.addr (by decide)
  exact ⟨g, c, rfl, hB.ext fun i _ j _ => rfl, hb⟩
theorem enter_encode (args : Array Value) (w : World) : (callFunc 12 args).run Tryz.prog w = .ok (.enter 12 args) w := run_enter Tryz.func12 (by kernel_rfl) rfl args w
/-- The size that a law asks for. -/
theorem law_size {z : Int} (h0 : 0 ≤ z) (h1 : z ≤ 255) : ∃ I m : Nat, z.tmod 23 = I ∧ I < 23 ∧ (10 : Int) + I = m ∧ 10 ≤ m ∧ m ≤ 32 := by
  have h2 := Int.emod_nonneg z (show (23 : Int) ≠ 0 by omega)
  have h3 := Int.emod_lt_of_pos z (show (0 : Int) < 23 by omega)
  refine ⟨(z % 23).toNat, 10 + (z % 23).toNat, ?_, by omega, by omega, by omega, by omega⟩
  rw [Int.tmod_eq_emod_of_nonneg h0]; omega
end Go.Proofs.YtfohinlldchdpaaGreatDoor.En
end

section
/- More that operations of a region yield; what stage 15's laws compare. -/
set_option maxRecDepth 100000
set_option linter.unusedVariables false
namespace Go.Proofs.YtfohinlldchdpaaGreatDoor.En
open Go.RowKit Go.Proofs.YtfohinlldchdpaaGreatDoor.Row Go.Proofs.YtfohinlldchdpaaGreatDoor.Rg Go.Proofs.YtfohinlldchdpaaGreatDoor.Md Go.Proofs.YtfohinlldchdpaaGreatDoor.Tl Go.Proofs.YtfohinlldchdpaaGreatDoor.Sta

section
variable {ops : Array Oper} {S : World → Prop} {a : Act} {oi : Oper}
theorem y_cv {y : Operand} {z : Int} (hw : Region.wanted oi (yielded ops a.tmps) = true) (ho : oi.op = .convert 5 3 y) (hy : a.eval y = .int .u8 z) (h0 : 0 ≤ z) (h1 : z ≤ 255) : YieldsIf Tryz.prog ops S oi (.int .i64 z) a :=
  y_run hw fun w => by
    have h2 : IntKind.i64.wrap z = z := IntWalk.i64_in _ (by omega)
    unfold execOp
    simp only [ho, hy]
    simp [go_sem, h2]
theorem y_rem {t t' : TypeId} {y z : Operand} {m n r : Int} (hw : Region.wanted oi (yielded ops a.tmps) = true) (ho : oi.op = .binOp .rem t y z t') (hy : a.eval y = .int .i64 m) (hz : a.eval z = .int .i64 n) (hn : n ≠ 0) (hr : m.tmod n = r) : YieldsIf Tryz.prog ops S oi (.int .i64 r) a :=
  y_run hw fun w => by
    unfold execOp
    simp only [ho, hy, hz]
    simp [go_sem, hn, hr]
theorem y_eqs {t' : TypeId} {y z : Operand} {B : ByteArray} (hw : Region.wanted oi (yielded ops a.tmps) = true) (ho : oi.op = .binOp .eql 9 y z t') (hy : a.eval y = .string B) (hz : a.eval z = .string B) : YieldsIf Tryz.prog ops S oi (.bool true) a :=
  y_run hw fun w => by
    unfold execOp
    simp only [ho, hy, hz]
    simp [go_sem]
end

/-- The levels then are those of the frame's waves. -/
theorem nx_lev {f b : Nat → Int} {m : Nat} (hf : Re f) {k : Nat} (hk : k < 4) : nxE f b m (34 + k) = lvE f b k := by
  have hA := lvA_ok hf
  have hE := lvE_ok f b
  have eA : (fun i => stE f (17 + i)) = lvA f := by
    funext i
    unfold stE lvA
    rw [show 17 + (17 + i) = 34 + i by omega]
  rw [show 34 + k = 17 + (17 + k) by omega]
  unfold nxE
  rw [enF_state]
  unfold De.nxD nxF
  rw [stF_lev _ _ _ _ _ hk, eA]
  unfold pkt
  rw [fE_is, lB_met hA hE hk]
theorem as_B {fn : FuncId} {args : Array Value} {R : Array Value} {h : Nat → Int} {k : Nat} {w : World} (H : Calls Tryz.prog fn args w fun e w' => Lv.RetBlk k w w' e h) (hR : IsRow k h R) :
    Calls Tryz.prog fn args w fun e w' => e = .returned (.agg R) ∧ Below w.heap.size w w' := by
  refine H.mono ?_
  rintro e w' ⟨R', rfl, hR', hb⟩
  obtain rfl := hR'.eq hR fun _ _ => rfl
  exact ⟨rfl, hb⟩
theorem enter_lift (args : Array Value) (w : World) : (callFunc 21 args).run Tryz.prog w = .ok (.enter 21 args) w := run_enter Tryz.func21 (by kernel_rfl) rfl args w
theorem enter_levels (args : Array Value) (w : World) : (callFunc 22 args).run Tryz.prog w = .ok (.enter 22 args) w := run_enter Tryz.func22 (by kernel_rfl) rfl args w
theorem enter_eright (args : Array Value) (w : World) : (callFunc 14 args).run Tryz.prog w = .ok (.enter 14 args) w := run_enter Tryz.func14 (by kernel_rfl) rfl args w
theorem enter_rright (args : Array Value) (w : World) : (callFunc 17 args).run Tryz.prog w = .ok (.enter 17 args) w := run_enter Tryz.func17 (by kernel_rfl) rfl args w
end Go.Proofs.YtfohinlldchdpaaGreatDoor.En
end

section
/- What stage 15's laws on rows of frames share. -/
set_option maxRecDepth 100000
set_option linter.unusedVariables false
namespace Go.Proofs.YtfohinlldchdpaaGreatDoor.En
open Go.RowKit Go.Proofs.YtfohinlldchdpaaGreatDoor.Row Go.Proofs.YtfohinlldchdpaaGreatDoor.Rg Go.Proofs.YtfohinlldchdpaaGreatDoor.Md Go.Proofs.YtfohinlldchdpaaGreatDoor.Tl Go.Proofs.YtfohinlldchdpaaGreatDoor.Sta

theorem Bks.slr {w : World} {B n c : Nat} {a : Option Addr} {F : Nat → Nat → Int} (h : Bks w B a n c F) : SlR w a n c F :=
  ⟨h.cap.1, h.cap.2, fun hn => by
    obtain ⟨g, rfl, _⟩ := h.addr hn
    exact ⟨g, 0, rfl, fun i hi j hj => by rw [Nat.zero_add]; exact h.cell hi hj⟩⟩
theorem SlR.cut {w : World} {n c k : Nat} {a : Option Addr} {F : Nat → Nat → Int} (h : SlR w a n c F) (hk : k ≤ n) : SlR w a k c F :=
  ⟨Nat.le_trans hk h.1, h.2.1, fun h0 => by
    obtain ⟨b, o, e, hc⟩ := h.2.2 (by omega)
    exact ⟨b, o, e, fun i hi => hc i (by omega)⟩⟩
theorem size_string (w : World) : (sizeOf 9).run Tryz.prog w = .ok 1 w := by
  obtain ⟨i, h1, _, h2, _⟩ := info_string
  simp [sizeOf, typeInfo, h1, h2]
theorem run_sx {g n c k : Nat} (hk : k < n) (w : World) :
    (Instr.indexAt 43 (.slice (some ⟨g, 0, none⟩) n c) (.int .i64 k)).run Tryz.prog w = .ok (.pointer (some ⟨g, k, none⟩)) w := by
  have h : (0 : Int) ≤ (k : Int) ∧ (k : Int) < (n : Int) := by omega
  unfold Instr.indexAt
  simp only [Sem.run_bind, asIntOf, Sem.run_pure, Result.andThen_ok, run_underlying Tryz.underlying43, if_pos h, size_string]
  simp only [Addr.add, Int.toNat_natCast, Nat.zero_add, Nat.mul_one]
  split <;> simp_all
section
variable {ops : Array Oper} {S : World → Prop} {a : Act} {oi : Oper}
theorem y_sx {y z : Operand} {g n c k : Nat} {x : Int} (hw : Region.wanted oi (yielded ops a.tmps) = true) (ho : oi.op = .indexAddr 43 y z) (hy : a.eval y = .slice (some ⟨g, 0, none⟩) n c) (hz : a.eval z = .int .i64 x)
    (hx : x = k) (hk : k < n) : YieldsIf Tryz.prog ops S oi (.pointer (some ⟨g, k, none⟩)) a :=
  y_run hw fun w => by
    subst hx
    unfold execOp
    simp only [ho, hy, hz, run_sx hk, Sem.run_bind, Result.andThen_ok, Sem.run_pure]
theorem run_cellB {w : World} {p : Addr} {B : ByteArray} (h : w.cell? p = some (.string B)) : (Instr.loadAt 9 (.pointer (some p))).run Tryz.prog w = .ok (.string B) w := by
  simp [Instr.loadAt, Instr.sureAddr, loadVar, isAgg, run_underlying Tryz.underlying9, h, go_sem]
theorem y_cellB {y : Operand} {p : Addr} {B : ByteArray} (hw : Region.wanted oi (yielded ops a.tmps) = true) (ho : oi.op = .load 9 y) (hy : a.eval y = .pointer (some p))
    (hc : ∀ w, S w → w.cell? p = some (.string B)) : YieldsIf Tryz.prog ops S oi (.string B) a :=
  .inl ⟨hw, fun w hw' => by
    unfold execOp
    simp only [ho, hy, run_cellB (hc w hw'), Sem.run_bind, Sem.run_pure, Result.andThen_ok]⟩
end
theorem pkB_size {F : Nat → Nat → Int} {m : Nat} (hF : ∀ i, Snd (F i)) (h10 : 10 ≤ m) (h32 : m ≤ 32) (k : Nat) : (pkB F m k).size = m := by
  show (pkS F m (fun _ => 0) k).toArray.size = m
  rw [List.size_toArray]; exact pkt_length (enZ_re hF k) h10 h32
theorem Sgs.row {w : World} {B n c b : Nat} {a : Option Addr} {G : Nat → ByteArray} (h : Sgs w B a n c G) (C : Array Value) (hb : ∀ g, (Value.slice a n c).ownBlock = some g → g ≠ b) : Sgs (w.setRow b C) B a n c G :=
  h.keep fun g hg => by
    have hne : b ≠ g := fun e => hb g hg e.symm
    unfold World.setRow
    simp [Array.getElem?_modify, hne]
/-- Decode of the k-th packet behind the k-th state. -/
theorem decode_k {F : Nat → Nat → Int} {m k : Nat} {Sx X Y : Array Value} (hF : ∀ i, Snd (F i)) (h10 : 10 ≤ m) (h32 : m ≤ 32) (hS : IsRow 38 (stE (enZ F m k)) Sx)
    (hX : IsRow 16 (De.soD (byteF (pkS F m (fun _ => 0) k)) (stE (enZ F m k)) m) X) (hY : IsRow 38 (stE (enZ F m (k + 1))) Y) (w : World) (hT : Lv.Tab w) :
    Calls Tryz.prog 16 #[.agg Sx, .string (pkB F m k)] w fun e w' => e = .returned (.tuple #[.agg X, .agg Y, .int .i64 0]) ∧ Below w.heap.size w w' := by
  refine (De.decode_yes Sx (stE (enZ F m k)) (pkB F m k) (pkS F m (fun _ => 0) k) m w hS rfl (pkB_size hF h10 h32 k) ⟨h10, h32⟩ (enZ_re hF k).2.2 hT).mono ?_
  rintro e w'' ⟨⟨R', Q', rfl, hR', hQ''⟩, hb⟩
  obtain rfl := hR'.eq hX fun _ _ => rfl
  obtain rfl := hQ''.eq hY fun i _ => by
    show _ = stE (enS F m (fun _ => 0) (k + 1)) i
    rw [enS_st]; rfl
  exact ⟨rfl, hb⟩
theorem enter_decode (args : Array Value) (w : World) : (callFunc 16 args).run Tryz.prog w = .ok (.enter 16 args) w := run_enter Tryz.func16 (by kernel_rfl) rfl args w
theorem Bks.row {w : World} {B n c b : Nat} {a : Option Addr} {F : Nat → Nat → Int} (h : Bks w B a n c F) (C : Array Value) (hb : ∀ g, (Value.slice a n c).ownBlock = some g → g ≠ b) : Bks (w.setRow b C) B a n c F := by
  obtain ⟨h1, h2 | ⟨g, cap, cur, e, h3, h4, h5⟩⟩ := h
  · exact ⟨h1, .inl h2⟩
  · refine ⟨h1, .inr ⟨g, cap, cur, e, h3, ?_, h5⟩⟩
    have hne : b ≠ g := fun e' => hb g (by rw [e]; rfl) e'.symm
    rw [← h4]
    unfold World.setRow
    simp [Array.getElem?_modify, hne]
/-- 'frames[:k]'. -/
theorem run_upto {a : Option Addr} {n c k : Nat} (hk : k ≤ n) (hc : n ≤ c) (w : World) :
    (Instr.sliceAt 29 (.slice a n c) none (some (.int .i64 k)) none).run Tryz.prog w = .ok (.slice a k c) w := by
  have hu : Tryz.prog.underlying 29 = some (.slice (Tryz.prog.elem 29)) := by kernel_rfl
  have he : Tryz.prog.elem 29 = 32 := by kernel_rfl
  rw [run_sliceAt_slice w 29 _ _ _ _ hu, run_slice_h (P := Tryz.prog) (w := w) (t := 29) (a := a) (len := n) (cap := c) (ht := hu) .i64 k (by omega) (by omega), he, size_block]
  simp only [Result.andThen_ok, sliced, Int.toNat_natCast, Nat.zero_mul, Nat.sub_zero]
  congr 2
  split
  · rfl
  · cases a with
    | none => rfl
    | some x => simp [Addr.add]
theorem snd_zero : ∀ i : Nat, Snd ((fun _ _ => 0 : Nat → Nat → Int) i) := fun _ _ _ => by dsimp only; omega
/-- One frame of sound, then nothing. -/
def oneF (x : Nat → Int) : Nat → Nat → Int := thenZ 1 fun _ => smF x
theorem oneF_snd (x : Nat → Int) (i : Nat) : Snd (oneF x i) := fun j hj => by
  unfold oneF thenZ
  split
  · exact smF_snd x j hj
  · omega
theorem oneF_rest (x : Nat → Int) (i j : Nat) (h : 1 ≤ i) (_ : j < 16) : oneF x i j = 0 := by unfold oneF thenZ; rw [if_neg (by omega)]
/-- The sound of the packet ahead. -/
noncomputable def soK (F : Nat → Nat → Int) (m : Nat) : Nat → Nat → Int
  | 0 => fun _ => 0
  | k + 1 => De.soD (byteF (pkS F m (fun _ => 0) k)) (stE (enZ F m k)) m
theorem soK_none (m k : Nat) (i : Nat) (hi : i < 16) : soK (fun _ _ => 0) m (k + 1) i = 0 := by
  show De.soD (byteF (pkS (fun _ _ => 0) m (fun _ => 0) k)) (stE (enZ (fun _ _ => 0) m k)) m i = 0
  unfold pkS enZ
  rw [enS_none (fun _ _ _ => rfl) k]
  exact so_none (fun _ _ => rfl) i hi
theorem enZ_none (m k : Nat) : enZ (fun _ _ => 0) m k = fun _ => 0 := enS_none (fun _ _ _ => rfl) k
theorem soK_quiet (x : Nat → Int) (m : Nat) (i : Nat) (hi : i < 16) : soK (oneF x) m 61 i = 0 :=
  en_quiet re_zero (oneF_snd x) (oneF_rest x) (k := 60) (by omega) i hi
end Go.Proofs.YtfohinlldchdpaaGreatDoor.En
end

section
/- EncSilence: the walk. Written by g46.py. -/
set_option maxRecDepth 100000
set_option linter.unusedVariables false
namespace Go.Proofs.YtfohinlldchdpaaGreatDoor.En
open Go.RowKit Go.Proofs.YtfohinlldchdpaaGreatDoor.Row Go.Proofs.YtfohinlldchdpaaGreatDoor.Rg Go.Proofs.YtfohinlldchdpaaGreatDoor.Md Go.Proofs.YtfohinlldchdpaaGreatDoor.Tl Go.Proofs.YtfohinlldchdpaaGreatDoor.Sta

set_option maxHeartbeats 4000000 in
theorem encSilence_walk (T : Array Value) (x : Nat → Int) (z y : Int) (w : World) (hT : IsRow 16 x T) (h0 : 0 ≤ z) (h1 : z ≤ 255) (hy0 : 0 ≤ y) (hy1 : y ≤ 255) (hTab : Lv.Tab w) :
    Calls Tryz.prog 5 #[.agg T, .int .u8 z, .int .u8 y] w fun e w' => e = .returned (.bool true) ∧ Below w.heap.size w w' := by
  obtain ⟨Ze, hZe, _, hze, hie⟩ := zero_ep
  obtain ⟨Zp, hZp, _, hzp, hip⟩ := zero_p
  obtain ⟨Zb, hZb, _, hzb, hib⟩ := zero_b
  obtain ⟨I, m, htz, hI, hm, h10, h32⟩ := law_size h0 h1
  obtain ⟨_, _, _, _, hia⟩ := zero_a
  obtain ⟨G, hG, bG⟩ := ebuilt_0 isEn_p
  obtain ⟨D, hD, bD⟩ := Sta.built_b
  obtain ⟨E, hE, bE⟩ := Sta.built_0 isSt_p
  obtain ⟨K, hK⟩ : ∃ K : Nat, y % 20 = K := ⟨(y % 20).toNat, by have := Int.emod_nonneg y (show (20 : Int) ≠ 0 by omega); omega⟩
  have hK20 : K < 20 := by have := Int.emod_lt_of_pos y (show (0 : Int) < 20 by omega); omega
  have hty : y.tmod 20 = K := by rw [Int.tmod_eq_emod_of_nonneg hy0]; exact hK
  obtain ⟨F, hF⟩ : ∃ F : Nat → Nat → Int, F = fun _ _ => 0 := ⟨_, rfl⟩
  have HF := Lib.hid hF
  have HFS := Lib.hid (show ∀ i, Snd (F i) by rw [hF]; exact snd_zero)
  have HN3 := Lib.hid (show K ≤ 1000 by omega)
  have PT := Lib.hid (At.new w T 22)
  have HD := Lib.hid ((Below.refl w.heap.size w).alloc (Nat.le_refl _) (.cells T 22))
  have HIE := Lib.hid hie
  have HIP := Lib.hid hip
  have HIB := Lib.hid hib
  have HZE := Lib.hid hZe.1
  have HZP := Lib.hid hZp
  have HZB := Lib.hid hZb.1
  have HM := Lib.hid hm
  have HTAB := Lib.hid hTab
  have HT := Lib.hid hT
  have HIA := Lib.hid hia
  have HG := Lib.hid hG
  have HBG := Lib.hid bG
  have HDD := Lib.hid hD
  have HBD := Lib.hid bD
  have HE := Lib.hid hE
  have HBE := Lib.hid bE
  have hZb0 := Lib.hid hZb
  clear hie hip hib hZe hZp hZb hm hTab hT hK hF hia hG bG hD bD hE bE
  go_enter Tryz.func5, Tryz.ntmps5
  go_wp2_with fail
  revert HD PT
  generalize World.alloc _ _ = W0
  intro PT HD
  refine (awake_as _ (HTAB.out.next HD.out)).mono ?_
  rintro e W1 ⟨rfl, hb⟩
  replace HD := Lib.hid (below_trans HD.out hb HD.out.size)
  replace PT := Lib.hid (PT.out.below hb PT.out.lt)
  clear hb W0
  go_wp2_with (refine wpList_make_blocks rfl _ _ rfl 0 K rfl rfl (by omega) (Nat.zero_le _) ?_
               intro w2 hK2 hb
               have HK := Lib.hid hK2
               replace HD := Lib.hid (below_trans HD.out hb HD.out.size)
               replace PT := Lib.hid (PT.out.below hb PT.out.lt)
               clear hb hK2
               revert HK
               generalize W1.heap.size = gz
               intro HK
               clear W1)
  rw [HM.out]
  rw [← HF.out] at HK
  refine (all_yes _ K _ m F _ (Bks.slr HK.out) HFS.out h10 h32 HN3.out (HTAB.out.next HD.out)).mono ?_
  rintro e W3 ⟨v, d, Q, rfl, hQ, hS, hb⟩
  have HQ := Lib.hid hQ
  have HSv := Lib.hid hS
  replace HD := Lib.hid (below_trans HD.out hb HD.out.size)
  replace PT := Lib.hid (PT.out.below hb PT.out.lt)
  clear hb hQ hS
  go_wp2_with (first
    | (refine wpList_store_row rfl 36 _ _ rfl W3.heap.size Q rfl rfl _ _ (heap_alloc_new _ _) (HIE.out _ HQ.out.1) (by rw [HZE.out, HQ.out.1]) HQ.out.2.1 ?_; rw [World.setRow_alloc_new]
       have hb := (Below.refl W3.heap.size W3).alloc (Nat.le_refl _) (.cells Q 36)
       have HOv := Lib.hid (fun g (hg : (Value.slice v K d).ownBlock = some g) => (HSv.out.block g hg).2)
       replace HD := Lib.hid (below_trans HD.out hb HD.out.size)
       replace HSv := Lib.hid (HSv.out.below hb)
       replace PT := Lib.hid (PT.out.below hb PT.out.lt)
       have PQ := Lib.hid (At.new W3 Q 36)
       clear hb
       revert HOv HD HSv PT PQ
       generalize W3.heap.size = bQ
       generalize World.alloc _ _ = W4
       intro HOv HD HSv PT PQ
       clear W3
       have e0 := en_eq_p HQ.out HG.out (fun i _ => by rw [HF.out, enZ_none]))
    | refine wpList_load_all (by rfl) 36 _ rfl bQ rfl HQ.out PQ.out Tryz.underlying36 rfl HIE.out ?_
    | refine wpList_build_parts (by rfl) 36 [] rfl _ rfl HBG.out ?_)
  have HSx := Lib.hid (show IsRow 38 (stE (enZ F m 0)) Zp from HZP.out)
  have hb := (Below.refl W4.heap.size W4).alloc (Nat.le_refl _) (.cells Zp 34)
  have hEs := PQ.out.lt
  have HSB := Lib.hid (show w.heap.size ≤ W4.heap.size from HD.out.size)
  have hTs := PT.out.lt
  replace HD := Lib.hid (below_trans HD.out hb HD.out.size)
  replace HSv := Lib.hid (HSv.out.below hb)
  replace PT := Lib.hid (PT.out.below hb PT.out.lt)
  have PS := Lib.hid (At.new W4 Zp 34)
  clear hb HK PQ
  revert hEs HSB hTs HD HSv PT PS
  generalize W4.heap.size = bS
  generalize World.alloc _ _ = W5
  intro hEs HSB hTs HD HSv PT PS
  clear W4
  go_loopw [13] (fun i w' => ∃ (k : Nat) (Sx : Array Value), k ≤ K ∧ i = .int .i64 k ∧ Hid (IsRow 38 (stE (enZ F m k)) Sx) ∧ Hid (Below w.heap.size w w') ∧ Hid (At w' w.heap.size T 22) ∧ Hid (At w' bS Sx 34) ∧ Hid (Sgs w' 0 v K d (pkB F m))) (fun i _ => K - (intOf i).toNat)
  case atStart => exact ⟨0, Zp, Nat.zero_le _, rfl, HSx, HD, PT, PS, Lib.hid (HSv.out.wide (Nat.zero_le _))⟩
  case round =>
    obtain ⟨k, Sx, hk, rfl, HSx2, HD2, PT2, PS2, HSv2⟩ := hrel
    clear HSx HD PT PS HSv
    by_cases hlt : k < K
    · have k1 : (k : Int) < K := by omega
      have kb : (k : Int) < 1000 := by omega
      obtain ⟨g, rfl, _⟩ := HSv2.out.addr (by omega)
      obtain ⟨P, hP⟩ : ∃ P, pkB F m k = P := ⟨_, rfl⟩
      have hcell := HSv2.out.cell hlt
      rw [hP] at hcell
      have HCE := Lib.hid hcell
      obtain ⟨X, hX⟩ : ∃ X, IsRow 16 (soK F m (k + 1)) X := ⟨_, isRow _ _⟩
      obtain ⟨Y, hY⟩ : ∃ X, IsRow 38 (stE (enZ F m (k + 1))) X := ⟨_, isRow _ _⟩
      have HDE := Lib.hid (fun w' hT => decode_k HFS.out h10 h32 HSx2.out hX hY w' hT)
      rw [hP] at HDE
      have HX := Lib.hid hX
      have HY := Lib.hid hY
      have HTW := Lib.hid (HTAB.out.next HD2.out)
      have hix := fun w => run_sx (g := g) (c := d) hlt w
      have e5 := rows_eq hX HDD.out (fun i hi => by rw [HF.out]; exact soK_none m k i hi) Tryz.underlying32
      clear hP hX hY hcell
      go_wp2_with fail
      refine mv_start fun hS => ?_
      refine mv_yield (i := 0) (d := 57) (.agg Sx) rfl rfl (by kernel_rfl) (by kernel_rfl) (by kernel_rfl) hS (y_load_part (l := 0) (by rfl) rfl rfl HSx2.out (fun w' h => PS2.out.below h PS2.out.lt) HSx2.out (by omega) (fun i _ => by first | rfl | rw [Nat.zero_add]) Tryz.underlying34 rfl (HIP.out _ HSx2.out.1)) ?_
      simp only [Act.put, List.setIfInBounds_toArray, List.set_cons_zero, List.set_cons_succ]
      refine mv_yield (i := 1) (d := 58) (.slice (some ⟨g, 0, none⟩) K d) rfl rfl (by kernel_rfl) (by kernel_rfl) (by kernel_rfl) hS (y_run (by rfl) fun _ => by rfl) ?_
      simp only [Act.put, List.setIfInBounds_toArray, List.set_cons_zero, List.set_cons_succ]
      refine mv_yield (i := 2) (d := 59) (.int .i64 k) rfl rfl (by kernel_rfl) (by kernel_rfl) (by kernel_rfl) hS (y_run (by rfl) fun _ => by rfl) ?_
      simp only [Act.put, List.setIfInBounds_toArray, List.set_cons_zero, List.set_cons_succ]
      refine mv_yield (i := 3) (d := 60) (.pointer (some ⟨g, k, none⟩)) rfl rfl (by kernel_rfl) (by kernel_rfl) (by kernel_rfl) hS (y_sx (by rfl) rfl rfl rfl rfl hlt) ?_
      simp only [Act.put, List.setIfInBounds_toArray, List.set_cons_zero, List.set_cons_succ]
      refine mv_yield (i := 4) (d := 61) (.string P) rfl rfl (by kernel_rfl) (by kernel_rfl) (by kernel_rfl) hS (y_cellB (by rfl) rfl rfl (fun w' h => (Below.cell h (block_lt_of_cell HCE.out)).trans HCE.out)) ?_
      simp only [Act.put, List.setIfInBounds_toArray, List.set_cons_zero, List.set_cons_succ]
      refine parM0 (fuel := 3) [5, 6, 7, 8, 9, 10, 11] [5, 6, 7, 10, 11] [8, 9] (fun i => i == 10 || i == 11) (fun i => if i = 5 then .tuple #[.agg X, .agg Y, .int .i64 0] else if i = 6 then .tuple #[.agg X, .agg Y, .int .i64 0] else if i = 7 then .agg X else if i = 8 then .agg Y else .int .i64 0) (fun i => if i = 10 then Zb else Zp) (fun i => if i = 10 then 32 else 34) #[true, true, true, true, true, true, true, true, true, true, true, true, false, false, false] _ rfl (by decide) (by decide) (by decide) (by decide) rfl (by kernel_rfl) (by kernel_rfl) (by kernel_rfl) (by kernel_rfl) (by kernel_rfl) (by kernel_rfl) (by kernel_rfl) (by kernel_rfl) hS ?_ ?_ ?_
      · intro i hi
        simp only [List.mem_cons, List.not_mem_nil, or_false] at hi
        rcases hi with rfl | rfl | rfl | rfl | rfl | rfl | rfl
        · exact ⟨_, rfl, fun D val w' hw' hD hv => st_call (isA := fun i => i == 10 || i == 11) (V := fun i => if i = 5 then .tuple #[.agg X, .agg Y, .int .i64 0] else if i = 6 then .tuple #[.agg X, .agg Y, .int .i64 0] else if i = 7 then .agg X else if i = 8 then .agg Y else .int .i64 0) (Zc := fun i => if i = 10 then Zb else Zp) (ty := fun i => if i = 10 then 32 else 34) (i := 5) #[.agg Sx, .string P] rfl rfl rfl enter_decode (map2 (Eq.trans (part_other _ _ (by kernel_rfl)) rfl) (Eq.trans (part_other _ _ (by kernel_rfl)) rfl)) (HDE.out _ (HTW.out.next hw'))⟩
        · exact ⟨_, rfl, fun D val w' hw' hD hv => st_run (isA := fun i => i == 10 || i == 11) (V := fun i => if i = 5 then .tuple #[.agg X, .agg Y, .int .i64 0] else if i = 6 then .tuple #[.agg X, .agg Y, .int .i64 0] else if i = 7 then .agg X else if i = 8 then .agg Y else .int .i64 0) (Zc := fun i => if i = 10 then Zb else Zp) (ty := fun i => if i = 10 then 32 else 34) (i := 6) (run_move rfl (Eq.trans (part_eval 5 rfl (hD 5 (by decide +kernel) (by decide)) _ _ rfl (by kernel_rfl) (by kernel_rfl)) (hv 5 (by decide) (hD 5 (by decide +kernel) (by decide)) rfl))) rfl rfl⟩
        · exact ⟨_, rfl, fun D val w' hw' hD hv => st_run (isA := fun i => i == 10 || i == 11) (V := fun i => if i = 5 then .tuple #[.agg X, .agg Y, .int .i64 0] else if i = 6 then .tuple #[.agg X, .agg Y, .int .i64 0] else if i = 7 then .agg X else if i = 8 then .agg Y else .int .i64 0) (Zc := fun i => if i = 10 then Zb else Zp) (ty := fun i => if i = 10 then 32 else 34) (i := 7) (run_extract rfl (Eq.trans (part_eval 6 rfl (hD 6 (by decide +kernel) (by decide)) _ _ rfl (by kernel_rfl) (by kernel_rfl)) (hv 6 (by decide) (hD 6 (by decide +kernel) (by decide)) rfl)) rfl) rfl rfl⟩
        · exact ⟨_, rfl, fun D val w' hw' hD hv => st_run (isA := fun i => i == 10 || i == 11) (V := fun i => if i = 5 then .tuple #[.agg X, .agg Y, .int .i64 0] else if i = 6 then .tuple #[.agg X, .agg Y, .int .i64 0] else if i = 7 then .agg X else if i = 8 then .agg Y else .int .i64 0) (Zc := fun i => if i = 10 then Zb else Zp) (ty := fun i => if i = 10 then 32 else 34) (i := 8) (run_extract rfl (Eq.trans (part_eval 6 rfl (hD 6 (by decide +kernel) (by decide)) _ _ rfl (by kernel_rfl) (by kernel_rfl)) (hv 6 (by decide) (hD 6 (by decide +kernel) (by decide)) rfl)) rfl) rfl rfl⟩
        · exact ⟨_, rfl, fun D val w' hw' hD hv => st_run (isA := fun i => i == 10 || i == 11) (V := fun i => if i = 5 then .tuple #[.agg X, .agg Y, .int .i64 0] else if i = 6 then .tuple #[.agg X, .agg Y, .int .i64 0] else if i = 7 then .agg X else if i = 8 then .agg Y else .int .i64 0) (Zc := fun i => if i = 10 then Zb else Zp) (ty := fun i => if i = 10 then 32 else 34) (i := 9) (run_extract rfl (Eq.trans (part_eval 6 rfl (hD 6 (by decide +kernel) (by decide)) _ _ rfl (by kernel_rfl) (by kernel_rfl)) (hv 6 (by decide) (hD 6 (by decide +kernel) (by decide)) rfl)) rfl) rfl rfl⟩
        · exact ⟨_, rfl, fun D val w' hw' hD hv => st_alloc (isA := fun i => i == 10 || i == 11) (V := fun i => if i = 5 then .tuple #[.agg X, .agg Y, .int .i64 0] else if i = 6 then .tuple #[.agg X, .agg Y, .int .i64 0] else if i = 7 then .agg X else if i = 8 then .agg Y else .int .i64 0) (Zc := fun i => if i = 10 then Zb else Zp) (ty := fun i => if i = 10 then 32 else 34) (i := 10) rfl rfl rfl rfl hzb⟩
        · exact ⟨_, rfl, fun D val w' hw' hD hv => st_alloc (isA := fun i => i == 10 || i == 11) (V := fun i => if i = 5 then .tuple #[.agg X, .agg Y, .int .i64 0] else if i = 6 then .tuple #[.agg X, .agg Y, .int .i64 0] else if i = 7 then .agg X else if i = 8 then .agg Y else .int .i64 0) (Zc := fun i => if i = 10 then Zb else Zp) (ty := fun i => if i = 10 then 32 else 34) (i := 11) rfl rfl rfl rfl hzp⟩
      · intro i hi
        simp only [List.mem_cons, List.not_mem_nil, or_false] at hi
        rcases hi with rfl | rfl
        · exact ⟨rfl, _, rfl, fun D val hD hv => y_of_run (by rfl) (fun w' => run_extract rfl (Eq.trans (part_eval 6 rfl (hD 6 (by decide +kernel) (by decide)) _ _ rfl (by kernel_rfl) (by kernel_rfl)) (hv 6 (by decide) (hD 6 (by decide +kernel) (by decide)) rfl)) rfl)⟩
        · exact ⟨rfl, _, rfl, fun D val hD hv => y_of_run (by rfl) (fun w' => run_extract rfl (Eq.trans (part_eval 6 rfl (hD 6 (by decide +kernel) (by decide)) _ _ rfl (by kernel_rfl) (by kernel_rfl)) (hv 6 (by decide) (hD 6 (by decide +kernel) (by decide)) rfl)) rfl)⟩
      clear hS
      intro val w' hS hY
      have v5 : val 5 = .tuple #[.agg X, .agg Y, .int .i64 0] := (hY 5 (by simp)).1 rfl
      have v6 : val 6 = .tuple #[.agg X, .agg Y, .int .i64 0] := (hY 6 (by simp)).1 rfl
      have v7 : val 7 = .agg X := (hY 7 (by simp)).1 rfl
      have v8 : val 8 = .agg Y := (hY 8 (by simp)).1 rfl
      have v9 : val 9 = .int .i64 0 := (hY 9 (by simp)).1 rfl
      obtain ⟨b10, e10, a10, g10⟩ : ∃ b, val 10 = .pointer (some ⟨b, 0, none⟩) ∧ At w' b Zb 32 ∧ wr.heap.size ≤ b := (hY 10 (by simp)).2 rfl
      obtain ⟨b11, e11, a11, g11⟩ : ∃ b, val 11 = .pointer (some ⟨b, 0, none⟩) ∧ At w' b Zp 34 ∧ wr.heap.size ≤ b := (hY 11 (by simp)).2 rfl
      have n10_11 : b10 ≠ b11 := fun e => At.apart a10 a11 (by decide) e
      have n11_10 : b11 ≠ b10 := fun e => At.apart a11 a10 (by decide) e
      show wpAnyH _ _ _ _ _ _ _ (Act.put (Act.put (Act.put (Act.put (Act.put (Act.put (Act.put _ (some 62) (val 5)) (some 56) (val 6)) (some 63) (val 7)) (some 64) (val 8)) (some 65) (val 9)) (some 14) (val 10)) (some 15) (val 11)) _
      rw [v5, v6, v7, v8, v9, e10, e11]
      simp only [Act.put, List.setIfInBounds_toArray, List.set_cons_zero, List.set_cons_succ]
      clear hY v5 v6 v7 v8 v9 e10 e11
      refine mv_store (i := 12) b10 X _ rfl rfl (by kernel_rfl) (by rfl) rfl rfl rfl a10 (by rw [HZB.out, HX.out.1]) HX.out.2.1 (HIB.out _ HX.out.1) g10 hS (fun hS1 => ?_)
      refine mv_store (i := 13) b11 Y _ rfl rfl (by kernel_rfl) (by rfl) rfl rfl rfl (a11.setRow_other n11_10) (by rw [HZP.out.1, HY.out.1]) HY.out.2.1 (HIP.out _ HY.out.1) g11 hS1 (fun hS2 => ?_)
      clear hS hS1
      have PY := Lib.hid ((a11.setRow_other (C := X) n11_10).setRow (C := Y))
      have PX := Lib.hid ((a10.setRow (C := X)).setRow_other (C := Y) n10_11)
      have hS := hS2
      clear hS2
      refine mv_yield (i := 14) (d := 16) (.int .i64 0) rfl rfl (by kernel_rfl) (by kernel_rfl) (by kernel_rfl) hS (y_run (by rfl) fun _ => by rfl) ?_
      simp only [Act.put, List.setIfInBounds_toArray, List.set_cons_zero, List.set_cons_succ]
      refine mv_done (by kernel_rfl) ?_
      replace HD2 := Lib.hid (below_trans HD2.out hS HD2.out.size)
      have hSb := PS2.out.lt
      have hSx := g10
      replace PS2 := Lib.hid (PS2.out.below hS PS2.out.lt)
      replace HSv2 := Lib.hid (HSv2.out.below hS)
      replace PT2 := Lib.hid (PT2.out.below hS PT2.out.lt)
      have HCE2 := (Below.cell hS (block_lt_of_cell HCE.out)).trans HCE.out
      have g11' : bS < b11 := Nat.lt_of_lt_of_le hSb g11
      have g10' : bS < b10 := Nat.lt_of_lt_of_le hSb g10
      clear hS a10 a11 g10 g11 n10_11 n11_10 HTW HDE HCE hSb hSx
      revert PY PX HD2 PS2 HSv2 PT2 HCE2
      generalize World.setRow (World.setRow _ _ _) _ _ = W8
      intro PY PX HD2 PS2 HSv2 PT2 HCE2
      go_wp2_with (first
        | refine wpList_load_all (by rfl) 32 _ rfl b10 rfl HX.out PX.out Tryz.underlying32 rfl HIB.out ?_
        | refine wpList_build_parts (by rfl) 32 [] rfl _ rfl HBD.out ?_
        | refine wpList_load_all (by rfl) 34 _ rfl b11 rfl HY.out PY.out Tryz.underlying34 rfl HIP.out ?_
        | (refine wpList_store_row rfl 34 _ _ rfl bS Y rfl rfl _ _ PS2.out (HIP.out _ HY.out.1) (by rw [HSx2.out.1, HY.out.1]) HY.out.2.1 ?_
           have PS3 := Lib.hid (PS2.out.setRow (C := Y))
           have PT3 := Lib.hid (PT2.out.setRow_other (C := Y) (Nat.ne_of_lt hTs))
           have HD3 := Lib.hid (below_setRow' HD2.out HSB.out Y)
           have HSv3 := Lib.hid (Sgs.row HSv2.out Y fun g hg => Nat.ne_of_lt (Nat.lt_trans (HOv.out g hg) hEs))
           revert PS3 PT3 HD3 HSv3
           generalize World.setRow _ _ _ = W9
           intro PS3 PT3 HD3 HSv3))
      go_roundw
      case rel => exact ⟨k + 1, Y, by omega, by go_num, HY, HD3, PT3, PS3, HSv3⟩
      case measure => simp [intOf]; omega
    · obtain rfl : k = K := by omega
      clear HSv2 HFS HN3
      go_wp2_with (first
        | refine wpList_load_all (by rfl) 22 _ rfl w.heap.size rfl HT.out PT2.out Tryz.underlying22 rfl HIA.out ?_
        | (refine wpList_slice16 rfl _ rfl rfl HT.out ?_
           have hb := (Below.refl wr.heap.size wr).alloc (Nat.le_refl _) (.cells T 22)
           replace HD2 := Lib.hid (below_trans HD2.out hb HD2.out.size)
           replace PT2 := Lib.hid (PT2.out.below hb PT2.out.lt)
           replace PS2 := Lib.hid (PS2.out.below hb PS2.out.lt)
           have HA := Lib.hid (At.new wr T 22)
           clear hb
           revert HD2 PT2 PS2 HA
           generalize wr.heap.size = b6
           generalize World.alloc _ _ = W6
           intro HD2 PT2 PS2 HA))
      have hps6 := PS2.out.lt
      have hd6 := HD2.out.size
      refine (frames_one b6 T x _ W6 HT.out HA.out).mono ?_
      rintro e W7 ⟨gq, c, rfl, hK, hb⟩
      have HK1 := Lib.hid hK
      have hW67 := hb.size
      replace HD2 := Lib.hid (below_trans HD2.out hb HD2.out.size)
      replace PS2 := Lib.hid (PS2.out.below hb PS2.out.lt)
      clear hb hK HA PT2
      go_wp2_with (refine wpList_append_zeros rfl _ _ rfl W6.heap.size (fun _ => smF x) gq 1 c 60 rfl rfl HK1.out (by omega) (by omega) hW67 ?_
                   intro a8 c8 w8 hK8 hb8
                   have HK := Lib.hid (show Bks w8 0 a8 61 c8 (oneF x) from hK8.wide (Nat.zero_le _))
                   replace HD2 := Lib.hid (HD2.out.trans ⟨hb8.os, hb8.tape, hb8.output, hb8.size, fun k hk => hb8.block k (Nat.lt_of_lt_of_le hk hd6)⟩)
                   replace PS2 := Lib.hid (PS2.out.below hb8 hps6)
                   clear hb8 hK8 HK1)
      refine (all_yes _ 61 _ m (oneF x) _ (Bks.slr HK.out) (oneF_snd x) h10 h32 (by omega) (HTAB.out.next HD2.out)).mono ?_
      rintro e W13 ⟨u, r, R, rfl, hQ, hS, hb⟩
      have HR := Lib.hid hQ
      have HLu := Lib.hid (fun g (hg : (Value.slice u 61 r).ownBlock = some g) => Nat.ne_of_gt (Nat.lt_of_lt_of_le PS2.out.lt (hS.block g hg).1))
      have HSu := Lib.hid hS
      replace HD2 := Lib.hid (below_trans HD2.out hb HD2.out.size)
      replace PS2 := Lib.hid (PS2.out.below hb PS2.out.lt)
      have hps13 := PS2.out.lt
      clear hb hQ hS
      go_wp2_with (first
        | (refine wpList_store_row rfl 36 _ _ rfl W13.heap.size R rfl rfl _ _ (heap_alloc_new _ _) (HIE.out _ HR.out.1) (by rw [HZE.out, HR.out.1]) HR.out.2.1 ?_; rw [World.setRow_alloc_new]
           have hb := (Below.refl W13.heap.size W13).alloc (Nat.le_refl _) (.cells R 36)
           have HOu := Lib.hid (fun g (hg : (Value.slice u 61 r).ownBlock = some g) => (HSu.out.block g hg).2)
           replace HD2 := Lib.hid (below_trans HD2.out hb HD2.out.size)
           replace HSu := Lib.hid (HSu.out.below hb)
           replace PS2 := Lib.hid (PS2.out.below hb PS2.out.lt)
           have PR := Lib.hid (At.new W13 R 36)
           clear hb
           revert hps13 HOu HD2 HSu PS2 PR
           generalize W13.heap.size = bR
           generalize World.alloc _ _ = W14
           intro hps13 HOu HD2 HSu PS2 PR
           clear W13)
        | refine wpList_build_parts (by rfl) 34 [] rfl _ rfl HBE.out ?_
        | (refine wpList_store_row rfl 34 _ _ rfl bS E rfl rfl _ _ PS2.out (HIP.out _ HE.out.1) (by rw [HSx2.out.1, HE.out.1]) HE.out.2.1 ?_
           have PS3 := Lib.hid (PS2.out.setRow (C := E))
           have HD3 := Lib.hid (below_setRow' HD2.out HSB.out E)
           have HSu3 := Lib.hid (Sgs.row HSu.out E fun g hg => HLu.out g hg)
           have PR3 := Lib.hid (show ∃ A t, At (World.setRow _ bS E) bR A t from ⟨_, _, PR.out.setRow_other (C := E) (Nat.ne_of_gt hps13)⟩)
           clear PR HSu PS2 HD2
           revert PS3 HD3 HSu3 PR3
           generalize World.setRow _ _ _ = W15
           intro PS3 HD3 HSu3 PR3))
      have HSx := Lib.hid (show IsRow 38 (stE (enZ (oneF x) m 0)) E from HE.out)
      have HLx := Lib.hid (show IsRow 16 (soK (oneF x) m 0) Zb from hZb0.out)
      have HFS := Lib.hid (oneF_snd x)
      have hb := (Below.refl W15.heap.size W15).alloc (Nat.le_refl _) (.cells Zb 32)
      have hSL := PS3.out.lt
      have hRL : bR < W15.heap.size := by obtain ⟨_, _, h⟩ := PR3.out; exact h.lt
      have hDL := HD3.out.size
      replace HD3 := Lib.hid (below_trans HD3.out hb HD3.out.size)
      replace HSu3 := Lib.hid (HSu3.out.below hb)
      replace PS3 := Lib.hid (PS3.out.below hb PS3.out.lt)
      have PL := Lib.hid (At.new W15 Zb 32)
      clear hb HK PR3
      revert hSL hRL hDL HD3 HSu3 PS3 PL
      generalize W15.heap.size = bL
      generalize World.alloc _ _ = W16
      intro hSL hRL hDL HD3 HSu3 PS3 PL
      clear W15
      go_loopw [22] (fun i w' => ∃ (k : Nat) (Sx Lx : Array Value), k ≤ 61 ∧ i = .int .i64 k ∧ Hid (IsRow 38 (stE (enZ (oneF x) m k)) Sx) ∧ Hid (IsRow 16 (soK (oneF x) m k) Lx) ∧ Hid (Below w.heap.size w w') ∧ Hid (At w' bS Sx 34) ∧ Hid (At w' bL Lx 32) ∧ Hid (Sgs w' 0 u 61 r (pkB (oneF x) m))) (fun i _ => 61 - (intOf i).toNat)
      case atStart => exact ⟨0, E, Zb, Nat.zero_le _, rfl, HSx, HLx, HD3, PS3, PL, Lib.hid (HSu3.out.wide (Nat.zero_le _))⟩
      case round =>
        obtain ⟨k, Sx, Lx, hk, rfl, HSx2, HLx2, HD2, PS2, PL2, HSv2⟩ := hrel
        clear HSx HLx HD3 PS3 PL HSu3
        by_cases hlt : k < 61
        · have k1 : (k : Int) < 61 := by omega
          have kb : (k : Int) < 1000 := by omega
          obtain ⟨g, rfl, _⟩ := HSv2.out.addr (by omega)
          obtain ⟨P, hP⟩ : ∃ P, pkB (oneF x) m k = P := ⟨_, rfl⟩
          have hcell := HSv2.out.cell hlt
          rw [hP] at hcell
          have HCE := Lib.hid hcell
          obtain ⟨X, hX⟩ : ∃ X, IsRow 16 (soK (oneF x) m (k + 1)) X := ⟨_, isRow _ _⟩
          obtain ⟨Y, hY⟩ : ∃ X, IsRow 38 (stE (enZ (oneF x) m (k + 1))) X := ⟨_, isRow _ _⟩
          have HDE := Lib.hid (fun w' hT => decode_k HFS.out h10 h32 HSx2.out hX hY w' hT)
          rw [hP] at HDE
          have HX := Lib.hid hX
          have HY := Lib.hid hY
          have HTW := Lib.hid (HTAB.out.next HD2.out)
          have hix := fun w => run_sx (g := g) (c := r) hlt w
          clear hP hX hY hcell
          go_wp2_with fail
          refine mv_start fun hS => ?_
          refine mv_yield (i := 0) (d := 93) (.agg Sx) rfl rfl (by kernel_rfl) (by kernel_rfl) (by kernel_rfl) hS (y_load_part (l := 0) (by rfl) rfl rfl HSx2.out (fun w' h => PS2.out.below h PS2.out.lt) HSx2.out (by omega) (fun i _ => by first | rfl | rw [Nat.zero_add]) Tryz.underlying34 rfl (HIP.out _ HSx2.out.1)) ?_
          simp only [Act.put, List.setIfInBounds_toArray, List.set_cons_zero, List.set_cons_succ]
          refine mv_yield (i := 1) (d := 94) (.slice (some ⟨g, 0, none⟩) 61 r) rfl rfl (by kernel_rfl) (by kernel_rfl) (by kernel_rfl) hS (y_run (by rfl) fun _ => by rfl) ?_
          simp only [Act.put, List.setIfInBounds_toArray, List.set_cons_zero, List.set_cons_succ]
          refine mv_yield (i := 2) (d := 95) (.int .i64 k) rfl rfl (by kernel_rfl) (by kernel_rfl) (by kernel_rfl) hS (y_run (by rfl) fun _ => by rfl) ?_
          simp only [Act.put, List.setIfInBounds_toArray, List.set_cons_zero, List.set_cons_succ]
          refine mv_yield (i := 3) (d := 96) (.pointer (some ⟨g, k, none⟩)) rfl rfl (by kernel_rfl) (by kernel_rfl) (by kernel_rfl) hS (y_sx (by rfl) rfl rfl rfl rfl hlt) ?_
          simp only [Act.put, List.setIfInBounds_toArray, List.set_cons_zero, List.set_cons_succ]
          refine mv_yield (i := 4) (d := 97) (.string P) rfl rfl (by kernel_rfl) (by kernel_rfl) (by kernel_rfl) hS (y_cellB (by rfl) rfl rfl (fun w' h => (Below.cell h (block_lt_of_cell HCE.out)).trans HCE.out)) ?_
          simp only [Act.put, List.setIfInBounds_toArray, List.set_cons_zero, List.set_cons_succ]
          refine parM0 (fuel := 3) [5, 6, 7, 8, 9, 10, 11] [5, 6, 7, 10, 11] [8, 9] (fun i => i == 10 || i == 11) (fun i => if i = 5 then .tuple #[.agg X, .agg Y, .int .i64 0] else if i = 6 then .tuple #[.agg X, .agg Y, .int .i64 0] else if i = 7 then .agg X else if i = 8 then .agg Y else .int .i64 0) (fun i => if i = 10 then Zb else Zp) (fun i => if i = 10 then 32 else 34) #[true, true, true, true, true, true, true, true, true, true, true, true, false, false, false] _ rfl (by decide) (by decide) (by decide) (by decide) rfl (by kernel_rfl) (by kernel_rfl) (by kernel_rfl) (by kernel_rfl) (by kernel_rfl) (by kernel_rfl) (by kernel_rfl) (by kernel_rfl) hS ?_ ?_ ?_
          · intro i hi
            simp only [List.mem_cons, List.not_mem_nil, or_false] at hi
            rcases hi with rfl | rfl | rfl | rfl | rfl | rfl | rfl
            · exact ⟨_, rfl, fun D val w' hw' hD hv => st_call (isA := fun i => i == 10 || i == 11) (V := fun i => if i = 5 then .tuple #[.agg X, .agg Y, .int .i64 0] else if i = 6 then .tuple #[.agg X, .agg Y, .int .i64 0] else if i = 7 then .agg X else if i = 8 then .agg Y else .int .i64 0) (Zc := fun i => if i = 10 then Zb else Zp) (ty := fun i => if i = 10 then 32 else 34) (i := 5) #[.agg Sx, .string P] rfl rfl rfl enter_decode (map2 (Eq.trans (part_other _ _ (by kernel_rfl)) rfl) (Eq.trans (part_other _ _ (by kernel_rfl)) rfl)) (HDE.out _ (HTW.out.next hw'))⟩
            · exact ⟨_, rfl, fun D val w' hw' hD hv => st_run (isA := fun i => i == 10 || i == 11) (V := fun i => if i = 5 then .tuple #[.agg X, .agg Y, .int .i64 0] else if i = 6 then .tuple #[.agg X, .agg Y, .int .i64 0] else if i = 7 then .agg X else if i = 8 then .agg Y else .int .i64 0) (Zc := fun i => if i = 10 then Zb else Zp) (ty := fun i => if i = 10 then 32 else 34) (i := 6) (run_move rfl (Eq.trans (part_eval 5 rfl (hD 5 (by decide +kernel) (by decide)) _ _ rfl (by kernel_rfl) (by kernel_rfl)) (hv 5 (by decide) (hD 5 (by decide +kernel) (by decide)) rfl))) rfl rfl⟩
            · exact ⟨_, rfl, fun D val w' hw' hD hv => st_run (isA := fun i => i == 10 || i == 11) (V := fun i => if i = 5 then .tuple #[.agg X, .agg Y, .int .i64 0] else if i = 6 then .tuple #[.agg X, .agg Y, .int .i64 0] else if i = 7 then .agg X else if i = 8 then .agg Y else .int .i64 0) (Zc := fun i => if i = 10 then Zb else Zp) (ty := fun i => if i = 10 then 32 else 34) (i := 7) (run_extract rfl (Eq.trans (part_eval 6 rfl (hD 6 (by decide +kernel) (by decide)) _ _ rfl (by kernel_rfl) (by kernel_rfl)) (hv 6 (by decide) (hD 6 (by decide +kernel) (by decide)) rfl)) rfl) rfl rfl⟩
            · exact ⟨_, rfl, fun D val w' hw' hD hv => st_run (isA := fun i => i == 10 || i == 11) (V := fun i => if i = 5 then .tuple #[.agg X, .agg Y, .int .i64 0] else if i = 6 then .tuple #[.agg X, .agg Y, .int .i64 0] else if i = 7 then .agg X else if i = 8 then .agg Y else .int .i64 0) (Zc := fun i => if i = 10 then Zb else Zp) (ty := fun i => if i = 10 then 32 else 34) (i := 8) (run_extract rfl (Eq.trans (part_eval 6 rfl (hD 6 (by decide +kernel) (by decide)) _ _ rfl (by kernel_rfl) (by kernel_rfl)) (hv 6 (by decide) (hD 6 (by decide +kernel) (by decide)) rfl)) rfl) rfl rfl⟩
            · exact ⟨_, rfl, fun D val w' hw' hD hv => st_run (isA := fun i => i == 10 || i == 11) (V := fun i => if i = 5 then .tuple #[.agg X, .agg Y, .int .i64 0] else if i = 6 then .tuple #[.agg X, .agg Y, .int .i64 0] else if i = 7 then .agg X else if i = 8 then .agg Y else .int .i64 0) (Zc := fun i => if i = 10 then Zb else Zp) (ty := fun i => if i = 10 then 32 else 34) (i := 9) (run_extract rfl (Eq.trans (part_eval 6 rfl (hD 6 (by decide +kernel) (by decide)) _ _ rfl (by kernel_rfl) (by kernel_rfl)) (hv 6 (by decide) (hD 6 (by decide +kernel) (by decide)) rfl)) rfl) rfl rfl⟩
            · exact ⟨_, rfl, fun D val w' hw' hD hv => st_alloc (isA := fun i => i == 10 || i == 11) (V := fun i => if i = 5 then .tuple #[.agg X, .agg Y, .int .i64 0] else if i = 6 then .tuple #[.agg X, .agg Y, .int .i64 0] else if i = 7 then .agg X else if i = 8 then .agg Y else .int .i64 0) (Zc := fun i => if i = 10 then Zb else Zp) (ty := fun i => if i = 10 then 32 else 34) (i := 10) rfl rfl rfl rfl hzb⟩
            · exact ⟨_, rfl, fun D val w' hw' hD hv => st_alloc (isA := fun i => i == 10 || i == 11) (V := fun i => if i = 5 then .tuple #[.agg X, .agg Y, .int .i64 0] else if i = 6 then .tuple #[.agg X, .agg Y, .int .i64 0] else if i = 7 then .agg X else if i = 8 then .agg Y else .int .i64 0) (Zc := fun i => if i = 10 then Zb else Zp) (ty := fun i => if i = 10 then 32 else 34) (i := 11) rfl rfl rfl rfl hzp⟩
          · intro i hi
            simp only [List.mem_cons, List.not_mem_nil, or_false] at hi
            rcases hi with rfl | rfl
            · exact ⟨rfl, _, rfl, fun D val hD hv => y_of_run (by rfl) (fun w' => run_extract rfl (Eq.trans (part_eval 6 rfl (hD 6 (by decide +kernel) (by decide)) _ _ rfl (by kernel_rfl) (by kernel_rfl)) (hv 6 (by decide) (hD 6 (by decide +kernel) (by decide)) rfl)) rfl)⟩
            · exact ⟨rfl, _, rfl, fun D val hD hv => y_of_run (by rfl) (fun w' => run_extract rfl (Eq.trans (part_eval 6 rfl (hD 6 (by decide +kernel) (by decide)) _ _ rfl (by kernel_rfl) (by kernel_rfl)) (hv 6 (by decide) (hD 6 (by decide +kernel) (by decide)) rfl)) rfl)⟩
          clear hS
          intro val w' hS hY
          have v5 : val 5 = .tuple #[.agg X, .agg Y, .int .i64 0] := (hY 5 (by simp)).1 rfl
          have v6 : val 6 = .tuple #[.agg X, .agg Y, .int .i64 0] := (hY 6 (by simp)).1 rfl
          have v7 : val 7 = .agg X := (hY 7 (by simp)).1 rfl
          have v8 : val 8 = .agg Y := (hY 8 (by simp)).1 rfl
          have v9 : val 9 = .int .i64 0 := (hY 9 (by simp)).1 rfl
          obtain ⟨b10, e10, a10, g10⟩ : ∃ b, val 10 = .pointer (some ⟨b, 0, none⟩) ∧ At w' b Zb 32 ∧ wr.heap.size ≤ b := (hY 10 (by simp)).2 rfl
          obtain ⟨b11, e11, a11, g11⟩ : ∃ b, val 11 = .pointer (some ⟨b, 0, none⟩) ∧ At w' b Zp 34 ∧ wr.heap.size ≤ b := (hY 11 (by simp)).2 rfl
          have n10_11 : b10 ≠ b11 := fun e => At.apart a10 a11 (by decide) e
          have n11_10 : b11 ≠ b10 := fun e => At.apart a11 a10 (by decide) e
          show wpAnyH _ _ _ _ _ _ _ (Act.put (Act.put (Act.put (Act.put (Act.put (Act.put (Act.put _ (some 98) (val 5)) (some 92) (val 6)) (some 99) (val 7)) (some 100) (val 8)) (some 101) (val 9)) (some 23) (val 10)) (some 24) (val 11)) _
          rw [v5, v6, v7, v8, v9, e10, e11]
          simp only [Act.put, List.setIfInBounds_toArray, List.set_cons_zero, List.set_cons_succ]
          clear hY v5 v6 v7 v8 v9 e10 e11
          refine mv_store (i := 12) b10 X _ rfl rfl (by kernel_rfl) (by rfl) rfl rfl rfl a10 (by rw [HZB.out, HX.out.1]) HX.out.2.1 (HIB.out _ HX.out.1) g10 hS (fun hS1 => ?_)
          refine mv_store (i := 13) b11 Y _ rfl rfl (by kernel_rfl) (by rfl) rfl rfl rfl (a11.setRow_other n11_10) (by rw [HZP.out.1, HY.out.1]) HY.out.2.1 (HIP.out _ HY.out.1) g11 hS1 (fun hS2 => ?_)
          clear hS hS1
          have PY := Lib.hid ((a11.setRow_other (C := X) n11_10).setRow (C := Y))
          have PX := Lib.hid ((a10.setRow (C := X)).setRow_other (C := Y) n10_11)
          have hS := hS2
          clear hS2
          refine mv_yield (i := 14) (d := 25) (.int .i64 0) rfl rfl (by kernel_rfl) (by kernel_rfl) (by kernel_rfl) hS (y_run (by rfl) fun _ => by rfl) ?_
          simp only [Act.put, List.setIfInBounds_toArray, List.set_cons_zero, List.set_cons_succ]
          refine mv_done (by kernel_rfl) ?_
          replace HD2 := Lib.hid (below_trans HD2.out hS HD2.out.size)
          have hSb := PS2.out.lt
          have hSx := g10
          replace PS2 := Lib.hid (PS2.out.below hS PS2.out.lt)
          replace HSv2 := Lib.hid (HSv2.out.below hS)
          replace PL2 := Lib.hid (PL2.out.below hS PL2.out.lt)
          have HCE2 := (Below.cell hS (block_lt_of_cell HCE.out)).trans HCE.out
          have g11' : bS < b11 := Nat.lt_of_lt_of_le hSb g11
          have g10' : bS < b10 := Nat.lt_of_lt_of_le hSb g10
          clear hS a10 a11 g10 g11 n10_11 n11_10 HTW HDE HCE hSb hSx
          revert PY PX HD2 PS2 HSv2 PL2 HCE2
          generalize World.setRow (World.setRow _ _ _) _ _ = W8
          intro PY PX HD2 PS2 HSv2 PL2 HCE2
          go_wp2_with (first
            | refine wpList_load_all (by rfl) 34 _ rfl b11 rfl HY.out PY.out Tryz.underlying34 rfl HIP.out ?_
            | (refine wpList_store_row rfl 34 _ _ rfl bS Y rfl rfl _ _ PS2.out (HIP.out _ HY.out.1) (by rw [HSx2.out.1, HY.out.1]) HY.out.2.1 ?_
               have PS3 := Lib.hid (PS2.out.setRow (C := Y))
               have PL3 := Lib.hid (PL2.out.setRow_other (C := Y) (Nat.ne_of_gt hSL))
               have PX3 := Lib.hid (PX.out.setRow_other (C := Y) (Nat.ne_of_gt g10'))
               have HD3 := Lib.hid (below_setRow' HD2.out HSB.out Y)
               have HSv3 := Lib.hid (Sgs.row HSv2.out Y fun g hg => HLu.out g hg)
               clear PS2 PL2 PX HD2 HSv2
               revert PS3 PL3 PX3 HD3 HSv3
               generalize World.setRow _ _ _ = W9
               intro PS3 PL3 PX3 HD3 HSv3)
            | refine wpList_load_all (by rfl) 32 _ rfl b10 rfl HX.out PX3.out Tryz.underlying32 rfl HIB.out ?_
            | (refine wpList_store_row rfl 32 _ _ rfl bL X rfl rfl _ _ PL3.out (HIB.out _ HX.out.1) (by rw [HLx2.out.1, HX.out.1]) HX.out.2.1 ?_
               have PS4 := Lib.hid (PS3.out.setRow_other (C := X) (Nat.ne_of_lt hSL))
               have PL4 := Lib.hid (PL3.out.setRow (C := X))
               have HD4 := Lib.hid (below_setRow' HD3.out hDL X)
               have HSv4 := Lib.hid (Sgs.row HSv3.out X fun g hg => Nat.ne_of_lt (Nat.lt_trans (HOu.out g hg) hRL))
               revert PS4 PL4 HD4 HSv4
               generalize World.setRow _ _ _ = W10
               intro PS4 PL4 HD4 HSv4))
          go_roundw
          case rel => exact ⟨k + 1, Y, X, by omega, by go_num, HY, HX, HD4, PS4, PL4, HSv4⟩
          case measure => simp [intOf]; omega
        · obtain rfl : k = 61 := by omega
          have e6 := rows_eq HLx2.out HDD.out (fun i hi => soK_quiet x m i hi) Tryz.underlying32
          go_wp2_with (first
            | refine wpList_load_all (by rfl) 32 _ rfl bL rfl HLx2.out PL2.out Tryz.underlying32 rfl HIB.out ?_
            | refine wpList_build_parts (by rfl) 32 [] rfl _ rfl HBD.out ?_)
          go_ret
          exact ⟨rfl, HD2.out⟩
end Go.Proofs.YtfohinlldchdpaaGreatDoor.En
end
