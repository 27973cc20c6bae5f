/- Texts of the walk, one behind the other. -/
import Derived.Test.YtfohinlldchdpaaGreatDoorEncDecodesM38
import Derived.Test.YtfohinlldchdpaaGreatDoorEncDecodesM39
import Derived.Test.YtfohinlldchdpaaGreatDoorEncDecodesM40
import Derived.Great.BuildSlice
import Derived.Laws.EntriesVeiled

section
/- Contracts: enc's All and what it hands to every. -/
set_option maxRecDepth 100000
set_option linter.unusedVariables false
namespace Go.Proofs.YtfohinlldchdpaaGreatDoor.En
open Go.RowKit Go.Proofs.YtfohinlldchdpaaGreatDoor.Row Go.Proofs.YtfohinlldchdpaaGreatDoor.Rg Go.Proofs.YtfohinlldchdpaaGreatDoor.Md Go.Proofs.YtfohinlldchdpaaGreatDoor.Tl Go.Proofs.YtfohinlldchdpaaGreatDoor.Sta

/-- The bytes of the k-th packet. -/
noncomputable def pkB (F : Nat → Nat → Int) (m k : Nat) : ByteArray := ⟨(pkS F m (fun _ => 0) k).toArray⟩
noncomputable def enZ (F : Nat → Nat → Int) (m k : Nat) : Nat → Int := enS F m (fun _ => 0) k
theorem enZ_re {F : Nat → Nat → Int} {m : Nat} (hF : ∀ i, Snd (F i)) (k : Nat) : Re (enZ F m k) := enS_re re_zero hF k

theorem run_str (B : ByteArray) (w : World) : (Instr.buildSlice 43 1 #[(0, .string B)]).run Tryz.prog w = .ok (.slice (some ⟨w.heap.size, 0, none⟩) 1 1) (w.alloc (.cells #[.string B] 9)) := by
  obtain ⟨i, hi, hz, hsz, _⟩ := info_string
  refine run_buildSlice w 43 9 1 _ _ i (.string ⟨#[]⟩) Tryz.underlying43 hi hz (by rw [hsz]; decide) (by rw [hsz]; decide) ?_
  rw [hsz]
  first | kernel_rfl | (simp [Instr.fill, Value.cells]; done) | (unfold Instr.fill; rfl)
theorem wpList_slice_str {ops : Array Oper} {rest : List Oper} {o : Oper} {a : Act} {w : World} {Q : Exit → Act → World → Prop} (hgd : o.guard = none) (x : Operand) (ho : o.op = .buildSlice 43 1 #[(0, x)]) {B : ByteArray} (hx : a.eval x = .string B)
    (h : wpList Tryz.prog ops Q rest (a.put o.dst (.slice (some ⟨w.heap.size, 0, none⟩) 1 1)) (w.alloc (.cells #[.string B] 9))) : wpList Tryz.prog ops Q (o :: rest) a w := by
  refine wpList_plain hgd fun K hK => ?_
  unfold Oper.wp execOp
  have hv : (#[(0, x)] : Array (Nat × Operand)).map (fun (i, x) => (i, a.eval x)) = #[(0, .string B)] := by simp [hx]
  simp only [ho, hv, run_str, Sem.run_bind, Result.andThen_ok, Sem.run_pure]
  exact hK _ _ h
theorem run_cellV {w : World} {p : Addr} {a : Option Addr} {n c : Nat} (h : w.cell? p = some (.slice a n c)) : (Instr.loadAt 43 (.pointer (some p))).run Tryz.prog w = .ok (.slice a n c) w := by
  simp [Instr.loadAt, Instr.sureAddr, loadVar, isAgg, run_underlying Tryz.underlying43, h, go_sem]
theorem y_cellV {ops : Array Oper} {S : World → Prop} {a : Act} {oi : Oper} {y : Operand} {p : Addr} {v : Option Addr} {n c : Nat} (hw : Region.wanted oi (yielded ops a.tmps) = true) (ho : oi.op = .load 43 y) (hy : a.eval y = .pointer (some p))
    (hc : ∀ w, S w → w.cell? p = some (.slice v n c)) : YieldsIf Tryz.prog ops S oi (.slice v n c) a :=
  .inl ⟨hw, fun w hw' => by
    unfold execOp
    simp only [ho, hy, run_cellV (hc w hw'), Sem.run_bind, Sem.run_pure, Result.andThen_ok]⟩
theorem run_bxo {b o n c k : Nat} (hk : k < n) (w : World) :
    (Instr.indexAt 29 (.slice (some ⟨b, o, none⟩) n c) (.int .i64 k)).run Tryz.prog w = .ok (.pointer (some ⟨b, o + k * 16, none⟩)) w := by
  have h : (0 : Int) ≤ (k : Int) ∧ (k : Int) < (n : Int) := by omega
  unfold Instr.indexAt
  simp only [Sem.run_bind, asIntOf, Sem.run_pure, Result.andThen_ok, run_underlying Tryz.underlying29, if_pos h, size_block]
  simp only [Addr.add, Int.toNat_natCast]
  split <;> simp_all
theorem SlR.range {w : World} {b o n c i : Nat} {F : Nat → Nat → Int} {R : Array Value} (h : SlR w (some ⟨b, o, none⟩) n c F) (hi : i < n) (hR : IsRow 16 (F i) R) : w.rangeAt b (o + i * 16) R.toList := fun j v hv => by
  have hj : j < 16 := by
    have := (List.getElem?_eq_some_iff.1 hv).1
    rw [Array.length_toList, hR.1] at this
    exact this
  rw [Array.getElem?_toList, hR.2.2 j hj] at hv
  injection hv with hv
  rw [← hv]
  obtain ⟨b', o', e, hc⟩ := h.2.2 (by omega)
  cases e
  exact hc i hi j hj

/-- All's own variables: the size, the result's row, the packets, the encoder, the error. -/
structure AlS (w : World) (m : Nat) (Z E : Array Value) (a : Option Addr) (k c : Nat) (G : Nat → ByteArray) (w' : World) : Prop where
  out : Below w.heap.size w w'
  sz : At w' w.heap.size #[.int .i64 m] 3
  res : At w' (w.heap.size + 1) Z 36
  pks : At w' (w.heap.size + 2) #[.slice a k c] 43
  enc : At w' (w.heap.size + 3) E 36
  err : At w' (w.heap.size + 4) #[.int .i64 0] 37
  own : Sgs w' (w.heap.size + 5) a k c G
section
variable {w w1 w2 : World} {m k c : Nat} {Z E : Array Value} {a : Option Addr} {G : Nat → ByteArray}
theorem AlS.next (h : AlS w m Z E a k c G w1) (hb : Below w1.heap.size w1 w2) : AlS w m Z E a k c G w2 :=
  ⟨below_trans h.out hb h.out.size, h.sz.below hb h.sz.lt, h.res.below hb h.res.lt, h.pks.below hb h.pks.lt, h.enc.below hb h.enc.lt, h.err.below hb h.err.lt, h.own.below hb⟩
theorem AlS.setE (h : AlS w m Z E a k c G w1) (R : Array Value) : AlS w m Z R a k c G (w1.setRow (w.heap.size + 3) R) :=
  ⟨below_setRow' h.out (by omega) _, h.sz.setRow_other (by omega), h.res.setRow_other (by omega), h.pks.setRow_other (by omega), h.enc.setRow, h.err.setRow_other (by omega), h.own.setRow (by omega) _⟩
theorem AlS.setZ (h : AlS w m Z E a k c G w1) (R : Array Value) : AlS w m R E a k c G (w1.setRow (w.heap.size + 1) R) :=
  ⟨below_setRow' h.out (by omega) _, h.sz.setRow_other (by omega), h.res.setRow, h.pks.setRow_other (by omega), h.enc.setRow_other (by omega), h.err.setRow_other (by omega), h.own.setRow (by omega) _⟩
theorem Sgs.setCell {w : World} {B n c : Nat} {a : Option Addr} {G : Nat → ByteArray} (h : Sgs w B a n c G) {b i : Nat} (v : Value) (hb : b < B) : Sgs (w.setCell ⟨b, i, none⟩ v) B a n c G :=
  h.keep fun g hg => by
    have hne : b ≠ g := by have := (h.block g hg).1; omega
    unfold World.setCell
    simp [Array.getElem?_modify, hne]
theorem AlS.setR (h : AlS w m Z E a k c G w1) : AlS w m Z E a k c G (w1.setCell ⟨w.heap.size + 4, 0, none⟩ (.int .i64 0)) :=
  ⟨h.out.setCell (by dsimp only; omega) _, h.sz.setCell_other (by dsimp only; omega), h.res.setCell_other (by dsimp only; omega), h.pks.setCell_other (by dsimp only; omega), h.enc.setCell_other (by dsimp only; omega), (At.setCell h.err (v := .int .i64 0) (i := 0) : _), Sgs.setCell h.own _ (by omega)⟩
theorem AlS.grown (h : AlS w m Z E a k c G w1) {a' : Option Addr} {c' : Nat} (hg : w1.grownBy w2 (Value.slice a k c).ownBlock) (hb : Below (w.heap.size + 5) w1 w2) (ho : Sgs w2 (w.heap.size + 5) a' (k + 1) c' G) :
    AlS w m Z E a' (k + 1) c' G (w2.setCell ⟨w.heap.size + 2, 0, none⟩ (.slice a' (k + 1) c')) := by
  have hx : ∀ b, b < w.heap.size + 5 → (Value.slice a k c).ownBlock ≠ some b := fun b hb e => by have := (h.own.block b e).1; omega
  refine ⟨(h.out.trans ⟨hb.os, hb.tape, hb.output, hb.size, fun k hk => hb.block k (by omega)⟩).setCell (by dsimp only; omega) _, (h.sz.grown hg (hx _ (by omega))).setCell_other (by dsimp only; omega), (h.res.grown hg (hx _ (by omega))).setCell_other (by dsimp only; omega), (At.setCell (h.pks.grown hg (hx _ (by omega))) (v := .slice a' (k + 1) c') (i := 0) : _), (h.enc.grown hg (hx _ (by omega))).setCell_other (by dsimp only; omega), (h.err.grown hg (hx _ (by omega))).setCell_other (by dsimp only; omega), Sgs.setCell ho _ (by omega)⟩
end

set_option maxHeartbeats 1000000 in
theorem all1_as (w w1 : World) (m k c : Nat) (Z E F : Array Value) (a : Option Addr) (G : Nat → ByteArray) (g b : Nat → Int) (h : AlS w m Z E a k c G w1) (hE : IsRow 55 g E) (hF : IsRow 16 b F) (hr : Re g) (hs : Snd b) (h10 : 10 ≤ m) (h32 : m ≤ 32)
    (hG : ⟨(pkt g b m).toArray⟩ = G k) (hk : k + 1 ≤ 1000000) (hTab : Lv.Tab w) :
    Calls Tryz.prog 33 #[.agg F, .pointer (some ⟨w.heap.size + 3, 0, none⟩), .pointer (some ⟨w.heap.size, 0, none⟩), .pointer (some ⟨w.heap.size + 4, 0, none⟩), .pointer (some ⟨w.heap.size + 2, 0, none⟩)] w1 fun e w2 =>
      e = .returned (.bool true) ∧ ∃ E' a' c', IsRow 55 (nxE g b m) E' ∧ AlS w m Z E' a' (k + 1) c' G w2 := by
  obtain ⟨_, _, _, _, hie⟩ := zero_ep
  obtain ⟨_, _, _, _, hib⟩ := zero_b
  obtain ⟨Q, hQ⟩ : ∃ Q, IsRow 55 (nxE g b m) Q := ⟨_, isRow _ _⟩
  have HEN := Lib.hid (fun w' hT => as_E (encode_yes E F g b m (G k) w' hE hF h10 h32 hr hs hG hT) hQ)
  have HA := Lib.hid (h.next ((Below.refl _ _).alloc (Nat.le_refl _) (.cells F 32)))
  have HAF := Lib.hid (At.new w1 F 32)
  have HE := Lib.hid hE
  have HF := Lib.hid hF
  have HQ := Lib.hid hQ
  have HIE := Lib.hid hie
  have HIB := Lib.hid hib
  have HTAB := Lib.hid hTab
  clear hE hF hQ hie hib hTab hr hs hG
  have c2 := HA.out.sz.cell 0
  simp only [List.getElem?_toArray, List.getElem?_cons_zero] at c2
  go_enter Tryz.func33, Tryz.ntmps33
  go_wp2_with (first
    | refine wpList_load_all (by rfl) 36 _ rfl (w.heap.size + 3) rfl HE.out HA.out.enc Tryz.underlying36 rfl HIE.out ?_
    | refine wpList_load_all (by rfl) 32 _ rfl w1.heap.size rfl HF.out HAF.out Tryz.underlying32 rfl HIB.out ?_)
  clear c2
  refine (HEN.out _ (HTAB.out.next HA.out.out)).mono ?_
  rintro e w3 ⟨rfl, hb⟩
  have HB := Lib.hid (HA.out.next hb)
  clear hb HA HAF h
  go_wp2_with (first
    | (refine wpList_store_row rfl 36 _ _ rfl (w.heap.size + 3) Q rfl rfl _ _ HB.out.enc (HIE.out _ HQ.out.1) (by rw [HE.out.1, HQ.out.1]) HQ.out.2.1 ?_
       have HC := Lib.hid (HB.out.setE Q)
       clear HB
       revert HC
       generalize World.setRow _ _ _ = W4
       intro HC
       have c4 := HC.out.err.cell 0
       simp only [List.getElem?_toArray, List.getElem?_cons_zero] at c4
       have f4 := HC.out.err.frozen 0
       have c5 := HC.out.setR.pks.cell 0
       simp only [List.getElem?_toArray, List.getElem?_cons_zero] at c5)
    | (refine wpList_slice_str rfl _ rfl rfl ?_
       have HC5 := Lib.hid HC.out.setR
       clear c4 f4 c5 HC
       revert HC5
       generalize World.setCell _ _ _ = W5
       intro HC5
       have HC1 := Lib.hid (HC5.out.next ((Below.refl _ _).alloc (Nat.le_refl _) (.cells #[.string (G k)] 9)))
       have hn := (At.new W5 #[.string (G k)] 9).cell 0
       simp only [List.getElem?_toArray, List.getElem?_cons_zero] at hn
       have HN := Lib.hid hn
       clear hn HC5
       revert HC1 HN
       generalize W5.heap.size = b6
       generalize World.alloc _ _ = W6
       intro HC1 HN)
    | (refine wpList_append_string rfl _ _ rfl (w.heap.size + 5) G a k c rfl HC1.out.own b6 rfl HN.out hk (by have := HC1.out.err.lt; omega) ?_
       intro a' c' w7 hS7 hb7 hg7
       have HD := Lib.hid (HC1.out.grown hg7 hb7 hS7)
       have hx : ∀ b, b < w.heap.size + 5 → (Value.slice a k c).ownBlock ≠ some b := fun b hb e => by have := (HC1.out.own.block b e).1; omega
       have c7 := (HC1.out.pks.grown hg7 (hx _ (by omega))).cell 0
       simp only [List.getElem?_toArray, List.getElem?_cons_zero] at c7
       have f7 := (HC1.out.pks.grown hg7 (hx _ (by omega))).frozen 0
       have c8 := HD.out.err.cell 0
       simp only [List.getElem?_toArray, List.getElem?_cons_zero] at c8
       clear hS7 hb7 hg7 hx HC1 HN))
  go_ret
  exact ⟨rfl, Q, a', c', HQ.out, HD.out⟩

/-- Behind k frames. -/
def AlK (w : World) (m : Nat) (Z : Array Value) (F : Nat → Nat → Int) (k : Nat) (w' : World) : Prop := ∃ E a c, IsRow 55 (enZ F m k) E ∧ AlS w m Z E a k c (pkB F m) w'
theorem AlK.next {w w1 w2 : World} {m k : Nat} {Z : Array Value} {F : Nat → Nat → Int} (h : AlK w m Z F k w1) (hb : Below w1.heap.size w1 w2) : AlK w m Z F k w2 := by
  obtain ⟨E, a, c, h1, h2⟩ := h
  exact ⟨E, a, c, h1, h2.next hb⟩
theorem AlK.out {w w1 : World} {m k : Nat} {Z : Array Value} {F : Nat → Nat → Int} (h : AlK w m Z F k w1) : Below w.heap.size w w1 := by
  obtain ⟨E, a, c, h1, h2⟩ := h
  exact h2.out
theorem all1_k (w w1 : World) (m k : Nat) (Z X : Array Value) (F : Nat → Nat → Int) (h : AlK w m Z F k w1) (hX : IsRow 16 (F k) X) (hF : ∀ i, Snd (F i)) (h10 : 10 ≤ m) (h32 : m ≤ 32) (hk : k + 1 ≤ 1000000) (hTab : Lv.Tab w) :
    Calls Tryz.prog 33 #[.agg X, .pointer (some ⟨w.heap.size + 3, 0, none⟩), .pointer (some ⟨w.heap.size, 0, none⟩), .pointer (some ⟨w.heap.size + 4, 0, none⟩), .pointer (some ⟨w.heap.size + 2, 0, none⟩)] w1 fun e w2 =>
      e = .returned (.bool true) ∧ AlK w m Z F (k + 1) w2 := by
  obtain ⟨E, a, c, h1, h2⟩ := h
  refine (all1_as w w1 m k c Z E X a (pkB F m) (enZ F m k) (F k) h2 h1 hX (enZ_re hF k) (hF k) h10 h32 rfl hk hTab).mono ?_
  rintro e w2 ⟨rfl, E', a', c', h3, h4⟩
  exact ⟨rfl, E', a', c', h3, h4⟩

set_option maxHeartbeats 1000000 in
theorem every_blk (w w1 : World) (m n c : Nat) (Z : Array Value) (a : Option Addr) (F : Nat → Nat → Int) (hS : SlR w a n c F) (h : AlK w m Z F 0 w1) (hF : ∀ i, Snd (F i)) (h10 : 10 ≤ m) (h32 : m ≤ 32) (hn : n ≤ 1000) (hTab : Lv.Tab w) :
    Calls Tryz.prog 34 #[.slice a n c, .func (.func 33) #[] #[.pointer (some ⟨w.heap.size + 3, 0, none⟩), .pointer (some ⟨w.heap.size, 0, none⟩), .pointer (some ⟨w.heap.size + 4, 0, none⟩), .pointer (some ⟨w.heap.size + 2, 0, none⟩)]] w1 fun e w2 =>
      e = .returned (.bool true) ∧ AlK w m Z F n w2 := by
  obtain ⟨Zb, hZb, _, hzb, hib⟩ := zero_b
  have HS := Lib.hid hS
  have H0 := Lib.hid h
  have HF := Lib.hid hF
  have HTAB := Lib.hid hTab
  have HIB := Lib.hid hib
  have HZB := Lib.hid hZb.1
  clear hS h hF hTab hib hZb
  go_enter Tryz.func34, Tryz.ntmps34
  go_wp2_with fail
  go_loopw [9] (fun i w' => ∃ k : Nat, k ≤ n ∧ i = .int .i64 k ∧ Hid (AlK w m Z F k w')) (fun i _ => n - (intOf i).toNat)
  case atStart => exact ⟨0, Nat.zero_le _, rfl, H0⟩
  case round =>
    obtain ⟨k, hk, rfl, HK⟩ := hrel
    clear H0
    by_cases hlt : k < n
    · have k1 : (k : Int) < n := by omega
      obtain ⟨b, o, rfl, _⟩ := HS.out.2.2 (by omega)
      obtain ⟨X, hX⟩ : ∃ X, IsRow 16 (F k) X := ⟨_, isRow _ _⟩
      have HX := Lib.hid hX
      have HR := Lib.hid (SlR.range (HS.out.below HK.out.out) hlt hX)
      have hix := fun w => run_bxo (c := c) (b := b) (o := o) hlt w
      have HK1 := Lib.hid (HK.out.next ((Below.refl _ _).alloc (Nat.le_refl _) (.cells X 32)))
      have HA1 := Lib.hid (At.new wr X 32)
      clear hX
      go_wp2_with (first
        | refine wpList_load_range (by rfl) 32 _ rfl b (o + k * 16) rfl HR.out Tryz.underlying32 rfl (HIB.out _ HX.out.1) ?_
        | (refine wpList_store_row rfl 32 _ _ rfl wr.heap.size X rfl rfl _ _ (heap_alloc_new _ _) (HIB.out _ HX.out.1) (by rw [HZB.out, HX.out.1]) HX.out.2.1 ?_; rw [World.setRow_alloc_new]
           clear HR HK
           revert HK1 HA1
           generalize wr.heap.size = b6
           generalize World.alloc _ _ = W6
           intro HK1 HA1)
        | refine wpList_load_all (by rfl) 32 _ rfl b6 rfl HX.out HA1.out Tryz.underlying32 rfl HIB.out ?_)
      refine (all1_k w W6 m k Z X F HK1.out HX.out HF.out h10 h32 (by omega) HTAB.out).mono ?_
      rintro e w7 ⟨rfl, h7⟩
      have HK7 := Lib.hid h7
      clear h7 HK1 HA1
      go_wp2_with fail
      go_roundw
      case rel => exact ⟨k + 1, by omega, by go_num, HK7⟩
      case measure => simp [intOf]; omega
    · obtain rfl : k = n := by omega
      go_wp2_with fail
      go_ret
      exact ⟨rfl, HK.out⟩

/-- What All answers: so many packets of its own, and the encoder then. -/
def RetAll (w : World) (m n : Nat) (F : Nat → Nat → Int) (e : Ending) (w' : World) : Prop :=
  ∃ a c Q, e = .returned (.tuple #[.slice a n c, .agg Q, .int .i64 0]) ∧ IsRow 55 (enZ F m n) Q ∧ Sgs w' w.heap.size a n c (pkB F m) ∧ Below w.heap.size w w'

theorem al_start (w : World) (m : Nat) (Z : Array Value) (F : Nat → Nat → Int) (hZ : IsRow 55 (fun _ => 0) Z) :
    AlK w m Z F 0 (((((w.alloc (.cells #[.int .i64 m] 3)).alloc (.cells Z 36)).alloc (.cells #[.slice none 0 0] 43)).alloc (.cells Z 36)).alloc (.cells #[.int .i64 0] 37)) := by
  have a1 := At.new (w.alloc (.cells #[.int .i64 m] 3)) Z 36
  have a2 := At.new ((w.alloc (.cells #[.int .i64 m] 3)).alloc (.cells Z 36)) #[.slice none 0 0] 43
  have a3 := At.new (((w.alloc (.cells #[.int .i64 m] 3)).alloc (.cells Z 36)).alloc (.cells #[.slice none 0 0] 43)) Z 36
  have a4 := At.new ((((w.alloc (.cells #[.int .i64 m] 3)).alloc (.cells Z 36)).alloc (.cells #[.slice none 0 0] 43)).alloc (.cells Z 36)) #[.int .i64 0] 37
  simp only [World.size_alloc] at a1 a2 a3 a4
  exact ⟨Z, none, 0, hZ, ⟨((((((Below.refl _ _).alloc (Nat.le_refl _) _).alloc (by simp) _).alloc (by simp; omega) _).alloc (by simp; omega) _).alloc (by simp; omega) _), ((((At.new _ _ _).alloc _).alloc _).alloc _).alloc _, ((a1.alloc _).alloc _).alloc _, (a2.alloc _).alloc _, a3.alloc _, a4, Sgs.nil _ _ _⟩⟩

set_option maxHeartbeats 1000000 in
theorem all_yes (a : Option Addr) (n c m : Nat) (F : Nat → Nat → Int) (w : World) (hS : SlR w a n c F) (hF : ∀ i, Snd (F i)) (h10 : 10 ≤ m) (h32 : m ≤ 32) (hn : n ≤ 1000) (hTab : Lv.Tab w) :
    Calls Tryz.prog 15 #[.slice a n c, .int .i64 m] w (RetAll w m n F) := by
  obtain ⟨Ze, hZe, _, hze, hie⟩ := zero_ep
  have hmf : ∀ (fn : Fn) (first cap : Array Value) (w : World), (Instr.makeFunc fn first cap).run Tryz.prog w = .ok (.func fn first cap) w := fun _ _ _ _ => rfl
  have HA := Lib.hid (al_start w m Ze F hZe)
  have HEV := Lib.hid (fun w1 h => every_blk w w1 m n c Ze a F hS h hF h10 h32 hn hTab)
  have HIE := Lib.hid hie
  have HZE := Lib.hid hZe.1
  clear hS hF hn hTab hie hZe
  go_enter Tryz.func15, Tryz.ntmps15
  go_wp2_with fail
  refine (HEV.out _ HA.out).mono ?_
  rintro e W1 ⟨rfl, E, v, d, hE, hA⟩
  have HE := Lib.hid hE
  have HB := Lib.hid hA
  clear hE hA HA HEV hmf
  go_wp2_with fail
  refine mf_start (fun w' => ∃ Z : Array Value, Z.size = 55 ∧ AlS w m Z E v n d (pkB F m) w') (fun i => i == 3) ⟨Ze, HZE.out, HB.out.next (Below.refl _ _).drew⟩ fun hS => ?_
  refine mf_yield (i := 0) (d := 18) (.slice v n d) rfl rfl (by kernel_rfl) (by kernel_rfl) (by kernel_rfl) (by kernel_rfl) hS (y_cellV (by rfl) rfl rfl (fun w' h => by obtain ⟨_, _, h⟩ := h; simpa using h.pks.cell 0)) ?_
  simp only [Act.put, List.setIfInBounds_toArray, List.set_cons_zero, List.set_cons_succ]
  refine mf_yield (i := 1) (d := 19) (.agg E) rfl rfl (by kernel_rfl) (by kernel_rfl) (by kernel_rfl) (by kernel_rfl) hS (y_load_part (l := 0) (by rfl) rfl rfl HE.out (fun w' h => by obtain ⟨_, _, h⟩ := h; exact h.enc) HE.out (by omega) (fun i _ => by rw [Nat.zero_add]) Tryz.underlying36 rfl (HIE.out _ HE.out.1)) ?_
  simp only [Act.put, List.setIfInBounds_toArray, List.set_cons_zero, List.set_cons_succ]
  refine mf_yield (i := 2) (d := 4) (.slice v n d) rfl rfl (by kernel_rfl) (by kernel_rfl) (by kernel_rfl) (by kernel_rfl) hS (y_run (by rfl) fun _ => by rfl) ?_
  simp only [Act.put, List.setIfInBounds_toArray, List.set_cons_zero, List.set_cons_succ]
  obtain ⟨Zo, hzo, hZo⟩ := hS
  refine mf_ready [3] (by kernel_rfl) (by simp) (af_store (i := 3) (w.heap.size + 1) E Zo rfl rfl (by rfl) rfl rfl rfl rfl hZo.res (by rw [hzo, HE.out.1]) HE.out.2.1 (HIE.out _ HE.out.1) ?_ AllReadyF.nil)
  have HC := Lib.hid (hZo.setZ E)
  clear hZo hzo Zo HB
  revert HC
  generalize World.setRow _ _ _ = W9
  intro HC
  refine mf_ready [4] (by kernel_rfl) (by simp) (af_assign (i := 4) (d := 6) (v := .int .i64 0) rfl rfl (by rfl) (fun _ => by rfl) (fun _ => ⟨E, HE.out.1, HC.out⟩) ?_ AllReadyF.nil)
  refine mf_done (by kernel_rfl) ?_
  go_wp2_with fail
  exact bodyPost_ret (v := .tuple #[.slice v n d, .agg E, .int .i64 0]) (results_three rfl _ _ (w.heap.size + 1) E _ rfl rfl rfl HC.out.res Tryz.underlying36 rfl (HIE.out _ HE.out.1)) rfl ⟨v, d, E, rfl, HE.out, HC.out.own.wide (by omega), HC.out.out⟩
end Go.Proofs.YtfohinlldchdpaaGreatDoor.En
end
