/- Texts of the walk, one behind the other. -/
import Derived.Test.YtfohinlldchdpaaGreatDoorWholeWayM40
import Derived.Test.YtfohinlldchdpaaGreatDoorWholeWayM4
import Derived.Test.YtfohinlldchdpaaGreatDoorWholeWayM41
import Derived.Great.BuildSlice
import Derived.Laws.EntriesVeiled
import Derived.Test.YtfohinlldchdpaaGreatDoorWholeWayM44
import Derived.Test.YtfohinlldchdpaaGreatDoorWholeWayM10
import Derived.Test.YtfohinlldchdpaaGreatDoorWholeWayM2

section
/- Contracts: enc's All and what it hands to every. -/
set_option maxRecDepth 100000
set_option linter.unusedVariables false
namespace Go.Proofs.YtfohinlldchdpaaGreatDoor.En
open Go.RowKit Go.Proofs.YtfohinlldchdpaaGreatDoor.Row Go.Proofs.YtfohinlldchdpaaGreatDoor.Rg Go.Proofs.YtfohinlldchdpaaGreatDoor.Md Go.Proofs.YtfohinlldchdpaaGreatDoor.Tl Go.Proofs.YtfohinlldchdpaaGreatDoor.Sta

/-- The bytes of the k-th packet. -/
noncomputable def pkB (F : Nat → Nat → Int) (m k : Nat) : ByteArray := ⟨(pkS F m (fun _ => 0) k).toArray⟩
noncomputable def enZ (F : Nat → Nat → Int) (m k : Nat) : Nat → Int := enS F m (fun _ => 0) k
theorem enZ_re {F : Nat → Nat → Int} {m : Nat} (hF : ∀ i, Snd (F i)) (k : Nat) : Re (enZ F m k) := enS_re re_zero hF k

theorem run_str (B : ByteArray) (w : World) : (Instr.buildSlice 43 1 #[(0, .string B)]).run Tryz.prog w = .ok (.slice (some ⟨w.heap.size, 0, none⟩) 1 1) (w.alloc (.cells #[.string B] 9)) := by
  obtain ⟨i, hi, hz, hsz, _⟩ := info_string
  refine run_buildSlice w 43 9 1 _ _ i (.string ⟨#[]⟩) Tryz.underlying43 hi hz (by rw [hsz]; decide) (by rw [hsz]; decide) ?_
  rw [hsz]
  first | kernel_rfl | (simp [Instr.fill, Value.cells]; done) | (unfold Instr.fill; rfl)
theorem wpList_slice_str {ops : Array Oper} {rest : List Oper} {o : Oper} {a : Act} {w : World} {Q : Exit → Act → World → Prop} (hgd : o.guard = none) (x : Operand) (ho : o.op = .buildSlice 43 1 #[(0, x)]) {B : ByteArray} (hx : a.eval x = .string B)
    (h : wpList Tryz.prog ops Q rest (a.put o.dst (.slice (some ⟨w.heap.size, 0, none⟩) 1 1)) (w.alloc (.cells #[.string B] 9))) : wpList Tryz.prog ops Q (o :: rest) a w := by
  refine wpList_plain hgd fun K hK => ?_
  unfold Oper.wp execOp
  have hv : (#[(0, x)] : Array (Nat × Operand)).map (fun (i, x) => (i, a.eval x)) = #[(0, .string B)] := by simp [hx]
  simp only [ho, hv, run_str, Sem.run_bind, Result.andThen_ok, Sem.run_pure]
  exact hK _ _ h
theorem run_cellV {w : World} {p : Addr} {a : Option Addr} {n c : Nat} (h : w.cell? p = some (.slice a n c)) : (Instr.loadAt 43 (.pointer (some p))).run Tryz.prog w = .ok (.slice a n c) w := by
  simp [Instr.loadAt, Instr.sureAddr, loadVar, isAgg, run_underlying Tryz.underlying43, h, go_sem]
theorem y_cellV {ops : Array Oper} {S : World → Prop} {a : Act} {oi : Oper} {y : Operand} {p : Addr} {v : Option Addr} {n c : Nat} (hw : Region.wanted oi (yielded ops a.tmps) = true) (ho : oi.op = .load 43 y) (hy : a.eval y = .pointer (some p))
    (hc : ∀ w, S w → w.cell? p = some (.slice v n c)) : YieldsIf Tryz.prog ops S oi (.slice v n c) a :=
  .inl ⟨hw, fun w hw' => by
    unfold execOp
    simp only [ho, hy, run_cellV (hc w hw'), Sem.run_bind, Sem.run_pure, Result.andThen_ok]⟩
theorem run_bxo {b o n c k : Nat} (hk : k < n) (w : World) :
    (Instr.indexAt 29 (.slice (some ⟨b, o, none⟩) n c) (.int .i64 k)).run Tryz.prog w = .ok (.pointer (some ⟨b, o + k * 16, none⟩)) w := by
  have h : (0 : Int) ≤ (k : Int) ∧ (k : Int) < (n : Int) := by omega
  unfold Instr.indexAt
  simp only [Sem.run_bind, asIntOf, Sem.run_pure, Result.andThen_ok, run_underlying Tryz.underlying29, if_pos h, size_block]
  simp only [Addr.add, Int.toNat_natCast]
  split <;> simp_all
theorem SlR.range {w : World} {b o n c i : Nat} {F : Nat → Nat → Int} {R : Array Value} (h : SlR w (some ⟨b, o, none⟩) n c F) (hi : i < n) (hR : IsRow 16 (F i) R) : w.rangeAt b (o + i * 16) R.toList := fun j v hv => by
  have hj : j < 16 := by
    have := (List.getElem?_eq_some_iff.1 hv).1
    rw [Array.length_toList, hR.1] at this
    exact this
  rw [Array.getElem?_toList, hR.2.2 j hj] at hv
  injection hv with hv
  rw [← hv]
  obtain ⟨b', o', e, hc⟩ := h.2.2 (by omega)
  cases e
  exact hc i hi j hj

/-- All's own variables: the size, the result's row, the packets, the encoder, the error. -/
structure AlS (w : World) (m : Nat) (Z E : Array Value) (a : Option Addr) (k c : Nat) (G : Nat → ByteArray) (w' : World) : Prop where
  out : Below w.heap.size w w'
  sz : At w' w.heap.size #[.int .i64 m] 3
  res : At w' (w.heap.size + 1) Z 36
  pks : At w' (w.heap.size + 2) #[.slice a k c] 43
  enc : At w' (w.heap.size + 3) E 36
  err : At w' (w.heap.size + 4) #[.int .i64 0] 37
  own : Sgs w' (w.heap.size + 5) a k c G
section
variable {w w1 w2 : World} {m k c : Nat} {Z E : Array Value} {a : Option Addr} {G : Nat → ByteArray}
theorem AlS.next (h : AlS w m Z E a k c G w1) (hb : Below w1.heap.size w1 w2) : AlS w m Z E a k c G w2 :=
  ⟨below_trans h.out hb h.out.size, h.sz.below hb h.sz.lt, h.res.below hb h.res.lt, h.pks.below hb h.pks.lt, h.enc.below hb h.enc.lt, h.err.below hb h.err.lt, h.own.below hb⟩
theorem AlS.setE (h : AlS w m Z E a k c G w1) (R : Array Value) : AlS w m Z R a k c G (w1.setRow (w.heap.size + 3) R) :=
  ⟨below_setRow' h.out (by omega) _, h.sz.setRow_other (by omega), h.res.setRow_other (by omega), h.pks.setRow_other (by omega), h.enc.setRow, h.err.setRow_other (by omega), h.own.setRow (by omega) _⟩
theorem AlS.setZ (h : AlS w m Z E a k c G w1) (R : Array Value) : AlS w m R E a k c G (w1.setRow (w.heap.size + 1) R) :=
  ⟨below_setRow' h.out (by omega) _, h.sz.setRow_other (by omega), h.res.setRow, h.pks.setRow_other (by omega), h.enc.setRow_other (by omega), h.err.setRow_other (by omega), h.own.setRow (by omega) _⟩
theorem Sgs.setCell {w : World} {B n c : Nat} {a : Option Addr} {G : Nat → ByteArray} (h : Sgs w B a n c G) {b i : Nat} (v : Value) (hb : b < B) : Sgs (w.setCell ⟨b, i, none⟩ v) B a n c G :=
  h.keep fun g hg => by
    have hne : b ≠ g := by have := (h.block g hg).1; omega
    unfold World.setCell
    simp [Array.getElem?_modify, hne]
theorem AlS.setR (h : AlS w m Z E a k c G w1) : AlS w m Z E a k c G (w1.setCell ⟨w.heap.size + 4, 0, none⟩ (.int .i64 0)) :=
  ⟨h.out.setCell (by dsimp only; omega) _, h.sz.setCell_other (by dsimp only; omega), h.res.setCell_other (by dsimp only; omega), h.pks.setCell_other (by dsimp only; omega), h.enc.setCell_other (by dsimp only; omega), (At.setCell h.err (v := .int .i64 0) (i := 0) : _), Sgs.setCell h.own _ (by omega)⟩
theorem AlS.grown (h : AlS w m Z E a k c G w1) {a' : Option Addr} {c' : Nat} (hg : w1.grownBy w2 (Value.slice a k c).ownBlock) (hb : Below (w.heap.size + 5) w1 w2) (ho : Sgs w2 (w.heap.size + 5) a' (k + 1) c' G) :
    AlS w m Z E a' (k + 1) c' G (w2.setCell ⟨w.heap.size + 2, 0, none⟩ (.slice a' (k + 1) c')) := by
  have hx : ∀ b, b < w.heap.size + 5 → (Value.slice a k c).ownBlock ≠ some b := fun b hb e => by have := (h.own.block b e).1; omega
  refine ⟨(h.out.trans ⟨hb.os, hb.tape, hb.output, hb.size, fun k hk => hb.block k (by omega)⟩).setCell (by dsimp only; omega) _, (h.sz.grown hg (hx _ (by omega))).setCell_other (by dsimp only; omega), (h.res.grown hg (hx _ (by omega))).setCell_other (by dsimp only; omega), (At.setCell (h.pks.grown hg (hx _ (by omega))) (v := .slice a' (k + 1) c') (i := 0) : _), (h.enc.grown hg (hx _ (by omega))).setCell_other (by dsimp only; omega), (h.err.grown hg (hx _ (by omega))).setCell_other (by dsimp only; omega), Sgs.setCell ho _ (by omega)⟩
end

set_option maxHeartbeats 1000000 in
theorem all1_as (w w1 : World) (m k c : Nat) (Z E F : Array Value) (a : Option Addr) (G : Nat → ByteArray) (g b : Nat → Int) (h : AlS w m Z E a k c G w1) (hE : IsRow 55 g E) (hF : IsRow 16 b F) (hr : Re g) (hs : Snd b) (h10 : 10 ≤ m) (h32 : m ≤ 32)
    (hG : ⟨(pkt g b m).toArray⟩ = G k) (hk : k + 1 ≤ 1000000) (hTab : Lv.Tab w) :
    Calls Tryz.prog 33 #[.agg F, .pointer (some ⟨w.heap.size + 3, 0, none⟩), .pointer (some ⟨w.heap.size, 0, none⟩), .pointer (some ⟨w.heap.size + 4, 0, none⟩), .pointer (some ⟨w.heap.size + 2, 0, none⟩)] w1 fun e w2 =>
      e = .returned (.bool true) ∧ ∃ E' a' c', IsRow 55 (nxE g b m) E' ∧ AlS w m Z E' a' (k + 1) c' G w2 := by
  obtain ⟨_, _, _, _, hie⟩ := zero_ep
  obtain ⟨_, _, _, _, hib⟩ := zero_b
  obtain ⟨Q, hQ⟩ : ∃ Q, IsRow 55 (nxE g b m) Q := ⟨_, isRow _ _⟩
  have HEN := Lib.hid (fun w' hT => as_E (encode_yes E F g b m (G k) w' hE hF h10 h32 hr hs hG hT) hQ)
  have HA := Lib.hid (h.next ((Below.refl _ _).alloc (Nat.le_refl _) (.cells F 32)))
  have HAF := Lib.hid (At.new w1 F 32)
  have HE := Lib.hid hE
  have HF := Lib.hid hF
  have HQ := Lib.hid hQ
  have HIE := Lib.hid hie
  have HIB := Lib.hid hib
  have HTAB := Lib.hid hTab
  clear hE hF hQ hie hib hTab hr hs hG
  have c2 := HA.out.sz.cell 0
  simp only [List.getElem?_toArray, List.getElem?_cons_zero] at c2
  go_enter Tryz.func33, Tryz.ntmps33
  go_wp2_with (first
    | refine wpList_load_all (by rfl) 36 _ rfl (w.heap.size + 3) rfl HE.out HA.out.enc Tryz.underlying36 rfl HIE.out ?_
    | refine wpList_load_all (by rfl) 32 _ rfl w1.heap.size rfl HF.out HAF.out Tryz.underlying32 rfl HIB.out ?_)
  clear c2
  refine (HEN.out _ (HTAB.out.next HA.out.out)).mono ?_
  rintro e w3 ⟨rfl, hb⟩
  have HB := Lib.hid (HA.out.next hb)
  clear hb HA HAF h
  go_wp2_with (first
    | (refine wpList_store_row rfl 36 _ _ rfl (w.heap.size + 3) Q rfl rfl _ _ HB.out.enc (HIE.out _ HQ.out.1) (by rw [HE.out.1, HQ.out.1]) HQ.out.2.1 ?_
       have HC := Lib.hid (HB.out.setE Q)
       clear HB
       revert HC
       generalize World.setRow _ _ _ = W4
       intro HC
       have c4 := HC.out.err.cell 0
       simp only [List.getElem?_toArray, List.getElem?_cons_zero] at c4
       have f4 := HC.out.err.frozen 0
       have c5 := HC.out.setR.pks.cell 0
       simp only [List.getElem?_toArray, List.getElem?_cons_zero] at c5)
    | (refine wpList_slice_str rfl _ rfl rfl ?_
       have HC5 := Lib.hid HC.out.setR
       clear c4 f4 c5 HC
       revert HC5
       generalize World.setCell _ _ _ = W5
       intro HC5
       have HC1 := Lib.hid (HC5.out.next ((Below.refl _ _).alloc (Nat.le_refl _) (.cells #[.string (G k)] 9)))
       have hn := (At.new W5 #[.string (G k)] 9).cell 0
       simp only [List.getElem?_toArray, List.getElem?_cons_zero] at hn
       have HN := Lib.hid hn
       clear hn HC5
       revert HC1 HN
       generalize W5.heap.size = b6
       generalize World.alloc _ _ = W6
       intro HC1 HN)
    | (refine wpList_append_string rfl _ _ rfl (w.heap.size + 5) G a k c rfl HC1.out.own b6 rfl HN.out hk (by have := HC1.out.err.lt; omega) ?_
       intro a' c' w7 hS7 hb7 hg7
       have HD := Lib.hid (HC1.out.grown hg7 hb7 hS7)
       have hx : ∀ b, b < w.heap.size + 5 → (Value.slice a k c).ownBlock ≠ some b := fun b hb e => by have := (HC1.out.own.block b e).1; omega
       have c7 := (HC1.out.pks.grown hg7 (hx _ (by omega))).cell 0
       simp only [List.getElem?_toArray, List.getElem?_cons_zero] at c7
       have f7 := (HC1.out.pks.grown hg7 (hx _ (by omega))).frozen 0
       have c8 := HD.out.err.cell 0
       simp only [List.getElem?_toArray, List.getElem?_cons_zero] at c8
       clear hS7 hb7 hg7 hx HC1 HN))
  go_ret
  exact ⟨rfl, Q, a', c', HQ.out, HD.out⟩

/-- Behind k frames. -/
def AlK (w : World) (m : Nat) (Z : Array Value) (F : Nat → Nat → Int) (k : Nat) (w' : World) : Prop := ∃ E a c, IsRow 55 (enZ F m k) E ∧ AlS w m Z E a k c (pkB F m) w'
theorem AlK.next {w w1 w2 : World} {m k : Nat} {Z : Array Value} {F : Nat → Nat → Int} (h : AlK w m Z F k w1) (hb : Below w1.heap.size w1 w2) : AlK w m Z F k w2 := by
  obtain ⟨E, a, c, h1, h2⟩ := h
  exact ⟨E, a, c, h1, h2.next hb⟩
theorem AlK.out {w w1 : World} {m k : Nat} {Z : Array Value} {F : Nat → Nat → Int} (h : AlK w m Z F k w1) : Below w.heap.size w w1 := by
  obtain ⟨E, a, c, h1, h2⟩ := h
  exact h2.out
theorem all1_k (w w1 : World) (m k : Nat) (Z X : Array Value) (F : Nat → Nat → Int) (h : AlK w m Z F k w1) (hX : IsRow 16 (F k) X) (hF : ∀ i, Snd (F i)) (h10 : 10 ≤ m) (h32 : m ≤ 32) (hk : k + 1 ≤ 1000000) (hTab : Lv.Tab w) :
    Calls Tryz.prog 33 #[.agg X, .pointer (some ⟨w.heap.size + 3, 0, none⟩), .pointer (some ⟨w.heap.size, 0, none⟩), .pointer (some ⟨w.heap.size + 4, 0, none⟩), .pointer (some ⟨w.heap.size + 2, 0, none⟩)] w1 fun e w2 =>
      e = .returned (.bool true) ∧ AlK w m Z F (k + 1) w2 := by
  obtain ⟨E, a, c, h1, h2⟩ := h
  refine (all1_as w w1 m k c Z E X a (pkB F m) (enZ F m k) (F k) h2 h1 hX (enZ_re hF k) (hF k) h10 h32 rfl hk hTab).mono ?_
  rintro e w2 ⟨rfl, E', a', c', h3, h4⟩
  exact ⟨rfl, E', a', c', h3, h4⟩

set_option maxHeartbeats 1000000 in
theorem every_blk (w w1 : World) (m n c : Nat) (Z : Array Value) (a : Option Addr) (F : Nat → Nat → Int) (hS : SlR w a n c F) (h : AlK w m Z F 0 w1) (hF : ∀ i, Snd (F i)) (h10 : 10 ≤ m) (h32 : m ≤ 32) (hn : n ≤ 1000) (hTab : Lv.Tab w) :
    Calls Tryz.prog 34 #[.slice a n c, .func (.func 33) #[] #[.pointer (some ⟨w.heap.size + 3, 0, none⟩), .pointer (some ⟨w.heap.size, 0, none⟩), .pointer (some ⟨w.heap.size + 4, 0, none⟩), .pointer (some ⟨w.heap.size + 2, 0, none⟩)]] w1 fun e w2 =>
      e = .returned (.bool true) ∧ AlK w m Z F n w2 := by
  obtain ⟨Zb, hZb, _, hzb, hib⟩ := zero_b
  have HS := Lib.hid hS
  have H0 := Lib.hid h
  have HF := Lib.hid hF
  have HTAB := Lib.hid hTab
  have HIB := Lib.hid hib
  have HZB := Lib.hid hZb.1
  clear hS h hF hTab hib hZb
  go_enter Tryz.func34, Tryz.ntmps34
  go_wp2_with fail
  go_loopw [9] (fun i w' => ∃ k : Nat, k ≤ n ∧ i = .int .i64 k ∧ Hid (AlK w m Z F k w')) (fun i _ => n - (intOf i).toNat)
  case atStart => exact ⟨0, Nat.zero_le _, rfl, H0⟩
  case round =>
    obtain ⟨k, hk, rfl, HK⟩ := hrel
    clear H0
    by_cases hlt : k < n
    · have k1 : (k : Int) < n := by omega
      obtain ⟨b, o, rfl, _⟩ := HS.out.2.2 (by omega)
      obtain ⟨X, hX⟩ : ∃ X, IsRow 16 (F k) X := ⟨_, isRow _ _⟩
      have HX := Lib.hid hX
      have HR := Lib.hid (SlR.range (HS.out.below HK.out.out) hlt hX)
      have hix := fun w => run_bxo (c := c) (b := b) (o := o) hlt w
      have HK1 := Lib.hid (HK.out.next ((Below.refl _ _).alloc (Nat.le_refl _) (.cells X 32)))
      have HA1 := Lib.hid (At.new wr X 32)
      clear hX
      go_wp2_with (first
        | refine wpList_load_range (by rfl) 32 _ rfl b (o + k * 16) rfl HR.out Tryz.underlying32 rfl (HIB.out _ HX.out.1) ?_
        | (refine wpList_store_row rfl 32 _ _ rfl wr.heap.size X rfl rfl _ _ (heap_alloc_new _ _) (HIB.out _ HX.out.1) (by rw [HZB.out, HX.out.1]) HX.out.2.1 ?_; rw [World.setRow_alloc_new]
           clear HR HK
           revert HK1 HA1
           generalize wr.heap.size = b6
           generalize World.alloc _ _ = W6
           intro HK1 HA1)
        | refine wpList_load_all (by rfl) 32 _ rfl b6 rfl HX.out HA1.out Tryz.underlying32 rfl HIB.out ?_)
      refine (all1_k w W6 m k Z X F HK1.out HX.out HF.out h10 h32 (by omega) HTAB.out).mono ?_
      rintro e w7 ⟨rfl, h7⟩
      have HK7 := Lib.hid h7
      clear h7 HK1 HA1
      go_wp2_with fail
      go_roundw
      case rel => exact ⟨k + 1, by omega, by go_num, HK7⟩
      case measure => simp [intOf]; omega
    · obtain rfl : k = n := by omega
      go_wp2_with fail
      go_ret
      exact ⟨rfl, HK.out⟩

/-- What All answers: so many packets of its own, and the encoder then. -/
def RetAll (w : World) (m n : Nat) (F : Nat → Nat → Int) (e : Ending) (w' : World) : Prop :=
  ∃ a c Q, e = .returned (.tuple #[.slice a n c, .agg Q, .int .i64 0]) ∧ IsRow 55 (enZ F m n) Q ∧ Sgs w' w.heap.size a n c (pkB F m) ∧ Below w.heap.size w w'

theorem al_start (w : World) (m : Nat) (Z : Array Value) (F : Nat → Nat → Int) (hZ : IsRow 55 (fun _ => 0) Z) :
    AlK w m Z F 0 (((((w.alloc (.cells #[.int .i64 m] 3)).alloc (.cells Z 36)).alloc (.cells #[.slice none 0 0] 43)).alloc (.cells Z 36)).alloc (.cells #[.int .i64 0] 37)) := by
  have a1 := At.new (w.alloc (.cells #[.int .i64 m] 3)) Z 36
  have a2 := At.new ((w.alloc (.cells #[.int .i64 m] 3)).alloc (.cells Z 36)) #[.slice none 0 0] 43
  have a3 := At.new (((w.alloc (.cells #[.int .i64 m] 3)).alloc (.cells Z 36)).alloc (.cells #[.slice none 0 0] 43)) Z 36
  have a4 := At.new ((((w.alloc (.cells #[.int .i64 m] 3)).alloc (.cells Z 36)).alloc (.cells #[.slice none 0 0] 43)).alloc (.cells Z 36)) #[.int .i64 0] 37
  simp only [World.size_alloc] at a1 a2 a3 a4
  exact ⟨Z, none, 0, hZ, ⟨((((((Below.refl _ _).alloc (Nat.le_refl _) _).alloc (by simp) _).alloc (by simp; omega) _).alloc (by simp; omega) _).alloc (by simp; omega) _), ((((At.new _ _ _).alloc _).alloc _).alloc _).alloc _, ((a1.alloc _).alloc _).alloc _, (a2.alloc _).alloc _, a3.alloc _, a4, Sgs.nil _ _ _⟩⟩

set_option maxHeartbeats 1000000 in
theorem all_yes (a : Option Addr) (n c m : Nat) (F : Nat → Nat → Int) (w : World) (hS : SlR w a n c F) (hF : ∀ i, Snd (F i)) (h10 : 10 ≤ m) (h32 : m ≤ 32) (hn : n ≤ 1000) (hTab : Lv.Tab w) :
    Calls Tryz.prog 15 #[.slice a n c, .int .i64 m] w (RetAll w m n F) := by
  obtain ⟨Ze, hZe, _, hze, hie⟩ := zero_ep
  have hmf : ∀ (fn : Fn) (first cap : Array Value) (w : World), (Instr.makeFunc fn first cap).run Tryz.prog w = .ok (.func fn first cap) w := fun _ _ _ _ => rfl
  have HA := Lib.hid (al_start w m Ze F hZe)
  have HEV := Lib.hid (fun w1 h => every_blk w w1 m n c Ze a F hS h hF h10 h32 hn hTab)
  have HIE := Lib.hid hie
  have HZE := Lib.hid hZe.1
  clear hS hF hn hTab hie hZe
  go_enter Tryz.func15, Tryz.ntmps15
  go_wp2_with fail
  refine (HEV.out _ HA.out).mono ?_
  rintro e W1 ⟨rfl, E, v, d, hE, hA⟩
  have HE := Lib.hid hE
  have HB := Lib.hid hA
  clear hE hA HA HEV hmf
  go_wp2_with fail
  refine mf_start (fun w' => ∃ Z : Array Value, Z.size = 55 ∧ AlS w m Z E v n d (pkB F m) w') (fun i => i == 3) ⟨Ze, HZE.out, HB.out.next (Below.refl _ _).drew⟩ fun hS => ?_
  refine mf_yield (i := 0) (d := 18) (.slice v n d) rfl rfl (by kernel_rfl) (by kernel_rfl) (by kernel_rfl) (by kernel_rfl) hS (y_cellV (by rfl) rfl rfl (fun w' h => by obtain ⟨_, _, h⟩ := h; simpa using h.pks.cell 0)) ?_
  simp only [Act.put, List.setIfInBounds_toArray, List.set_cons_zero, List.set_cons_succ]
  refine mf_yield (i := 1) (d := 19) (.agg E) rfl rfl (by kernel_rfl) (by kernel_rfl) (by kernel_rfl) (by kernel_rfl) hS (y_load_part (l := 0) (by rfl) rfl rfl HE.out (fun w' h => by obtain ⟨_, _, h⟩ := h; exact h.enc) HE.out (by omega) (fun i _ => by rw [Nat.zero_add]) Tryz.underlying36 rfl (HIE.out _ HE.out.1)) ?_
  simp only [Act.put, List.setIfInBounds_toArray, List.set_cons_zero, List.set_cons_succ]
  refine mf_yield (i := 2) (d := 4) (.slice v n d) rfl rfl (by kernel_rfl) (by kernel_rfl) (by kernel_rfl) (by kernel_rfl) hS (y_run (by rfl) fun _ => by rfl) ?_
  simp only [Act.put, List.setIfInBounds_toArray, List.set_cons_zero, List.set_cons_succ]
  obtain ⟨Zo, hzo, hZo⟩ := hS
  refine mf_ready [3] (by kernel_rfl) (by simp) (af_store (i := 3) (w.heap.size + 1) E Zo rfl rfl (by rfl) rfl rfl rfl rfl hZo.res (by rw [hzo, HE.out.1]) HE.out.2.1 (HIE.out _ HE.out.1) ?_ AllReadyF.nil)
  have HC := Lib.hid (hZo.setZ E)
  clear hZo hzo Zo HB
  revert HC
  generalize World.setRow _ _ _ = W9
  intro HC
  refine mf_ready [4] (by kernel_rfl) (by simp) (af_assign (i := 4) (d := 6) (v := .int .i64 0) rfl rfl (by rfl) (fun _ => by rfl) (fun _ => ⟨E, HE.out.1, HC.out⟩) ?_ AllReadyF.nil)
  refine mf_done (by kernel_rfl) ?_
  go_wp2_with fail
  exact bodyPost_ret (v := .tuple #[.slice v n d, .agg E, .int .i64 0]) (results_three rfl _ _ (w.heap.size + 1) E _ rfl rfl rfl HC.out.res Tryz.underlying36 rfl (HIE.out _ HE.out.1)) rfl ⟨v, d, E, rfl, HE.out, HC.out.own.wide (by omega), HC.out.out⟩
end Go.Proofs.YtfohinlldchdpaaGreatDoor.En
end

section
/- What stage 15's laws share: the example, one frame, a row of frames written out. -/
set_option maxRecDepth 100000
set_option linter.unusedVariables false
namespace Go.Proofs.YtfohinlldchdpaaGreatDoor.En
open Go.RowKit Go.Proofs.YtfohinlldchdpaaGreatDoor.Row Go.Proofs.YtfohinlldchdpaaGreatDoor.Rg Go.Proofs.YtfohinlldchdpaaGreatDoor.Md Go.Proofs.YtfohinlldchdpaaGreatDoor.Tl Go.Proofs.YtfohinlldchdpaaGreatDoor.Sta

theorem map3 {f : Operand → Value} {x1 x2 x3 : Operand} {v1 v2 v3 : Value} (h1 : f x1 = v1) (h2 : f x2 = v2) (h3 : f x3 = v3) : #[x1, x2, x3].map f = #[v1, v2, v3] := by simp [h1, h2, h3]

set_option maxHeartbeats 1000000 in
theorem awake_as (w : World) (hT : Lv.Tab w) : Calls Tryz.prog 10 #[] w fun e w' => e = .returned (.bool true) ∧ Below w.heap.size w w' := by
  obtain ⟨Ze, hZe, _, hze, hie⟩ := zero_ep
  obtain ⟨G, hG, bG⟩ := ebuilt_0 isEn_p
  obtain ⟨D, hD, bD⟩ := Sta.built_b
  obtain ⟨B, hB⟩ : ∃ B, (⟨(pkt (fun _ => 0) (fun _ => 0) 10).toArray⟩ : ByteArray) = B := ⟨_, rfl⟩
  have hlen : B.size = 10 := by
    rw [← hB]
    show (pkt (fun _ => 0) (fun _ => 0) 10).toArray.size = 10
    rw [List.size_toArray]; exact pkt_length re_zero (by omega) (by omega)
  have HEN := Lib.hid (as_E (encode_yes G D (fun _ => 0) (fun _ => 0) 10 B w hG hD (by omega) (by omega) re_zero (fun _ _ => by dsimp only; omega) hB hT) (by rw [nx_none 10 fun _ _ => rfl]; exact hG))
  have e1 := en_eq_p hG hG (fun _ _ => rfl)
  have HG := Lib.hid hG
  have HD := Lib.hid hD
  have HBG := Lib.hid bG
  have HBD := Lib.hid bD
  have HIE := Lib.hid hie
  have HZE := Lib.hid hZe.1
  clear hT hG hD bG bD hie hZe hB
  go_enter Tryz.func10, Tryz.ntmps10
  go_wp2_with (first
    | refine wpList_build_parts (by rfl) 36 [] rfl _ rfl HBG.out ?_
    | refine wpList_build_parts (by rfl) 32 [] rfl _ rfl HBD.out ?_)
  refine HEN.out.mono ?_
  rintro e W1 ⟨rfl, hb⟩
  have HB := Lib.hid hb
  clear hb
  go_wp2_with (first
    | (refine wpList_store_row rfl 36 _ _ rfl W1.heap.size G rfl rfl _ _ (heap_alloc_new _ _) (HIE.out _ HG.out.1) (by rw [HZE.out, HG.out.1]) HG.out.2.1 ?_; rw [World.setRow_alloc_new]
       have HB2 := Lib.hid (HB.out.alloc HB.out.size (.cells G 36))
       have HA := Lib.hid (At.new W1 G 36)
       revert HB2 HA
       generalize W1.heap.size = b1
       generalize World.alloc _ _ = W2
       intro HB2 HA)
    | refine wpList_load_all (by rfl) 36 _ rfl b1 rfl HG.out HA.out Tryz.underlying36 rfl HIE.out ?_
    | refine wpList_build_parts (by rfl) 36 [] rfl _ rfl HBG.out ?_)
  go_ret
  exact ⟨rfl, HB2.out⟩

theorem run_assign {o : Oper} {a : Act} {w : World} {y : Operand} {v : Value} (ho : o.op = .assign y) (hy : a.eval y = v) : (execOp a.eval o).run Tryz.prog w = .ok (.value v) w := by
  unfold execOp; simp only [ho, hy]; rfl
/-- A slice of one row of sixteen numbers written out. -/
theorem run_slice16 {f : Nat → Int} {R : Array Value} (hR : IsRow 16 f R) (w : World) :
    (Instr.buildSlice 31 1 #[(0, .agg R)]).run Tryz.prog w = .ok (.slice (some ⟨w.heap.size, 0, none⟩) 1 1) (w.alloc (.cells R 22)) := by
  obtain ⟨Z, hZ, _, hz, hi⟩ := zero_a
  have hsz : ∀ w, (sizeOf 22).run Tryz.prog w = .ok 16 w := fun w => by
    have h : (Tryz.prog.info? 22).map (·.size) = some 16 := by kernel_rfl
    cases hq : Tryz.prog.info? 22 with
    | none => rw [hq] at h; cases h
    | some i =>
      rw [hq] at h
      injection h with h
      simp [sizeOf, typeInfo, hq, h]
  have r1 : Instr.fill (fun i => some (i * 16, 16)) ((Array.range (1 * 16)).map (Z[· % Z.size]!)) [(0, .agg R)] = some R := by
    obtain ⟨p1, p2⟩ := fold_lay R.toList 0 0 ((Array.range (1 * 16)).map (Z[· % Z.size]!))
    rw [fill_step (l := 0) (n := 16) rfl (by exact hR.1) (by simp)]
    show some _ = some _
    congr 1
    rw [show (Value.agg R).cells = R from rfl]
    refine (isRow_of (f := f) (by rw [p1]; simp) fun k hk => ?_).eq hR fun _ _ => rfl
    have := p2 k (by simp; exact hk)
    rw [this, if_pos (by rw [Array.length_toList, hR.1]; omega)]
    simp only [Nat.add_zero, Nat.sub_zero, Array.getElem?_toList]
    exact hR.2.2 k hk
  have hlt : ¬ (1 * 16 > 2 ^ 24) := by omega
  have h0 : ¬ (1 * 16 = 0) := by omega
  unfold Instr.buildSlice
  simp only [Sem.run_bind, run_underlying Tryz.underlying31, Result.andThen_ok, hsz, hlt, h0, if_false, hz, Value.cells, Sem.run_pure, r1]
  rfl
theorem wpList_slice16 {ops : Array Oper} {rest : List Oper} {o : Oper} {a : Act} {w : World} {Q : Exit → Act → World → Prop} (hgd : o.guard = none) (x : Operand) (ho : o.op = .buildSlice 31 1 #[(0, x)]) {f : Nat → Int} {R : Array Value} (hx : a.eval x = .agg R) (hR : IsRow 16 f R)
    (h : wpList Tryz.prog ops Q rest (a.put o.dst (.slice (some ⟨w.heap.size, 0, none⟩) 1 1)) (w.alloc (.cells R 22))) : wpList Tryz.prog ops Q (o :: rest) a w := by
  refine wpList_plain hgd fun K hK => ?_
  unfold Oper.wp execOp
  have hv : (#[(0, x)] : Array (Nat × Operand)).map (fun (i, x) => (i, a.eval x)) = #[(0, .agg R)] := by simp [hx]
  simp only [ho, hv, run_slice16 hR, Sem.run_bind, Result.andThen_ok, Sem.run_pure]
  exact hK _ _ h
theorem slR_one {w : World} {b : Nat} {R : Array Value} {x : Nat → Int} {t : TypeId} (hR : IsRow 16 x R) (hA : At w b R t) : SlR w (some ⟨b, 0, none⟩) 1 1 (fun _ => x) :=
  ⟨Nat.le_refl _, by unfold maxLen; omega, fun _ => ⟨b, 0, rfl, fun i hi j hj => by
    obtain rfl : i = 0 := by omega
    simpa using hR.cell hA j hj⟩⟩
/-- One frame's samples. -/
def smF (x : Nat → Int) : Nat → Int := fun j => smp (x j)
theorem smF_snd (x : Nat → Int) : Snd (smF x) := fun j _ => smp_bd _
theorem frames_one (b : Nat) (R : Array Value) (x : Nat → Int) (t : TypeId) (w : World) (hR : IsRow 16 x R) (hA : At w b R t) :
    Calls Tryz.prog 11 #[.slice (some ⟨b, 0, none⟩) 1 1] w fun e w' => ∃ g c, e = .returned (.slice (some ⟨g, 0, none⟩) 1 c) ∧ Bks w' w.heap.size (some ⟨g, 0, none⟩) 1 c (fun _ => smF x) ∧ Below w.heap.size w w' := by
  refine (frames_as (some ⟨b, 0, none⟩) 1 1 (fun _ => x) w (slR_one hR hA)).mono ?_
  rintro e w' ⟨a, c, rfl, hB, hb⟩
  obtain ⟨g, rfl, _⟩ := hB.addr (by decide)
  exact ⟨g, c, rfl, hB.ext fun i _ j _ => rfl, hb⟩
theorem enter_encode (args : Array Value) (w : World) : (callFunc 12 args).run Tryz.prog w = .ok (.enter 12 args) w := run_enter Tryz.func12 (by kernel_rfl) rfl args w
/-- The size that a law asks for. -/
theorem law_size {z : Int} (h0 : 0 ≤ z) (h1 : z ≤ 255) : ∃ I m : Nat, z.tmod 23 = I ∧ I < 23 ∧ (10 : Int) + I = m ∧ 10 ≤ m ∧ m ≤ 32 := by
  have h2 := Int.emod_nonneg z (show (23 : Int) ≠ 0 by omega)
  have h3 := Int.emod_lt_of_pos z (show (0 : Int) < 23 by omega)
  refine ⟨(z % 23).toNat, 10 + (z % 23).toNat, ?_, by omega, by omega, by omega, by omega⟩
  rw [Int.tmod_eq_emod_of_nonneg h0]; omega
end Go.Proofs.YtfohinlldchdpaaGreatDoor.En
end

section
/- More that operations of a region yield; what stage 15's laws compare. -/
set_option maxRecDepth 100000
set_option linter.unusedVariables false
namespace Go.Proofs.YtfohinlldchdpaaGreatDoor.En
open Go.RowKit Go.Proofs.YtfohinlldchdpaaGreatDoor.Row Go.Proofs.YtfohinlldchdpaaGreatDoor.Rg Go.Proofs.YtfohinlldchdpaaGreatDoor.Md Go.Proofs.YtfohinlldchdpaaGreatDoor.Tl Go.Proofs.YtfohinlldchdpaaGreatDoor.Sta

section
variable {ops : Array Oper} {S : World → Prop} {a : Act} {oi : Oper}
theorem y_cv {y : Operand} {z : Int} (hw : Region.wanted oi (yielded ops a.tmps) = true) (ho : oi.op = .convert 5 3 y) (hy : a.eval y = .int .u8 z) (h0 : 0 ≤ z) (h1 : z ≤ 255) : YieldsIf Tryz.prog ops S oi (.int .i64 z) a :=
  y_run hw fun w => by
    have h2 : IntKind.i64.wrap z = z := IntWalk.i64_in _ (by omega)
    unfold execOp
    simp only [ho, hy]
    simp [go_sem, h2]
theorem y_rem {t t' : TypeId} {y z : Operand} {m n r : Int} (hw : Region.wanted oi (yielded ops a.tmps) = true) (ho : oi.op = .binOp .rem t y z t') (hy : a.eval y = .int .i64 m) (hz : a.eval z = .int .i64 n) (hn : n ≠ 0) (hr : m.tmod n = r) : YieldsIf Tryz.prog ops S oi (.int .i64 r) a :=
  y_run hw fun w => by
    unfold execOp
    simp only [ho, hy, hz]
    simp [go_sem, hn, hr]
theorem y_eqs {t' : TypeId} {y z : Operand} {B : ByteArray} (hw : Region.wanted oi (yielded ops a.tmps) = true) (ho : oi.op = .binOp .eql 9 y z t') (hy : a.eval y = .string B) (hz : a.eval z = .string B) : YieldsIf Tryz.prog ops S oi (.bool true) a :=
  y_run hw fun w => by
    unfold execOp
    simp only [ho, hy, hz]
    simp [go_sem]
end

/-- The levels then are those of the frame's waves. -/
theorem nx_lev {f b : Nat → Int} {m : Nat} (hf : Re f) {k : Nat} (hk : k < 4) : nxE f b m (34 + k) = lvE f b k := by
  have hA := lvA_ok hf
  have hE := lvE_ok f b
  have eA : (fun i => stE f (17 + i)) = lvA f := by
    funext i
    unfold stE lvA
    rw [show 17 + (17 + i) = 34 + i by omega]
  rw [show 34 + k = 17 + (17 + k) by omega]
  unfold nxE
  rw [enF_state]
  unfold De.nxD nxF
  rw [stF_lev _ _ _ _ _ hk, eA]
  unfold pkt
  rw [fE_is, lB_met hA hE hk]
theorem as_B {fn : FuncId} {args : Array Value} {R : Array Value} {h : Nat → Int} {k : Nat} {w : World} (H : Calls Tryz.prog fn args w fun e w' => Lv.RetBlk k w w' e h) (hR : IsRow k h R) :
    Calls Tryz.prog fn args w fun e w' => e = .returned (.agg R) ∧ Below w.heap.size w w' := by
  refine H.mono ?_
  rintro e w' ⟨R', rfl, hR', hb⟩
  obtain rfl := hR'.eq hR fun _ _ => rfl
  exact ⟨rfl, hb⟩
theorem enter_lift (args : Array Value) (w : World) : (callFunc 21 args).run Tryz.prog w = .ok (.enter 21 args) w := run_enter Tryz.func21 (by kernel_rfl) rfl args w
theorem enter_levels (args : Array Value) (w : World) : (callFunc 22 args).run Tryz.prog w = .ok (.enter 22 args) w := run_enter Tryz.func22 (by kernel_rfl) rfl args w
theorem enter_eright (args : Array Value) (w : World) : (callFunc 14 args).run Tryz.prog w = .ok (.enter 14 args) w := run_enter Tryz.func14 (by kernel_rfl) rfl args w
theorem enter_rright (args : Array Value) (w : World) : (callFunc 17 args).run Tryz.prog w = .ok (.enter 17 args) w := run_enter Tryz.func17 (by kernel_rfl) rfl args w
end Go.Proofs.YtfohinlldchdpaaGreatDoor.En
end

section
/- What stage 15's laws on rows of frames share. -/
set_option maxRecDepth 100000
set_option linter.unusedVariables false
namespace Go.Proofs.YtfohinlldchdpaaGreatDoor.En
open Go.RowKit Go.Proofs.YtfohinlldchdpaaGreatDoor.Row Go.Proofs.YtfohinlldchdpaaGreatDoor.Rg Go.Proofs.YtfohinlldchdpaaGreatDoor.Md Go.Proofs.YtfohinlldchdpaaGreatDoor.Tl Go.Proofs.YtfohinlldchdpaaGreatDoor.Sta

theorem Bks.slr {w : World} {B n c : Nat} {a : Option Addr} {F : Nat → Nat → Int} (h : Bks w B a n c F) : SlR w a n c F :=
  ⟨h.cap.1, h.cap.2, fun hn => by
    obtain ⟨g, rfl, _⟩ := h.addr hn
    exact ⟨g, 0, rfl, fun i hi j hj => by rw [Nat.zero_add]; exact h.cell hi hj⟩⟩
theorem SlR.cut {w : World} {n c k : Nat} {a : Option Addr} {F : Nat → Nat → Int} (h : SlR w a n c F) (hk : k ≤ n) : SlR w a k c F :=
  ⟨Nat.le_trans hk h.1, h.2.1, fun h0 => by
    obtain ⟨b, o, e, hc⟩ := h.2.2 (by omega)
    exact ⟨b, o, e, fun i hi => hc i (by omega)⟩⟩
theorem size_string (w : World) : (sizeOf 9).run Tryz.prog w = .ok 1 w := by
  obtain ⟨i, h1, _, h2, _⟩ := info_string
  simp [sizeOf, typeInfo, h1, h2]
theorem run_sx {g n c k : Nat} (hk : k < n) (w : World) :
    (Instr.indexAt 43 (.slice (some ⟨g, 0, none⟩) n c) (.int .i64 k)).run Tryz.prog w = .ok (.pointer (some ⟨g, k, none⟩)) w := by
  have h : (0 : Int) ≤ (k : Int) ∧ (k : Int) < (n : Int) := by omega
  unfold Instr.indexAt
  simp only [Sem.run_bind, asIntOf, Sem.run_pure, Result.andThen_ok, run_underlying Tryz.underlying43, if_pos h, size_string]
  simp only [Addr.add, Int.toNat_natCast, Nat.zero_add, Nat.mul_one]
  split <;> simp_all
section
variable {ops : Array Oper} {S : World → Prop} {a : Act} {oi : Oper}
theorem y_sx {y z : Operand} {g n c k : Nat} {x : Int} (hw : Region.wanted oi (yielded ops a.tmps) = true) (ho : oi.op = .indexAddr 43 y z) (hy : a.eval y = .slice (some ⟨g, 0, none⟩) n c) (hz : a.eval z = .int .i64 x)
    (hx : x = k) (hk : k < n) : YieldsIf Tryz.prog ops S oi (.pointer (some ⟨g, k, none⟩)) a :=
  y_run hw fun w => by
    subst hx
    unfold execOp
    simp only [ho, hy, hz, run_sx hk, Sem.run_bind, Result.andThen_ok, Sem.run_pure]
theorem run_cellB {w : World} {p : Addr} {B : ByteArray} (h : w.cell? p = some (.string B)) : (Instr.loadAt 9 (.pointer (some p))).run Tryz.prog w = .ok (.string B) w := by
  simp [Instr.loadAt, Instr.sureAddr, loadVar, isAgg, run_underlying Tryz.underlying9, h, go_sem]
theorem y_cellB {y : Operand} {p : Addr} {B : ByteArray} (hw : Region.wanted oi (yielded ops a.tmps) = true) (ho : oi.op = .load 9 y) (hy : a.eval y = .pointer (some p))
    (hc : ∀ w, S w → w.cell? p = some (.string B)) : YieldsIf Tryz.prog ops S oi (.string B) a :=
  .inl ⟨hw, fun w hw' => by
    unfold execOp
    simp only [ho, hy, run_cellB (hc w hw'), Sem.run_bind, Sem.run_pure, Result.andThen_ok]⟩
end
theorem pkB_size {F : Nat → Nat → Int} {m : Nat} (hF : ∀ i, Snd (F i)) (h10 : 10 ≤ m) (h32 : m ≤ 32) (k : Nat) : (pkB F m k).size = m := by
  show (pkS F m (fun _ => 0) k).toArray.size = m
  rw [List.size_toArray]; exact pkt_length (enZ_re hF k) h10 h32
theorem Sgs.row {w : World} {B n c b : Nat} {a : Option Addr} {G : Nat → ByteArray} (h : Sgs w B a n c G) (C : Array Value) (hb : ∀ g, (Value.slice a n c).ownBlock = some g → g ≠ b) : Sgs (w.setRow b C) B a n c G :=
  h.keep fun g hg => by
    have hne : b ≠ g := fun e => hb g hg e.symm
    unfold World.setRow
    simp [Array.getElem?_modify, hne]
/-- Decode of the k-th packet behind the k-th state. -/
theorem decode_k {F : Nat → Nat → Int} {m k : Nat} {Sx X Y : Array Value} (hF : ∀ i, Snd (F i)) (h10 : 10 ≤ m) (h32 : m ≤ 32) (hS : IsRow 38 (stE (enZ F m k)) Sx)
    (hX : IsRow 16 (De.soD (byteF (pkS F m (fun _ => 0) k)) (stE (enZ F m k)) m) X) (hY : IsRow 38 (stE (enZ F m (k + 1))) Y) (w : World) (hT : Lv.Tab w) :
    Calls Tryz.prog 16 #[.agg Sx, .string (pkB F m k)] w fun e w' => e = .returned (.tuple #[.agg X, .agg Y, .int .i64 0]) ∧ Below w.heap.size w w' := by
  refine (De.decode_yes Sx (stE (enZ F m k)) (pkB F m k) (pkS F m (fun _ => 0) k) m w hS rfl (pkB_size hF h10 h32 k) ⟨h10, h32⟩ (enZ_re hF k).2.2 hT).mono ?_
  rintro e w'' ⟨⟨R', Q', rfl, hR', hQ''⟩, hb⟩
  obtain rfl := hR'.eq hX fun _ _ => rfl
  obtain rfl := hQ''.eq hY fun i _ => by
    show _ = stE (enS F m (fun _ => 0) (k + 1)) i
    rw [enS_st]; rfl
  exact ⟨rfl, hb⟩
theorem enter_decode (args : Array Value) (w : World) : (callFunc 16 args).run Tryz.prog w = .ok (.enter 16 args) w := run_enter Tryz.func16 (by kernel_rfl) rfl args w
theorem Bks.row {w : World} {B n c b : Nat} {a : Option Addr} {F : Nat → Nat → Int} (h : Bks w B a n c F) (C : Array Value) (hb : ∀ g, (Value.slice a n c).ownBlock = some g → g ≠ b) : Bks (w.setRow b C) B a n c F := by
  obtain ⟨h1, h2 | ⟨g, cap, cur, e, h3, h4, h5⟩⟩ := h
  · exact ⟨h1, .inl h2⟩
  · refine ⟨h1, .inr ⟨g, cap, cur, e, h3, ?_, h5⟩⟩
    have hne : b ≠ g := fun e' => hb g (by rw [e]; rfl) e'.symm
    rw [← h4]
    unfold World.setRow
    simp [Array.getElem?_modify, hne]
/-- 'frames[:k]'. -/
theorem run_upto {a : Option Addr} {n c k : Nat} (hk : k ≤ n) (hc : n ≤ c) (w : World) :
    (Instr.sliceAt 29 (.slice a n c) none (some (.int .i64 k)) none).run Tryz.prog w = .ok (.slice a k c) w := by
  have hu : Tryz.prog.underlying 29 = some (.slice (Tryz.prog.elem 29)) := by kernel_rfl
  have he : Tryz.prog.elem 29 = 32 := by kernel_rfl
  rw [run_sliceAt_slice w 29 _ _ _ _ hu, run_slice_h (P := Tryz.prog) (w := w) (t := 29) (a := a) (len := n) (cap := c) (ht := hu) .i64 k (by omega) (by omega), he, size_block]
  simp only [Result.andThen_ok, sliced, Int.toNat_natCast, Nat.zero_mul, Nat.sub_zero]
  congr 2
  split
  · rfl
  · cases a with
    | none => rfl
    | some x => simp [Addr.add]
theorem snd_zero : ∀ i : Nat, Snd ((fun _ _ => 0 : Nat → Nat → Int) i) := fun _ _ _ => by dsimp only; omega
/-- One frame of sound, then nothing. -/
def oneF (x : Nat → Int) : Nat → Nat → Int := thenZ 1 fun _ => smF x
theorem oneF_snd (x : Nat → Int) (i : Nat) : Snd (oneF x i) := fun j hj => by
  unfold oneF thenZ
  split
  · exact smF_snd x j hj
  · omega
theorem oneF_rest (x : Nat → Int) (i j : Nat) (h : 1 ≤ i) (_ : j < 16) : oneF x i j = 0 := by unfold oneF thenZ; rw [if_neg (by omega)]
/-- The sound of the packet ahead. -/
noncomputable def soK (F : Nat → Nat → Int) (m : Nat) : Nat → Nat → Int
  | 0 => fun _ => 0
  | k + 1 => De.soD (byteF (pkS F m (fun _ => 0) k)) (stE (enZ F m k)) m
theorem soK_none (m k : Nat) (i : Nat) (hi : i < 16) : soK (fun _ _ => 0) m (k + 1) i = 0 := by
  show De.soD (byteF (pkS (fun _ _ => 0) m (fun _ => 0) k)) (stE (enZ (fun _ _ => 0) m k)) m i = 0
  unfold pkS enZ
  rw [enS_none (fun _ _ _ => rfl) k]
  exact so_none (fun _ _ => rfl) i hi
theorem enZ_none (m k : Nat) : enZ (fun _ _ => 0) m k = fun _ => 0 := enS_none (fun _ _ _ => rfl) k
theorem soK_quiet (x : Nat → Int) (m : Nat) (i : Nat) (hi : i < 16) : soK (oneF x) m 61 i = 0 :=
  en_quiet re_zero (oneF_snd x) (oneF_rest x) (k := 60) (by omega) i hi
end Go.Proofs.YtfohinlldchdpaaGreatDoor.En
end
