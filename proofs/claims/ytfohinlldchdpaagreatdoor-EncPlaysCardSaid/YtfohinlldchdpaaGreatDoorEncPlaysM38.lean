/- Texts of the walk, one behind the other. -/
import Derived.Test.YtfohinlldchdpaaGreatDoorEncPlaysM36
import Derived.Test.YtfohinlldchdpaaGreatDoorEncPlaysM29
import Derived.Test.YtfohinlldchdpaaGreatDoorEncPlaysM37
import Derived.Great.BuildSlice
import Derived.Laws.EntriesVeiled
import Derived.Test.YtfohinlldchdpaaGreatDoorEncPlaysM39
import Derived.Test.YtfohinlldchdpaaGreatDoorEncPlaysM9
import Derived.Test.YtfohinlldchdpaaGreatDoorEncPlaysM1

section
/- Contracts: enc's All and what it hands to every. -/
set_option maxRecDepth 100000
set_option linter.unusedVariables false
namespace Go.Proofs.YtfohinlldchdpaaGreatDoor.En
open Go.RowKit Go.Proofs.YtfohinlldchdpaaGreatDoor.Row Go.Proofs.YtfohinlldchdpaaGreatDoor.Rg Go.Proofs.YtfohinlldchdpaaGreatDoor.Md Go.Proofs.YtfohinlldchdpaaGreatDoor.Tl Go.Proofs.YtfohinlldchdpaaGreatDoor.Sta

theorem run_cellV {w : World} {p : Addr} {a : Option Addr} {n c : Nat} (h : w.cell? p = some (.slice a n c)) : (Instr.loadAt 43 (.pointer (some p))).run Tryz.prog w = .ok (.slice a n c) w := by
  simp [Instr.loadAt, Instr.sureAddr, loadVar, isAgg, run_underlying Tryz.underlying43, h, go_sem]
theorem y_cellV {ops : Array Oper} {S : World → Prop} {a : Act} {oi : Oper} {y : Operand} {p : Addr} {v : Option Addr} {n c : Nat} (hw : Region.wanted oi (yielded ops a.tmps) = true) (ho : oi.op = .load 43 y) (hy : a.eval y = .pointer (some p))
    (hc : ∀ w, S w → w.cell? p = some (.slice v n c)) : YieldsIf Tryz.prog ops S oi (.slice v n c) a :=
  .inl ⟨hw, fun w hw' => by
    unfold execOp
    simp only [ho, hy, run_cellV (hc w hw'), Sem.run_bind, Sem.run_pure, Result.andThen_ok]⟩
/-- All's own variables: the size, the result's row, the packets, the encoder, the error. -/
structure AlS (w : World) (m : Nat) (Z E : Array Value) (a : Option Addr) (k c : Nat) (G : Nat → ByteArray) (w' : World) : Prop where
  out : Below w.heap.size w w'
  sz : At w' w.heap.size #[.int .i64 m] 3
  res : At w' (w.heap.size + 1) Z 36
  pks : At w' (w.heap.size + 2) #[.slice a k c] 43
  enc : At w' (w.heap.size + 3) E 36
  err : At w' (w.heap.size + 4) #[.int .i64 0] 37
  own : Sgs w' (w.heap.size + 5) a k c G
section
variable {w w1 w2 : World} {m k c : Nat} {Z E : Array Value} {a : Option Addr} {G : Nat → ByteArray}
theorem AlS.next (h : AlS w m Z E a k c G w1) (hb : Below w1.heap.size w1 w2) : AlS w m Z E a k c G w2 :=
  ⟨below_trans h.out hb h.out.size, h.sz.below hb h.sz.lt, h.res.below hb h.res.lt, h.pks.below hb h.pks.lt, h.enc.below hb h.enc.lt, h.err.below hb h.err.lt, h.own.below hb⟩
theorem Sgs.setCell {w : World} {B n c : Nat} {a : Option Addr} {G : Nat → ByteArray} (h : Sgs w B a n c G) {b i : Nat} (v : Value) (hb : b < B) : Sgs (w.setCell ⟨b, i, none⟩ v) B a n c G :=
  h.keep fun g hg => by
    have hne : b ≠ g := by have := (h.block g hg).1; omega
    unfold World.setCell
    simp [Array.getElem?_modify, hne]
theorem AlS.setR (h : AlS w m Z E a k c G w1) : AlS w m Z E a k c G (w1.setCell ⟨w.heap.size + 4, 0, none⟩ (.int .i64 0)) :=
  ⟨h.out.setCell (by dsimp only; omega) _, h.sz.setCell_other (by dsimp only; omega), h.res.setCell_other (by dsimp only; omega), h.pks.setCell_other (by dsimp only; omega), h.enc.setCell_other (by dsimp only; omega), (At.setCell h.err (v := .int .i64 0) (i := 0) : _), Sgs.setCell h.own _ (by omega)⟩
theorem AlS.grown (h : AlS w m Z E a k c G w1) {a' : Option Addr} {c' : Nat} (hg : w1.grownBy w2 (Value.slice a k c).ownBlock) (hb : Below (w.heap.size + 5) w1 w2) (ho : Sgs w2 (w.heap.size + 5) a' (k + 1) c' G) :
    AlS w m Z E a' (k + 1) c' G (w2.setCell ⟨w.heap.size + 2, 0, none⟩ (.slice a' (k + 1) c')) := by
  have hx : ∀ b, b < w.heap.size + 5 → (Value.slice a k c).ownBlock ≠ some b := fun b hb e => by have := (h.own.block b e).1; omega
  refine ⟨(h.out.trans ⟨hb.os, hb.tape, hb.output, hb.size, fun k hk => hb.block k (by omega)⟩).setCell (by dsimp only; omega) _, (h.sz.grown hg (hx _ (by omega))).setCell_other (by dsimp only; omega), (h.res.grown hg (hx _ (by omega))).setCell_other (by dsimp only; omega), (At.setCell (h.pks.grown hg (hx _ (by omega))) (v := .slice a' (k + 1) c') (i := 0) : _), (h.enc.grown hg (hx _ (by omega))).setCell_other (by dsimp only; omega), (h.err.grown hg (hx _ (by omega))).setCell_other (by dsimp only; omega), Sgs.setCell ho _ (by omega)⟩
end

end Go.Proofs.YtfohinlldchdpaaGreatDoor.En
end

section
/- What stage 15's laws share: the example, one frame, a row of frames written out. -/
set_option maxRecDepth 100000
set_option linter.unusedVariables false
namespace Go.Proofs.YtfohinlldchdpaaGreatDoor.En
open Go.RowKit Go.Proofs.YtfohinlldchdpaaGreatDoor.Row Go.Proofs.YtfohinlldchdpaaGreatDoor.Rg Go.Proofs.YtfohinlldchdpaaGreatDoor.Md Go.Proofs.YtfohinlldchdpaaGreatDoor.Tl Go.Proofs.YtfohinlldchdpaaGreatDoor.Sta

theorem map3 {f : Operand → Value} {x1 x2 x3 : Operand} {v1 v2 v3 : Value} (h1 : f x1 = v1) (h2 : f x2 = v2) (h3 : f x3 = v3) : #[x1, x2, x3].map f = #[v1, v2, v3] := by simp [h1, h2, h3]

set_option maxHeartbeats 1000000 in
theorem awake_as (w : World) (hT : Lv.Tab w) : Calls Tryz.prog 10 #[] w fun e w' => e = .returned (.bool true) ∧ Below w.heap.size w w' := by
  obtain ⟨Ze, hZe, _, hze, hie⟩ := zero_ep
  obtain ⟨G, hG, bG⟩ := ebuilt_0 isEn_p
  obtain ⟨D, hD, bD⟩ := Sta.built_b
  obtain ⟨B, hB⟩ : ∃ B, (⟨(pkt (fun _ => 0) (fun _ => 0) 10).toArray⟩ : ByteArray) = B := ⟨_, rfl⟩
  have hlen : B.size = 10 := by
    rw [← hB]
    show (pkt (fun _ => 0) (fun _ => 0) 10).toArray.size = 10
    rw [List.size_toArray]; exact pkt_length re_zero (by omega) (by omega)
  have HEN := Lib.hid (as_E (encode_yes G D (fun _ => 0) (fun _ => 0) 10 B w hG hD (by omega) (by omega) re_zero (fun _ _ => by dsimp only; omega) hB hT) (by rw [nx_none 10 fun _ _ => rfl]; exact hG))
  have e1 := en_eq_p hG hG (fun _ _ => rfl)
  have HG := Lib.hid hG
  have HD := Lib.hid hD
  have HBG := Lib.hid bG
  have HBD := Lib.hid bD
  have HIE := Lib.hid hie
  have HZE := Lib.hid hZe.1
  clear hT hG hD bG bD hie hZe hB
  go_enter Tryz.func10, Tryz.ntmps10
  go_wp2_with (first
    | refine wpList_build_parts (by rfl) 36 [] rfl _ rfl HBG.out ?_
    | refine wpList_build_parts (by rfl) 32 [] rfl _ rfl HBD.out ?_)
  refine HEN.out.mono ?_
  rintro e W1 ⟨rfl, hb⟩
  have HB := Lib.hid hb
  clear hb
  go_wp2_with (first
    | (refine wpList_store_row rfl 36 _ _ rfl W1.heap.size G rfl rfl _ _ (heap_alloc_new _ _) (HIE.out _ HG.out.1) (by rw [HZE.out, HG.out.1]) HG.out.2.1 ?_; rw [World.setRow_alloc_new]
       have HB2 := Lib.hid (HB.out.alloc HB.out.size (.cells G 36))
       have HA := Lib.hid (At.new W1 G 36)
       revert HB2 HA
       generalize W1.heap.size = b1
       generalize World.alloc _ _ = W2
       intro HB2 HA)
    | refine wpList_load_all (by rfl) 36 _ rfl b1 rfl HG.out HA.out Tryz.underlying36 rfl HIE.out ?_
    | refine wpList_build_parts (by rfl) 36 [] rfl _ rfl HBG.out ?_)
  go_ret
  exact ⟨rfl, HB2.out⟩

theorem run_assign {o : Oper} {a : Act} {w : World} {y : Operand} {v : Value} (ho : o.op = .assign y) (hy : a.eval y = v) : (execOp a.eval o).run Tryz.prog w = .ok (.value v) w := by
  unfold execOp; simp only [ho, hy]; rfl
theorem enter_encode (args : Array Value) (w : World) : (callFunc 12 args).run Tryz.prog w = .ok (.enter 12 args) w := run_enter Tryz.func12 (by kernel_rfl) rfl args w
end Go.Proofs.YtfohinlldchdpaaGreatDoor.En
end

section
/- More that operations of a region yield; what stage 15's laws compare. -/
set_option maxRecDepth 100000
set_option linter.unusedVariables false
namespace Go.Proofs.YtfohinlldchdpaaGreatDoor.En
open Go.RowKit Go.Proofs.YtfohinlldchdpaaGreatDoor.Row Go.Proofs.YtfohinlldchdpaaGreatDoor.Rg Go.Proofs.YtfohinlldchdpaaGreatDoor.Md Go.Proofs.YtfohinlldchdpaaGreatDoor.Tl Go.Proofs.YtfohinlldchdpaaGreatDoor.Sta

section
variable {ops : Array Oper} {S : World → Prop} {a : Act} {oi : Oper}
theorem y_rem {t t' : TypeId} {y z : Operand} {m n r : Int} (hw : Region.wanted oi (yielded ops a.tmps) = true) (ho : oi.op = .binOp .rem t y z t') (hy : a.eval y = .int .i64 m) (hz : a.eval z = .int .i64 n) (hn : n ≠ 0) (hr : m.tmod n = r) : YieldsIf Tryz.prog ops S oi (.int .i64 r) a :=
  y_run hw fun w => by
    unfold execOp
    simp only [ho, hy, hz]
    simp [go_sem, hn, hr]
theorem y_eqs {t' : TypeId} {y z : Operand} {B : ByteArray} (hw : Region.wanted oi (yielded ops a.tmps) = true) (ho : oi.op = .binOp .eql 9 y z t') (hy : a.eval y = .string B) (hz : a.eval z = .string B) : YieldsIf Tryz.prog ops S oi (.bool true) a :=
  y_run hw fun w => by
    unfold execOp
    simp only [ho, hy, hz]
    simp [go_sem]
end

theorem enter_eright (args : Array Value) (w : World) : (callFunc 14 args).run Tryz.prog w = .ok (.enter 14 args) w := run_enter Tryz.func14 (by kernel_rfl) rfl args w
theorem enter_rright (args : Array Value) (w : World) : (callFunc 17 args).run Tryz.prog w = .ok (.enter 17 args) w := run_enter Tryz.func17 (by kernel_rfl) rfl args w
end Go.Proofs.YtfohinlldchdpaaGreatDoor.En
end
