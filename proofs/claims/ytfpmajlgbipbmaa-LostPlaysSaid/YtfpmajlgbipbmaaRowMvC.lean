/- A move more through a drawn region that ends in a store: a number stored into a cell that the region itself reads. -/
import Derived.Test.YtfpmajlgbipbmaaRowMvF
namespace Go.Proofs.Ytfpmajlgbipbmaa.Row
open Go.RowKit

theorem run_storeAt_int {w : World} {p : Addr} {u : Value} (v : Int) (hc : w.cell? p = some u) (hf : w.frozen? p = false) : (Instr.storeAt 3 (.pointer (some p)) (.int .i64 v)).run Try.prog w = .ok () (w.setCell p (.int .i64 v)) := by
  have e : p.add 0 = p := by unfold Addr.add; simp
  simp [e, Instr.storeAt, Instr.sureAddr, storeVar, storeCells, Value.cells, run_store_int, stored, hc, hf]

section
variable {ops : Array Oper} {Q : Exit → Act → World → Prop} {S : World → Prop} {F : Nat → Bool} {fuel : Nat} {listed : Array Bool} {a : Act} {w : World} {oi : Oper} {i : Nat} {rs : List Nat}

/-- A number stored into a cell, by one of F. -/
theorem af_cell {x y : Operand} (p : Addr) (v : Int) {u : Value} (hi : ops[i]? = some oi) (hd : oi.dst = none) (hw : Region.wanted oi (yielded ops a.tmps) = true)
    (ho : oi.op = .store 3 x y) (hF : F i = true) (hx : a.eval x = .pointer (some p)) (hy : a.eval y = .int .i64 v) (hc : w.cell? p = some u) (hf : w.frozen? p = false)
    (h : wpAnyF Try.prog .any ops (NoPanic Q) S F fuel (listed.setIfInBounds i true) a (w.setCell p (.int .i64 v)))
    (hs : AllReadyF Try.prog .any ops (NoPanic Q) S F fuel listed a w rs) : AllReadyF Try.prog .any ops (NoPanic Q) S F fuel listed a w (i :: rs) := by
  refine AllReadyF.cons hi (fun K hK => ?_) hs
  rw [if_pos hw]
  unfold Oper.wp execOp
  simp only [ho, hx, hy, Sem.run_bind, Sem.run_pure, Result.andThen_ok, run_storeAt_int v hc hf]
  rw [Oper.upon_skip, hd]
  exact hK.out _ _ (fun h => by rw [hF] at h; cases h) h
end
end Go.Proofs.Ytfpmajlgbipbmaa.Row
