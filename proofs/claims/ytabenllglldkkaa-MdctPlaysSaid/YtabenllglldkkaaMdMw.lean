/- Moves through a drawn region, more: a slice of frames written out, a call of which it is remembered what stood ahead of it; where several may come up. -/
import Derived.Test.YtabenllglldkkaaMdSl
namespace Go.Proofs.Ytabenllglldkkaa.Md
open Go.RowKit Go.Proofs.Ytabenllglldkkaa.Ang

section
variable {ops : Array Oper} {Q : Exit → Act → World → Prop} {W : World} {fuel : Nat} {listed : Array Bool} {a : Act} {w : World} {oi : Oper} {i d : Nat} {rs : List Nat}

theorem ar_slice {t : TypeId} {n : Nat} {parts : Array (Nat × Operand)} {vs : Array (Nat × Value)} {C : Array Value} (hi : ops[i]? = some oi) (hd : oi.dst = some d) (hw : Region.wanted oi (yielded ops a.tmps) = true)
    (ho : oi.op = .buildSlice t n parts) (hv : (parts.map fun (i, x) => (i, a.eval x)) = vs)
    (hr : ∀ w, (Instr.buildSlice t n vs).run Try.prog w = .ok (.slice (some ⟨w.heap.size, 0, none⟩) n n) (w.alloc (.cells C 24))) (hS : SB W w)
    (h : SB W (w.alloc (.cells C 24)) → wpAnyH Try.prog .any ops (NoPanic Q) (SB W) fuel (listed.setIfInBounds i true) (a.put (some d) (.slice (some ⟨w.heap.size, 0, none⟩) n n)) (w.alloc (.cells C 24)))
    (hs : AllReadyH Try.prog .any ops (NoPanic Q) (SB W) fuel listed a w rs) : AllReadyH Try.prog .any ops (NoPanic Q) (SB W) fuel listed a w (i :: rs) := by
  refine AllReadyH.cons hi (fun K hK => ?_) hs
  rw [if_pos hw]
  unfold Oper.wp execOp
  simp only [ho, hv, hr, Sem.run_bind, Result.andThen_ok, Sem.run_pure]
  rw [Oper.upon_value, hd]
  have hS' : SB W (w.alloc (.cells C 24)) := Below.alloc hS (Below.size hS) _
  exact hK.out _ _ hS' h

theorem ar_call {f : FuncId} {xs : Array Operand} {ats : Array TypeId} {v : Value} (args : Array Value) (hi : ops[i]? = some oi) (hd : oi.dst = some d) (hw : Region.wanted oi (yielded ops a.tmps) = true)
    (ho : oi.op = .call { callee := .value (.func f), args := xs, argTypes := ats }) (hS : SB W w) (hn : ∀ args w, (callFunc f args).run Try.prog w = .ok (.enter f args) w)
    (ha : xs.map a.eval = args) (hc : Calls Try.prog f args w fun e w' => e = .returned v ∧ Below w.heap.size w w')
    (h : ∀ w', Below w.heap.size w w' → SB W w' → wpAnyH Try.prog .any ops (NoPanic Q) (SB W) fuel (listed.setIfInBounds i true) (a.put (some d) v) w')
    (hs : AllReadyH Try.prog .any ops (NoPanic Q) (SB W) fuel listed a w rs) : AllReadyH Try.prog .any ops (NoPanic Q) (SB W) fuel listed a w (i :: rs) := by
  refine AllReadyH.cons hi (fun K hK => ?_) hs
  rw [if_pos hw]
  obtain ⟨dst, op, type, pos, after, guard⟩ := oi
  dsimp only at ho hd
  subst ho hd
  unfold Oper.wp
  rw [execOp_call_go]
  have e : (#[] ++ xs.map a.eval ++ #[] : Array Value) = xs.map a.eval := by simp
  rw [e, hn, ha]
  show Calls Try.prog f args w _
  refine hc.mono fun e w' ⟨he, hb⟩ => ?_
  subst he
  have hS' : SB W w' := below_trans hS hb (Below.size hS)
  exact hK.out _ _ hS' fun _ => h w' hb hS'
end
end Go.Proofs.Ytabenllglldkkaa.Md
