/- Moves through a region that draws its order: calls whose results are known by what holds of them; rows loaded out of the world at hand. -/
import Derived.Test.YtbbeekpndhfpjaaRowMv
namespace Go.Proofs.Ytbbeekpndhfpjaa.Row
open Go.RowKit

section
variable {ops : Array Oper} {Q : Exit → Act → World → Prop} {S : World → Prop} {fuel : Nat} {listed : Array Bool} {a : Act} {w : World} {oi : Oper} {i d : Nat} {rs : List Nat}

/-- A call by its contract, its result known by what holds of it, where others may come up too. -/
theorem ar_callE {f : FuncId} {xs : Array Operand} {ats : Array TypeId} {R : Value → World → Prop} (args : Array Value) (hi : ops[i]? = some oi) (hd : oi.dst = some d) (hw : Region.wanted oi (yielded ops a.tmps) = true)
    (ho : oi.op = .call { callee := .value (.func f), args := xs, argTypes := ats }) (hn : ∀ args w, (callFunc f args).run Try.prog w = .ok (.enter f args) w)
    (ha : xs.map a.eval = args) (hc : Calls Try.prog f args w fun e w' => ∃ v, e = .returned v ∧ R v w') (hR : ∀ v w', R v w' → S w')
    (h : ∀ v w', R v w' → S w' → wpAnyH Try.prog .any ops (NoPanic Q) S fuel (listed.setIfInBounds i true) (a.put (some d) v) w')
    (hs : AllReadyH Try.prog .any ops (NoPanic Q) S fuel listed a w rs) : AllReadyH Try.prog .any ops (NoPanic Q) S fuel listed a w (i :: rs) := by
  refine AllReadyH.cons hi (fun K hK => ?_) hs
  rw [if_pos hw]
  obtain ⟨dst, op, type, pos, after, guard⟩ := oi
  dsimp only at ho hd
  subst ho hd
  unfold Oper.wp
  rw [execOp_call_go]
  have e : (#[] ++ xs.map a.eval ++ #[] : Array Value) = xs.map a.eval := by simp
  rw [e, hn, ha]
  show Calls Try.prog f args w _
  refine hc.mono fun e w' ⟨v, he, hb⟩ => ?_
  subst he
  exact hK.out _ _ (hR v w' hb) fun _ => h v w' hb (hR v w' hb)

/-- A whole row loaded out of the world at hand, where others may come up too. -/
theorem ar_load {t t' e : TypeId} {x : Operand} {b m : Nat} {A : Array Value} (hi : ops[i]? = some oi) (hd : oi.dst = some d) (hw : Region.wanted oi (yielded ops a.tmps) = true) (ho : oi.op = .load t x)
    (hx : a.eval x = .pointer (some ⟨b, 0, none⟩)) (hA : At w b A t') (hu : Try.prog.underlying t = some (.array m e)) (hsz : (Try.prog.info? t).map (·.size) = some A.size) (hS : S w)
    (h : wpAnyH Try.prog .any ops (NoPanic Q) S fuel (listed.setIfInBounds i true) (a.put (some d) (.agg A)) w)
    (hs : AllReadyH Try.prog .any ops (NoPanic Q) S fuel listed a w rs) : AllReadyH Try.prog .any ops (NoPanic Q) S fuel listed a w (i :: rs) := by
  refine AllReadyH.cons hi (fun K hK => ?_) hs
  rw [if_pos hw]
  have hr : (execOp a.eval oi).run Try.prog w = .ok (.value (.agg A)) w := by
    unfold execOp
    simp only [ho, hx, run_load hu hA hsz, Sem.run_bind, Sem.run_pure, Result.andThen_ok]
  unfold Oper.wp
  rw [hr, Oper.upon_value, hd]
  exact hK.out _ _ hS fun _ => h
end
end Go.Proofs.Ytbbeekpndhfpjaa.Row
