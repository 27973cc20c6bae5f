/- Texts of the walk, one behind the other. -/
import Derived.Test.YtbbeekpndhfpjaaSegLastsM6
import Derived.OrdersIn
import Derived.OwnWalkIn

section
/- Moves through a drawn region inside a round of a range over a function. For every package. -/
set_option maxRecDepth 100000
set_option linter.unusedVariables false
namespace Go.Proofs.Ytbbeekpndhfpjaa.Row
open Go.RowKit

theorem rows_wide {n : Nat} {P : Program} {row : String} {args : Array Value} {w : World} {R : Value → World → Prop} (h : Rows P row args w R) : RowsIn Fence.wide n P row args w R :=
  fun c cs _ => let ⟨v, w', r, s⟩ := h c cs; ⟨v, w', r, stepsIn_wide.2 s⟩
theorem calls_round {l n : Nat} {P : Program} {f : FuncId} {args : Array Value} {w : World} {R : Ending → World → Prop} (h : Calls P f args w R) : CallsIn (Fence.wide.inRound l) n P f args w R := callsIn_wide.2 h

/-- What an operation does in a round is what it does outside, if it defers nothing. -/
theorem oper_round {l n : Nat} {P : Program} {o : Oper} {a : Act} {w : World} {K : Act → World → Prop} {Q : Exit → Act → World → Prop} (hd : ∀ c, o.op ≠ .defer c) (h : o.wp P a w K Q) : o.wpIn (Fence.wide.inRound l) n P a w K Q := by
  refine ⟨fun _ _ => trivial, ?_⟩
  rw [Oper.semAt_plain _ _ _ hd]
  unfold Oper.wp at h
  generalize (execOp a.eval o).run P w = r at *
  cases r with
  | ok x w' =>
    cases x with
    | value v => exact h
    | skip => exact h
    | defer d => exact h
    | enter f args =>
      refine ⟨fun e => (by cases e), calls_round (Calls.mono h fun e w'' he => ?_)⟩
      cases e <;> exact he
    | row row args => exact ⟨fun e => (by cases e), rows_wide h⟩
    | _ => exact h.elim
  | halt x w' => cases x <;> first | exact h | exact h.elim

/-- No operation defers. -/
def noDefer (ops : Array Oper) : Bool := ops.all fun o => match o.op with
  | .defer _ => false
  | _ => true
theorem noDefer_spec {ops : Array Oper} (h : noDefer ops = true) {i : Nat} {o : Oper} (hi : ops[i]? = some o) : ∀ c, o.op ≠ .defer c := fun c hc => by
  have h2 := (Array.all_eq_true_iff_forall_mem.1 h) o (Array.mem_of_getElem? hi)
  rw [hc] at h2
  cases h2

theorem wpAny_round {l n : Nat} {P : Program} {md : Region.Mode} {ops : Array Oper} {Q : Exit → Act → World → Prop} (hd : noDefer ops = true) (hQ : ¬ LetsOut Q) :
    ∀ (fuel : Nat) (listed : Array Bool) (a : Act) (w : World), wpAny P md ops Q fuel listed a w → wpAnyIn (Fence.wide.inRound l) n P md ops Q fuel listed a w
  | 0, _, _, _, h => h
  | fuel + 1, listed, a, w, h => ⟨h.1, fun i hi => by
      have h2 := h.2 i hi
      have ih := fun a w => wpAny_round (P := P) (md := md) (l := l) (n := n) hd hQ fuel (listed.setIfInBounds i true) a w
      unfold wpOp at h2
      unfold wpOpIn
      cases ho : ops[i]? with
      | none => rw [ho] at h2; exact ih _ _ h2
      | some o =>
        rw [ho] at h2
        dsimp only at h2 ⊢
        split
        · rename_i hw
          rw [if_pos hw] at h2
          rcases h2 with h2 | ⟨_, h2⟩
          · refine oper_round (noDefer_spec hd ho) ?_
            have h3 := wpOp_mono (P := P) (ops := ops) (Q := Q) (i := i) (a := a) (w := w) (K := wpAny P md ops Q fuel (listed.setIfInBounds i true)) (K' := wpAnyIn (Fence.wide.inRound l) n P md ops Q fuel (listed.setIfInBounds i true)) (fun a' w' h' => ih a' w' h') (h.2 i hi)
            unfold wpOp at h3
            rw [ho] at h3
            dsimp only at h3
            rw [if_pos hw] at h3
            rcases h3 with h3 | ⟨_, h3⟩
            · exact h3
            · exact absurd h3 hQ
          · exact absurd h2 hQ
        · rename_i hw
          rw [if_neg hw] at h2
          exact ⟨fun _ _ => trivial, ih _ _ h2⟩⟩

/-- The post of a region that is gone through to its end. -/
def AtEnd (Q : Exit → Act → World → Prop) : Exit → Act → World → Prop := fun e a w => e = .normal ∧ Q .normal a w
theorem atEnd_shut (Q : Exit → Act → World → Prop) : ¬ LetsOut (NoPanic (AtEnd Q)) := fun ⟨_, _, h⟩ => by cases h.1
/-- As mf_start, inside a round; mf_done's goal is AtEnd's then: in_done. -/
theorem mf_startIn {ops : Array Oper} {Q : Exit → Act → World → Prop} {a : Act} {w : World} {id l n : Nat} (S : World → Prop) (F : Nat → Bool) (hd : noDefer ops = true) (hS : S w.drew)
    (h : S w.drew → wpAnyF Try.prog .any ops (NoPanic (AtEnd Q)) S F ops.size (Array.replicate ops.size false) a w.drew) : (Code.region id ops true).wpIn (Fence.wide.inRound l) n Try.prog Q a w := by
  refine wpIn_mono (wpIn_region_any (by kernel_rfl) (wpAny_round hd (atEnd_shut Q) _ _ _ _ (wpAny_of_F _ _ _ _ (h hS)))) fun e a w h => ?_
  cases e with
  | panic _ => exact h.elim
  | normal => exact h.2
  | _ => cases h.1
theorem in_done {Q : Exit → Act → World → Prop} {a : Act} {w : World} (h : Q .normal a w) : AtEnd Q .normal a w := ⟨rfl, h⟩
end Go.Proofs.Ytbbeekpndhfpjaa.Row
end
