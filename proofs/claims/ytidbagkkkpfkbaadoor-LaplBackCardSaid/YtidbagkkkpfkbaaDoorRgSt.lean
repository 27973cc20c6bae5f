/- Plain mathematics of a range coder: a decoder in step with a coder. -/
import Derived.Test.YtidbagkkkpfkbaaDoorRgG
import Derived.Test.YtidbagkkkpfkbaaDoorRgText
set_option maxRecDepth 100000
set_option linter.unusedVariables false
namespace Go.Proofs.YtidbagkkkpfkbaaDoor.Rg
open Go.RowKit Go.Proofs.YtidbagkkkpfkbaaDoor.Row

theorem take_snoc (L : List Cl) (k : Nat) (C : Cl) (h : L[k]? = some C) : L.take (k + 1) = L.take k ++ [C] := by
  rw [List.take_add_one, h]; rfl

theorem run_take {L : List Cl} (hL : ∀ C ∈ L, C.ok) (k : Nat) : (St.new.run (L.take k)).ok ∧ (St.new.run (L.take k)).g ≤ 2 * k := by
  have h : ∀ C ∈ L.take k, C.ok := fun C hC => hL C (List.mem_of_mem_take hC)
  refine ⟨run_ok new_ok h, ?_⟩
  have h1 := run_g_le (x := St.new) new_ok h
  have h2 : (L.take k).length ≤ k := List.length_take_le _ _
  have h3 : St.new.g = 0 := rfl
  omega

/-- The decoder of the number N of 4 + G bytes where the coder is x. -/
def dtOf (N G : Nat) (x : St) : Dt := ⟨code N G x, x.r, x.g⟩

theorem feed_nextC {N G : Nat} : ∀ (k i c q : Nat), c < q → q * 256 ^ k ≤ 4294967295 → feed (digit N G) i k c = nextC N G i k c
  | 0, _, _, _, _, _ => rfl
  | k + 1, i, c, q, hc, hq => by
    have hp : 1 ≤ 256 ^ k := Nat.pow_pos (by omega)
    have hq2 : q * 256 * 256 ^ k ≤ 4294967295 := by rw [Nat.mul_assoc, ← Nat.pow_succ']; exact hq
    have hq3 : q * 256 ≤ q * 256 * 256 ^ k := Nat.le_mul_of_pos_right _ (by omega)
    have hd := digit_lt N G i
    rw [feed, nextC, Nat.mod_eq_of_lt (by omega)]
    exact feed_nextC k (i + 1) _ (q * 256) (by omega) hq2

theorem dt_first {N G : Nat} (h : N < 4294967296 * 256 ^ G) : Dt.new (digit N G) = dtOf N G St.new := by
  have d0 := digit_lt N G 0
  have d1 := digit_lt N G 1
  have d2 := digit_lt N G 2
  have d3 := digit_lt N G 3
  unfold Dt.new dtOf
  have e : feed (digit N G) 0 4 0 = code N G St.new := by
    unfold code
    rw [show St.new.g = 0 from rfl, show St.new.L = 0 from rfl, Nat.sub_zero, Nat.sub_zero, code_first N G h]
    simp only [feed, Nat.zero_add, Nat.reduceAdd]
    omega
  rw [e]
  rfl

theorem in_step {N G : Nat} {x : St} {C : Cl} (hx : x.ok) (hC : C.ok) (h : In N G (x.put C)) :
    C.s ≤ (dtOf N G x).place C.t ∧ (dtOf N G x).place C.t < C.s + C.w ∧ (dtOf N G x).take (digit N G) C = dtOf N G (x.put C) := by
  obtain ⟨b1, b2, b3, b4⟩ := step_bd hx hC
  obtain ⟨p1, p2, p3⟩ := place_in hx hC h
  obtain ⟨q1, q2⟩ := sh_spec b3 b4
  have hp := place_of (by omega) p1 p2 hC.2.2.2
  have hcl : code N G x < x.r := by
    rw [Nat.mul_add] at p2
    omega
  refine ⟨hp.1, hp.2, ?_⟩
  unfold Dt.take dtOf
  dsimp only
  have e1 : (code N G x + 4294967296 - x.r / C.t * C.s) % 4294967296 = code N G x - x.r / C.t * C.s := by
    have := hx.2.1
    omega
  have e2 : feed (digit N G) (4 + x.g) (sh (x.r / C.t * C.w)) (code N G x - x.r / C.t * C.s) = code N G (x.put C) := by
    rw [feed_nextC _ _ _ (x.r / C.t * C.w) (by rw [Nat.mul_add] at p2; omega) q2]
    exact take_code hx hC h
  rw [e1, e2]
  rfl

theorem dtOf_ok {N G : Nat} {x : St} (hx : x.ok) (h : In N G x) : (dtOf N G x).ok := by
  have := code_lt h
  have h2 := hx.2.1
  exact ⟨hx.1, h2, by show code N G x ≤ _; omega⟩

theorem dtOf_used (N G : Nat) (x : St) : (dtOf N G x).used = x.used := rfl

/-- Where a coder has put all of L, it lies in the cells of the first ones. -/
theorem in_take {L : List Cl} (hL : ∀ C ∈ L, C.ok) (k : Nat) : In (St.new.run L).L (St.new.run L).g (St.new.run (L.take k)) := by
  have h := in_of (l := L.drop k) (x := St.new.run (L.take k)) (run_take hL k).1 fun C hC => hL C (List.mem_of_mem_drop hC)
  rw [← run_append, List.take_append_drop] at h
  exact h

theorem text_digit (x : St) (size : Nat) : byteF (x.text size) = digit x.L x.g := by
  funext i
  exact text_byte x size i
end Go.Proofs.YtidbagkkkpfkbaaDoor.Rg
