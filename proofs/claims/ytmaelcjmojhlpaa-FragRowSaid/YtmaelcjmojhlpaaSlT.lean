/- Slices of texts that came in. -/
import Derived.Test.YtmaelcjmojhlpaaSl0
import Derived.Deep.Strs
set_option maxRecDepth 100000
namespace Go.Proofs.Ytmaelcjmojhlpaa.Row
open Go.ChangeShapes Go.WideShapes Go.ChangeAt Go.RowKit

/-- 'a, n, c' are a slice of n texts: S's. -/
def SlT (w : World) (a : Option Addr) (n c : Nat) (S : Nat → ByteArray) : Prop :=
  n ≤ c ∧ c ≤ maxLen ∧ (∀ i, i < n → (S i).size ≤ maxLen) ∧ (0 < n → ∃ b o, a = some ⟨b, o, none⟩ ∧ ∀ i, i < n → w.cell? ⟨b, o + i, none⟩ = some (.string (S i)))
theorem SlT.below {w w' : World} {a : Option Addr} {n c : Nat} {S : Nat → ByteArray} (h : SlT w a n c S) (hb : Below w.heap.size w w') : SlT w' a n c S :=
  ⟨h.1, h.2.1, h.2.2.1, fun hn => by
    obtain ⟨b, o, e, hc⟩ := h.2.2.2 hn
    exact ⟨b, o, e, fun i hi => by rw [Below.cell hb (block_lt_of_cell (hc i hi))]; exact hc i hi⟩⟩

/-- A slice of texts that came in. -/
theorem open_texts_in {H : Type} {enc : TypeId × Value → H} {W : World} {r : Reach} {base b0 : Nat} {held : Bool} {t e : TypeId} {v : Value} {d : DataW H} {ps : List MemPlace}
    (hu : Try.prog.underlying t = some (.slice e)) (he : Try.prog.underlying e = some .string) (hc : Try.prog.cellsOf e = 1)
    (hok : Value.okWide Try.prog W r b0 t v) (h : DataW.Trod enc Try.prog W base (fun _ => true) held t v d ps) :
    ∃ (a : Option Addr) (n c : Nat) (S : Nat → ByteArray), v = .slice a n c ∧ SlT W a n c S := by
  obtain ⟨a, n, c, rfl⟩ := okWide_slice hu hok
  obtain ⟨fuel, hf⟩ := h
  rcases Go.Deep.open_strs hu he hc hf with ⟨hcs, _⟩ | ⟨x, l, c', m, B, hcs, _, hl, hm, hmm, _, hcell⟩
  · simp [Value.cells] at hcs
    obtain ⟨rfl, rfl, rfl⟩ := hcs
    exact ⟨none, 0, 0, fun _ => ByteArray.empty, rfl, Nat.le_refl _, Nat.zero_le _, fun i h => absurd h (Nat.not_lt_zero i), fun h => absurd h (Nat.lt_irrefl _)⟩
  · simp only [if_true] at hmm
    subst hmm
    simp [Value.cells] at hcs
    obtain ⟨rfl, rfl, rfl⟩ := hcs
    refine ⟨some x, n, c, B, rfl, hl, hm, fun i hi => (hcell i (by omega)).2, fun hn => ?_⟩
    have h0 := (hcell 0 (by omega)).1
    have hx : x.spot = none := by
      unfold World.cell? at h0
      split at h0
      · simp only [Addr.add] at h0
        by_cases hs : x.spot.isSome = true
        · simp [hs] at h0
        · simpa using hs
      · cases h0
    obtain ⟨b, o, s⟩ := x
    simp only at hx
    subst hx
    refine ⟨b, o, rfl, fun i hi => ?_⟩
    have := (hcell i (by omega)).1
    unfold Addr.add at this
    by_cases e0 : i = 0
    · subst e0; simpa using this
    · simpa [e0] using this
end Go.Proofs.Ytmaelcjmojhlpaa.Row
