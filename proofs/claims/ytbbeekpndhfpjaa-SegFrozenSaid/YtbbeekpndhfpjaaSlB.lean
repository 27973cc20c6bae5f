/- Slices of bools that came in. -/
import Derived.Test.YtbbeekpndhfpjaaSl0
import Derived.Deep.Grids
set_option maxRecDepth 100000
namespace Go.Proofs.Ytbbeekpndhfpjaa.Row
open Go.ChangeShapes Go.WideShapes Go.ChangeAt Go.RowKit

/-- 'a, n, c' are a slice of n bools: t's. -/
def SlB (w : World) (a : Option Addr) (n c : Nat) (t : Nat → Bool) : Prop :=
  n ≤ c ∧ c ≤ maxLen ∧ (0 < n → ∃ b o, a = some ⟨b, o, none⟩ ∧ ∀ i, i < n → w.cell? ⟨b, o + i, none⟩ = some (.bool (t i)))
theorem SlB.below {w w' : World} {a : Option Addr} {n c : Nat} {t : Nat → Bool} (h : SlB w a n c t) (hb : Below w.heap.size w w') : SlB w' a n c t :=
  ⟨h.1, h.2.1, fun hn => by
    obtain ⟨b, o, e, hc⟩ := h.2.2 hn
    exact ⟨b, o, e, fun i hi => by rw [Below.cell hb (block_lt_of_cell (hc i hi))]; exact hc i hi⟩⟩

/-- A slice of bools that came in. -/
theorem open_bools_in {H : Type} {enc : TypeId × Value → H} {W : World} {r : Reach} {base b0 : Nat} {held : Bool} {t e : TypeId} {v : Value} {d : DataW H} {ps : List MemPlace}
    (hu : Try.prog.underlying t = some (.slice e)) (he : Try.prog.underlying e = some .bool) (hc : Try.prog.cellsOf e = 1)
    (hok : Value.okWide Try.prog W r b0 t v) (h : DataW.Trod enc Try.prog W base (fun _ => true) held t v d ps) :
    ∃ (a : Option Addr) (n c : Nat) (f : Nat → Bool), v = .slice a n c ∧ SlB W a n c f := by
  obtain ⟨a, n, c, rfl⟩ := okWide_slice hu hok
  obtain ⟨fuel, hf⟩ := h
  rcases Go.Deep.open_bools hu he hc hf with ⟨hcs, _⟩ | ⟨x, l, c', B, hcs, _, hl, hm, _, hcell⟩
  · simp [Value.cells] at hcs
    obtain ⟨rfl, rfl, rfl⟩ := hcs
    exact ⟨none, 0, 0, fun _ => false, rfl, Nat.le_refl _, Nat.zero_le _, fun h => absurd h (Nat.lt_irrefl _)⟩
  · simp [Value.cells] at hcs
    obtain ⟨rfl, rfl, rfl⟩ := hcs
    refine ⟨some x, n, c, B, rfl, hl, hm, fun hn => ?_⟩
    have h0 := hcell 0 (by omega)
    have hx : x.spot = none := by
      unfold World.cell? at h0
      split at h0
      · simp only [Addr.add] at h0
        by_cases hs : x.spot.isSome = true
        · simp [hs] at h0
        · simpa using hs
      · cases h0
    obtain ⟨b, o, s⟩ := x
    simp only at hx
    subst hx
    refine ⟨b, o, rfl, fun i hi => ?_⟩
    have := hcell i (by omega)
    unfold Addr.add at this
    by_cases e0 : i = 0
    · subst e0; simpa using this
    · simpa [e0] using this
end Go.Proofs.Ytbbeekpndhfpjaa.Row
