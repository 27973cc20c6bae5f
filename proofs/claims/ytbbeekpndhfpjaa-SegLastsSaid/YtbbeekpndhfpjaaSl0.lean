/- Slices of numbers: how they lie, and slices that came in. -/
import Derived.Test.YtbbeekpndhfpjaaRowMv
set_option maxRecDepth 100000
set_option linter.unusedVariables false
namespace Go.Proofs.Ytbbeekpndhfpjaa.Row
open Go.ChangeShapes Go.WideShapes Go.ChangeAt Go.RowKit

/-- 'a, n, c' are a slice of n numbers of the kind k: f's. -/
def Sl (k : IntKind) (w : World) (a : Option Addr) (n c : Nat) (f : Nat → Int) : Prop :=
  n ≤ c ∧ c ≤ maxLen ∧ (0 < n → ∃ b o, a = some ⟨b, o, none⟩ ∧ ∀ i, i < n → w.cell? ⟨b, o + i, none⟩ = some (.int k (f i)))

theorem Sl.below {k : IntKind} {w w' : World} {a : Option Addr} {n c : Nat} {f : Nat → Int} (h : Sl k w a n c f) (hb : Below w.heap.size w w') : Sl k w' a n c f :=
  ⟨h.1, h.2.1, fun hn => by
    obtain ⟨b, o, e, hc⟩ := h.2.2 hn
    exact ⟨b, o, e, fun i hi => by rw [Below.cell hb (block_lt_of_cell (hc i hi))]; exact hc i hi⟩⟩

theorem Sl.ext {k : IntKind} {w : World} {a : Option Addr} {n c : Nat} {f g : Nat → Int} (h : Sl k w a n c f) (e : ∀ i, i < n → f i = g i) : Sl k w a n c g :=
  ⟨h.1, h.2.1, fun hn => by
    obtain ⟨b, o, ea, hc⟩ := h.2.2 hn
    exact ⟨b, o, ea, fun i hi => by rw [← e i hi]; exact hc i hi⟩⟩

theorem Sl.of_row {w : World} {g n c : Nat} {f : Nat → Int} {t : TypeId} (h : At w g (rowL c f n) t) (hn : n ≤ c) (hc : c ≤ maxLen) : Sl .i64 w (some ⟨g, 0, none⟩) n c f :=
  ⟨hn, hc, fun _ => ⟨g, 0, rfl, fun i hi => by
    have := rowL_cell h i (by omega)
    rw [if_pos hi] at this
    rw [Nat.zero_add]
    exact this⟩⟩

theorem Sl.of_isRow {w : World} {g n : Nat} {f : Nat → Int} {T : Array Value} {t : TypeId} (hT : IsRow n f T) (h : At w g T t) (hc : n ≤ maxLen) : Sl .i64 w (some ⟨g, 0, none⟩) n n f :=
  ⟨Nat.le_refl _, hc, fun _ => ⟨g, 0, rfl, fun i hi => by rw [Nat.zero_add]; exact hT.cell h i hi⟩⟩

theorem Sl.of_part {w : World} {g m : Nat} {f : Nat → Int} {T : Array Value} {t : TypeId} (hT : IsRow m f T) (h : At w g T t) (l n : Nat) (hm : l + n ≤ m) (hc : n ≤ maxLen) : Sl .i64 w (some ⟨g, l, none⟩) n n (fun i => f (l + i)) :=
  ⟨Nat.le_refl _, hc, fun _ => ⟨g, l, rfl, fun i hi => hT.cell h (l + i) (by omega)⟩⟩

/-- A slice that came in. -/
theorem open_slice_in {H : Type} {enc : TypeId × Value → H} {W : World} {r : Reach} {base b0 : Nat} {sp : Nat → Bool} {held : Bool} {t e : TypeId} {k : IntKind} {v : Value} {d : DataW H} {ps : List MemPlace}
    (hu : Try.prog.underlying t = some (.slice e)) (he : Try.prog.underlying e = some (.int k)) (hc : Try.prog.cellsOf e = 1)
    (hok : Value.okWide Try.prog W r b0 t v) (h : DataW.Trod enc Try.prog W base sp held t v d ps) :
    ∃ (a : Option Addr) (n c : Nat) (f : Nat → Int), v = .slice a n c ∧ Sl k W a n c f ∧ ∀ i, i < n → (Lit.int k (f i)).wf = true := by
  obtain ⟨a, n, c, rfl⟩ := okWide_slice hu hok
  obtain ⟨fuel, hf⟩ := h
  rcases open_ints hu he hc hf with ⟨hcs, _⟩ | ⟨x, l, c', zs, hcs, _, hl, hm, hz, _, hcell, hwz⟩
  · simp [Value.cells] at hcs
    obtain ⟨rfl, rfl, rfl⟩ := hcs
    exact ⟨none, 0, 0, fun _ => 0, rfl, ⟨Nat.le_refl _, Nat.zero_le _, fun h => absurd h (Nat.lt_irrefl _)⟩, fun i hi => absurd hi (Nat.not_lt_zero i)⟩
  · simp [Value.cells] at hcs
    obtain ⟨rfl, rfl, rfl⟩ := hcs
    have hzl : n ≤ zs.length := by rw [hz]; split <;> omega
    refine ⟨some x, n, c, fun i => zs.getD i 0, rfl, ⟨hl, hm, fun hn => ?_⟩, fun i hi => ?_⟩
    · have h0 := hcell 0 (by omega)
      have hx : x.spot = none := by
        unfold World.cell? at h0
        split at h0
        · simp only [Addr.add] at h0
          by_cases hs : x.spot.isSome = true
          · simp [hs] at h0
          · simpa using hs
        · cases h0
      obtain ⟨b, o, s⟩ := x
      simp only at hx
      subst hx
      refine ⟨b, o, rfl, fun i hi => ?_⟩
      have := hcell i (by omega)
      unfold Addr.add at this
      by_cases e0 : i = 0
      · subst e0; simpa using this
      · simpa [e0] using this
    · have hl' : i < zs.length := by omega
      have e : zs.getD i 0 = zs[i] := by simp [hl']
      show (Lit.int k (zs.getD i 0)).wf = true
      rw [e]
      exact hwz _ (List.getElem_mem hl')
end Go.Proofs.Ytbbeekpndhfpjaa.Row
