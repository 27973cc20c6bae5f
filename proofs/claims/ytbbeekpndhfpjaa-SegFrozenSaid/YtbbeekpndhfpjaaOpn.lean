/- A struct (or a row) all of whose cells are whole numbers, however deep, that comes in as an argument: its numbers. -/
import Derived.Test.YtbbeekpndhfpjaaRow
import Derived.ChangeArms
set_option linter.unusedVariables false
set_option maxRecDepth 100000
namespace Go.Proofs.Ytbbeekpndhfpjaa.Row
open Go.ChangeShapes Go.WideShapes Go.ChangeAt Go.RowKit

/-- Whatever is read as t is numbers, cell by cell. -/
def Flat {H : Type} (enc : TypeId × Value → H) (W : World) (base : Nat) (sp : Nat → Bool) (held : Bool) (t : TypeId) : Prop :=
  ∀ fuel cs x, DataW.trod enc Try.prog W base sp held fuel t cs = some x → ∀ k, k < Try.prog.cellsOf t → ∃ n : Int, cs[k]? = some (.int .i64 n) ∧ (Lit.int .i64 n).wf = true

section
variable {H : Type} {enc : TypeId × Value → H} {W : World} {base : Nat} {sp : Nat → Bool} {held : Bool} {t e : TypeId} {m : Nat}

theorem Flat.int (ht : Try.prog.underlying t = some (.int .i64)) (hc : Try.prog.cellsOf t = 1) : Flat enc W base sp held t := fun fuel cs x h k hk => by
  obtain ⟨n, rfl, _, hw⟩ := DataW.trod_int ht h
  obtain rfl : k = 0 := by omega
  exact ⟨n, rfl, hw⟩

theorem Flat.part {cs : List Value} {o c k : Nat} {v : Value} (h : ((cs.drop o).take c)[k]? = some v) : cs[o + k]? = some v := by
  have hk : k < c := by
    have h1 := (List.getElem?_eq_some_iff.1 h).1
    simp only [List.length_take] at h1
    omega
  rw [List.getElem?_take_of_lt hk, List.getElem?_drop] at h
  exact h

theorem Flat.array (hf : Flat enc W base sp held e) (ht : Try.prog.underlying t = some (.array m e)) (hc : Try.prog.cellsOf t = m * Try.prog.cellsOf e) : Flat enc W base sp held t := fun fuel cs x h k hk => by
  obtain ⟨xs, n, _, _, hl, hx, hi⟩ := DataW.trod_array ht h
  rw [hc] at hk
  have hc0 : 0 < Try.prog.cellsOf e := by
    rcases Nat.eq_zero_or_pos (Try.prog.cellsOf e) with h0 | h0
    · rw [h0] at hk; omega
    · exact h0
  have hd : k / Try.prog.cellsOf e < m := (Nat.div_lt_iff_lt_mul hc0).2 hk
  have hr := hi _ hd
  rw [List.getElem?_eq_getElem (by omega)] at hr
  obtain ⟨v, hv, hw⟩ := hf _ _ _ hr _ (Nat.mod_lt k hc0)
  refine ⟨v, ?_, hw⟩
  have := Flat.part hv
  rwa [Nat.mul_comm, Nat.div_add_mod] at this

theorem Flat.struct {fs : Array Field} (ht : Try.prog.underlying t = some (.struct fs)) (hf : ∀ (i : Nat) (f : Field), fs[i]? = some f → Flat enc W base sp held f.type)
    (hc : ∀ k, k < Try.prog.cellsOf t → ∃ (i : Nat) (f : Field), fs[i]? = some f ∧ f.offset ≤ k ∧ k < f.offset + Try.prog.cellsOf f.type) : Flat enc W base sp held t := fun fuel cs x h k hk => by
  obtain ⟨xs, n, _, _, hl, hx, hi⟩ := DataW.trod_struct ht h
  obtain ⟨i, f, h1, h2, h3⟩ := hc k hk
  have hs : i < xs.length := by rw [hx]; exact (Array.getElem?_eq_some_iff.1 h1).1
  have hr := hi i f h1
  rw [List.getElem?_eq_getElem hs] at hr
  obtain ⟨v, hv, hw⟩ := hf i f h1 _ _ _ hr (k - f.offset) (by omega)
  refine ⟨v, ?_, hw⟩
  have := Flat.part hv
  rwa [Nat.add_sub_cancel' h2] at this

theorem open_flat {r : Reach} {b0 : Nat} {v : Value} {d : DataW H} {ps : List MemPlace} {td : TypeDesc} (hu : Try.prog.underlying t = some td) (hd : td.isRow = true) (hf : Flat enc W base sp held t) (hm : Try.prog.cellsOf t = m)
    (hok : Value.okWide Try.prog W r b0 t v) (h : DataW.Trod enc Try.prog W base sp held t v d ps) :
    ∃ T : Array Value, v = .agg T ∧ IsRow m (intsOf T) T ∧ ∀ k, k < m → (Lit.int .i64 (intsOf T k)).wf = true := by
  have hok' : ∃ T : Array Value, v = .agg T ∧ T.size = m := by
    unfold Value.okWide at hok
    rw [hu, hm] at hok
    cases td <;> first | (cases hd; done) | (obtain ⟨T, h1, h2, _⟩ := hok; exact ⟨T, h1, h2⟩)
  obtain ⟨T, rfl, hs⟩ := hok'
  obtain ⟨fuel, hfu⟩ := h
  have key : ∀ k, k < m → ∃ x : Int, T[k]? = some (.int .i64 x) ∧ (Lit.int .i64 x).wf = true := fun k hk => by
    obtain ⟨x, hx, wx⟩ := hf _ _ _ hfu k (by omega)
    exact ⟨x, by simpa [Value.cells] using hx, wx⟩
  have hi : ∀ k, k < m → T[k]? = some (.int .i64 (intsOf T k)) ∧ (Lit.int .i64 (intsOf T k)).wf = true := fun k hk => by
    obtain ⟨x, hx, wx⟩ := key k hk
    have : intsOf T k = x := by unfold intsOf; rw [hx]
    rw [this]
    exact ⟨hx, wx⟩
  refine ⟨T, rfl, ⟨hs, ?_, fun k hk => (hi k hk).1⟩, fun k hk => (hi k hk).2⟩
  rw [Array.all_eq_true]
  intro i hi'
  have := (hi i (by omega)).1
  rw [Array.getElem?_eq_getElem hi'] at this
  injection this with this
  rw [this]
  rfl
end
end Go.Proofs.Ytbbeekpndhfpjaa.Row
