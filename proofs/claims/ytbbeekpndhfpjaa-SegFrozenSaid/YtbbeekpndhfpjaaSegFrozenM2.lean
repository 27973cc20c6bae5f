/- Texts of the walk, one behind the other. -/
import Derived.Test.YtbbeekpndhfpjaaSegFrozenM1
import Derived.Test.YtbbeekpndhfpjaaPg0
import Derived.Laws.IdiomStrings

section
/- Bytes as a row of cells (carved out of PaB). -/
set_option maxRecDepth 100000
set_option linter.unusedVariables false
namespace Go.Proofs.Ytbbeekpndhfpjaa.Pa
open Go.RowKit Go.Proofs.Ytbbeekpndhfpjaa.Row

/-- Bytes as a row. -/
def bl (l : List UInt8) : Array Value := (l.map fun c => Value.int .u8 (c.toNat : Int)).toArray
theorem bl_size (l : List UInt8) : (bl l).size = l.length := by unfold bl; simp
theorem bl_get (l : List UInt8) (i : Nat) : (bl l)[i]? = l[i]?.map fun c => Value.int .u8 (c.toNat : Int) := by unfold bl; simp
theorem bl_at (l : List UInt8) (i : Nat) (h : i < l.length) : (bl l)[i]? = some (.int .u8 (B l i)) := by
  rw [bl_get, List.getElem?_eq_getElem h]
  unfold B
  rw [gd_get l i h]; rfl
theorem bl_row (l : List UInt8) {m : Nat} (h : l.length = m) : IsRow8 m (fun i => (B l i : Int)) (bl l) := isRow8_of (by rw [bl_size, h]) fun k hk => bl_at l k (by omega)
theorem bl_set (l : List UInt8) (k : Nat) (c : UInt8) : (bl l).setIfInBounds k (.int .u8 (c.toNat : Int)) = bl (l.set k c) := by
  unfold bl
  rw [List.setIfInBounds_toArray, List.map_set]
theorem bl_one (l : List UInt8) : (bl l).all (·.oneCell') = true := (bl_row l rfl).2.1
theorem bl_inj {l m : List UInt8} (h : bl l = bl m) : l = m := by
  apply List.ext_getElem?
  intro i
  have e : (bl l)[i]? = (bl m)[i]? := by rw [h]
  rw [bl_get, bl_get] at e
  cases h1 : l[i]? with
  | none => cases h2 : m[i]? with
    | none => rfl
    | some b => rw [h1, h2] at e; cases e
  | some a => cases h2 : m[i]? with
    | none => rw [h1, h2] at e; cases e
    | some b =>
      rw [h1, h2] at e
      simp only [Option.map_some, Option.some.injEq, Value.int.injEq, true_and] at e
      rw [UInt8.toNat_inj.1 (Int.ofNat.inj e)]

/-- Part of a row of bytes as a text. -/
theorem conv_bl {w : World} {g : Nat} {l : List UInt8} {t : TypeId} (hA : At w g (bl l) t) (p n c : Nat) (h : p + n ≤ l.length) :
    (convert 52 9 (.slice (some ⟨g, p, none⟩) n c)).run Try.prog w = .ok (.string ⟨((l.drop p).take n).toArray⟩) w := by
  have hl : ((l.drop p).take n).length = n := by rw [List.length_take, List.length_drop]; omega
  have e := run_convert_bytes_back (P := Try.prog) w 52 9 5 ⟨g, p, none⟩ c ((l.drop p).take n) Try.underlying52 Try.underlying5 Try.underlying9 fun j hj => by
    rw [hl] at hj
    have : (⟨g, p, none⟩ : Addr).add j = ⟨g, p + j, none⟩ := by unfold Addr.add; split <;> simp_all
    rw [this, cell_of_row _ _ _ _ _ _ hA, bl_get, List.getElem?_eq_getElem (by omega), List.getElem_take, List.getElem_drop]; rfl
  rw [hl] at e
  exact e
end Go.Proofs.Ytbbeekpndhfpjaa.Pa
end
