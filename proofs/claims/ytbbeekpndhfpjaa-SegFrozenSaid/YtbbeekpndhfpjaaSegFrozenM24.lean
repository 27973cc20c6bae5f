/- Texts of the walk, one behind the other. -/
import Derived.Test.YtbbeekpndhfpjaaSegFrozenM15
import Derived.Test.YtbbeekpndhfpjaaSegFrozenM23

section
/- SgPg: a sector's bytes read as a page, a page laid (page's contracts in the words of SgDk). -/
set_option maxRecDepth 100000
set_option linter.unusedVariables false
namespace Go.Proofs.Ytbbeekpndhfpjaa.Sg
open Go.RowKit Go.Proofs.Ytbbeekpndhfpjaa.Row Go.Proofs.Ytbbeekpndhfpjaa.Pa Go.Proofs.Ytbbeekpndhfpjaa.Fg Go.Proofs.Ytbbeekpndhfpjaa.Dk Go.Proofs.Ytbbeekpndhfpjaa.Crc

/-- A page of bytes is one of UInt8. -/
theorem pag_bl {P : Array Value} (h : Pag P) : ∃ l : List UInt8, l.length = 64 ∧ P = bl l := by
  obtain ⟨p, hp, hb⟩ := h
  refine ⟨(List.range 64).map fun k => UInt8.ofNat (p k).toNat, by simp, ?_⟩
  refine hp.eq (bl_row _ (by simp)) fun k hk => ?_
  have h1 := hb k hk
  unfold B
  rw [List.getD_eq_getElem?_getD, List.getElem?_map, List.getElem?_range hk]
  show p k = ((UInt8.ofNat (p k).toNat).toNat : Int)
  rw [UInt8.toNat_ofNat']
  omega
theorem bl_pag {l : List UInt8} (h : l.length = 64) : Pag (bl l) := ⟨_, bl_row l h, fun k _ => ⟨by omega, by have := B_lt l k; omega⟩⟩
/-- A sector is read: a page, or none. -/
theorem read_rd {P : Array Value} (hP : Pag P) (w : World) :
    Calls Try.prog 28 #[.agg P] w fun e w' => ∃ (p : Pv) (r : Nat), e = .returned (.tuple #[.agg (pgV p), .int .i64 r]) ∧ Below w.heap.size w w' ∧
      (r = 0 ∧ rdP P = some p ∧ p.right ∧ p.Ok ∨ r ≠ 0 ∧ rdP P = none ∧ p = Pv.zero) := by
  obtain ⟨l, hl, rfl⟩ := pag_bl hP
  refine (read_as l w hl).mono ?_
  rintro e w' ⟨rfl, hb⟩
  refine ⟨_, _, rfl, hb, ?_⟩
  by_cases h : SumOk l ∧ FormOk l
  · rw [(rd_yes h.1 h.2).1, (rd_yes h.1 h.2).2]
    exact .inl ⟨rfl, rdP_yes hl h.1 h.2, (pg_right hl h.2).1, (pg_right hl h.2).2⟩
  · refine .inr ⟨?_, rdP_no h, ?_⟩
    · unfold rdE
      split
      · rename_i h1
        rw [if_neg (fun h2 => h ⟨h1, h2⟩)]; omega
      · omega
    · unfold rdV; rw [if_neg h]
end Go.Proofs.Ytbbeekpndhfpjaa.Sg
end
