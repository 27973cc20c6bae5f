/- A page that comes in (a struct of two u32, an int, two bools and a text); 64 bytes that come in. -/
import Derived.Test.YteahbdnnieaaaaaPaO
import Derived.Test.YteahbdnnieaaaaaOpn
set_option maxRecDepth 100000
set_option linter.unusedVariables false
namespace Go.Proofs.Yteahbdnnieaaaaa.Pa
open Go.ChangeShapes Go.WideShapes Go.RowKit Go.Proofs.Yteahbdnnieaaaaa.Row

theorem open_page {H : Type} {enc : TypeId × Value → H} {W : World} {r : Reach} {base b0 : Nat} {sp : Nat → Bool} {held : Bool} {t : TypeId} {f0 f1 f2 f3 f4 f5 : Field} {v : Value} {d : DataW H} {ps : List MemPlace}
    (hs : Try.prog.underlying t = some (.struct #[f0, f1, f2, f3, f4, f5])) (hC : Try.prog.cellsOf t = 6)
    (o0 : f0.offset = 0) (o1 : f1.offset = 1) (o2 : f2.offset = 2) (o3 : f3.offset = 3) (o4 : f4.offset = 4) (o5 : f5.offset = 5)
    (u0 : Try.prog.underlying f0.type = some (.int .u32)) (u1 : Try.prog.underlying f1.type = some (.int .u32)) (u2 : Try.prog.underlying f2.type = some (.int .i64)) (u3 : Try.prog.underlying f3.type = some .bool) (u4 : Try.prog.underlying f4.type = some .bool) (u5 : Try.prog.underlying f5.type = some .string)
    (hok : Value.okWide Try.prog W r b0 t v) (h : DataW.Trod enc Try.prog W base sp held t v d ps) :
    ∃ p : Pv, v = .agg (pgV p) ∧ p.Ok ∧ (Lit.int .i64 p.k).wf = true ∧ p.d.length ≤ maxLen := by
  have hok' : ∃ T : Array Value, v = .agg T ∧ T.size = 6 := by
    unfold Value.okWide at hok
    rw [hs, hC] at hok
    obtain ⟨T, h1, h2, _⟩ := hok
    exact ⟨T, h1, h2⟩
  obtain ⟨T, rfl, hsz⟩ := hok'
  obtain ⟨fuel, hf⟩ := h
  obtain ⟨xs, n', _, _, hcl2, hxl, hfd⟩ := DataW.trod_struct hs hf
  have hxl : xs.length = 6 := hxl
  have g0 := hfd 0 f0 rfl
  have g1 := hfd 1 f1 rfl
  have g2 := hfd 2 f2 rfl
  have g3 := hfd 3 f3 rfl
  have g4 := hfd 4 f4 rfl
  have g5 := hfd 5 f5 rfl
  rw [List.getElem?_eq_getElem (by omega)] at g0 g1 g2 g3 g4 g5
  rw [o0] at g0
  rw [o1] at g1
  rw [o2] at g2
  rw [o3] at g3
  rw [o4] at g4
  rw [o5] at g5
  obtain ⟨z0, e0, _, w0⟩ := DataW.trod_int u0 g0
  obtain ⟨z1, e1, _, w1⟩ := DataW.trod_int u1 g1
  obtain ⟨z2, e2, _, w2⟩ := DataW.trod_int u2 g2
  obtain ⟨z3, e3, _⟩ := DataW.trod_bool u3 g3
  obtain ⟨z4, e4, _⟩ := DataW.trod_bool u4 g4
  obtain ⟨z5, e5, _, w5⟩ := DataW.trod_string u5 g5
  have c0 : T.toList[0 + 0]? = some (.int .u32 z0) := Flat.part (c := Try.prog.cellsOf f0.type) (by rw [show Value.cells (.agg T) = T from rfl] at e0; rw [e0]; rfl)
  have c1 : T.toList[1 + 0]? = some (.int .u32 z1) := Flat.part (c := Try.prog.cellsOf f1.type) (by rw [show Value.cells (.agg T) = T from rfl] at e1; rw [e1]; rfl)
  have c2 : T.toList[2 + 0]? = some (.int .i64 z2) := Flat.part (c := Try.prog.cellsOf f2.type) (by rw [show Value.cells (.agg T) = T from rfl] at e2; rw [e2]; rfl)
  have c3 : T.toList[3 + 0]? = some (.bool z3) := Flat.part (c := Try.prog.cellsOf f3.type) (by rw [show Value.cells (.agg T) = T from rfl] at e3; rw [e3]; rfl)
  have c4 : T.toList[4 + 0]? = some (.bool z4) := Flat.part (c := Try.prog.cellsOf f4.type) (by rw [show Value.cells (.agg T) = T from rfl] at e4; rw [e4]; rfl)
  have c5 : T.toList[5 + 0]? = some (.string z5) := Flat.part (c := Try.prog.cellsOf f5.type) (by rw [show Value.cells (.agg T) = T from rfl] at e5; rw [e5]; rfl)
  have b0 := bounds_u32 w0
  have b1 := bounds_u32 w1
  refine ⟨⟨z0.toNat, z1.toNat, z2, z3, z4, z5.data.toList⟩, ?_, ⟨by show z0.toNat < _; omega, by show z1.toNat < _; omega⟩, w2, by show z5.data.toList.length ≤ _; simpa using w5⟩
  congr 1
  unfold pgV
  apply Array.ext'
  apply List.ext_getElem?
  intro i
  show T.toList[i]? = [Value.int .u32 ((z0.toNat : Nat) : Int), .int .u32 ((z1.toNat : Nat) : Int), .int .i64 z2, .bool z3, .bool z4, .string ⟨z5.data.toList.toArray⟩][i]?
  rw [Int.toNat_of_nonneg b0.1, Int.toNat_of_nonneg b1.1, Array.toArray_toList]
  by_cases hi : i < 6
  · obtain rfl | rfl | rfl | rfl | rfl | rfl : i = 0 ∨ i = 1 ∨ i = 2 ∨ i = 3 ∨ i = 4 ∨ i = 5 := by omega
    · exact c0
    · exact c1
    · exact c2
    · exact c3
    · exact c4
    · exact c5
  · rw [List.getElem?_eq_none (by rw [Array.length_toList]; omega), List.getElem?_eq_none (by show 6 ≤ i; omega)]

theorem open_byts {H : Type} {enc : TypeId × Value → H} {W : World} {r : Reach} {base b0 : Nat} {sp : Nat → Bool} {held : Bool} {t e : TypeId} {v : Value} {d : DataW H} {ps : List MemPlace}
    (hs : Try.prog.underlying t = some (.array 64 e)) (hC : Try.prog.cellsOf t = 64) (ue : Try.prog.underlying e = some (.int .u8)) (ke : Try.prog.cellsOf e = 1)
    (hok : Value.okWide Try.prog W r b0 t v) (h : DataW.Trod enc Try.prog W base sp held t v d ps) :
    ∃ (b : List UInt8) (T : Array Value), v = .agg T ∧ Byts b T := by
  have hok' : ∃ T : Array Value, v = .agg T ∧ T.size = 64 := by
    unfold Value.okWide at hok
    rw [hs, hC] at hok
    obtain ⟨T, h1, h2, _⟩ := hok
    exact ⟨T, h1, h2⟩
  obtain ⟨T, rfl, hsz⟩ := hok'
  obtain ⟨fuel, hf⟩ := h
  obtain ⟨ys, m', _, _, _, hyl, hya⟩ := DataW.trod_array hs hf
  have key : ∀ j, j < 64 → ∃ c : UInt8, T[j]? = some (.int .u8 (c.toNat : Int)) := fun j hj => by
    have hr := hya j hj
    rw [List.getElem?_eq_getElem (by omega)] at hr
    obtain ⟨z, ez, _, wz⟩ := DataW.trod_int ue hr
    have bz := bounds_u8 wz
    have p := Flat.part (cs := (Value.cells (.agg T)).toList) (o := j * Try.prog.cellsOf e) (c := Try.prog.cellsOf e) (k := 0) (v := .int .u8 z) (by rw [ez]; rfl)
    rw [ke, Nat.mul_one, Nat.add_zero] at p
    refine ⟨UInt8.ofNat z.toNat, ?_⟩
    rw [Crc.ofNat_toNat _ (by omega), Int.toNat_of_nonneg bz.1]
    simpa [Value.cells] using p
  refine ⟨List.ofFn fun j : Fin 64 => (key j j.2).choose, T, rfl, by simp, isRow8_of hsz fun k hk => ?_⟩
  rw [(key k hk).choose_spec]
  unfold B
  rw [gd_get _ k (by simpa using hk), List.getElem_ofFn]
end Go.Proofs.Yteahbdnnieaaaaa.Pa
