/- What operations of a region yield: numbers of any kind compared, parts of arrays, texts of them, bytes. -/
import Derived.Test.YteahbdnnieaaaaaPaB
import Derived.Test.YteahbdnnieaaaaaRowT
import Derived.Test.YteahbdnnieaaaaaRowMvY
set_option maxRecDepth 100000
set_option linter.unusedVariables false
set_option linter.unusedSimpArgs false
namespace Go.Proofs.Yteahbdnnieaaaaa.Pa
open Go.RowKit Go.Proofs.Yteahbdnnieaaaaa.Row Go.Proofs.Yteahbdnnieaaaaa.Crc

section
variable {ops : Array Oper} {S : World → Prop} {a : Act} {oi : Oper} {t t' : TypeId} {y z : Operand} {k : IntKind} {m n : Int} {b : Bool}
theorem y_lssK (hw : Region.wanted oi (yielded ops a.tmps) = true) (ho : oi.op = .binOp .lss t y z t') (hy : a.eval y = .int k m) (hz : a.eval z = .int k n) (hb : decide (m < n) = b) : YieldsIf Try.prog ops S oi (.bool b) a :=
  y_run hw fun w => by
    unfold execOp
    simp only [ho, hy, hz]
    simp [go_sem, hb]
theorem y_gtrK (hw : Region.wanted oi (yielded ops a.tmps) = true) (ho : oi.op = .binOp .gtr t y z t') (hy : a.eval y = .int k m) (hz : a.eval z = .int k n) (hb : decide (n < m) = b) : YieldsIf Try.prog ops S oi (.bool b) a :=
  y_run hw fun w => by
    unfold execOp
    simp only [ho, hy, hz]
    simp [go_sem, hb]
theorem y_geqK (hw : Region.wanted oi (yielded ops a.tmps) = true) (ho : oi.op = .binOp .geq t y z t') (hy : a.eval y = .int k m) (hz : a.eval z = .int k n) (hb : decide (n ≤ m) = b) : YieldsIf Try.prog ops S oi (.bool b) a :=
  y_run hw fun w => by
    unfold execOp
    simp only [ho, hy, hz]
    simp [go_sem, hb]
theorem y_eqlK (hw : Region.wanted oi (yielded ops a.tmps) = true) (ho : oi.op = .binOp .eql t y z t') (hu : Try.prog.underlying t = some (.int k)) (hy : a.eval y = .int k m) (hz : a.eval z = .int k n) (hb : (m == n) = b) : YieldsIf Try.prog ops S oi (.bool b) a :=
  y_run hw fun w => by
    unfold execOp
    simp only [ho, hy, hz]
    simp [go_sem, run_underlying hu, hb]
theorem y_neqK (hw : Region.wanted oi (yielded ops a.tmps) = true) (ho : oi.op = .binOp .neq t y z t') (hu : Try.prog.underlying t = some (.int k)) (hy : a.eval y = .int k m) (hz : a.eval z = .int k n) (hb : (m != n) = b) : YieldsIf Try.prog ops S oi (.bool b) a :=
  y_run hw fun w => by
    unfold execOp
    simp only [ho, hy, hz]
    simp [go_sem, run_underlying hu, hb]
theorem y_eqlS {l r : ByteArray} (hw : Region.wanted oi (yielded ops a.tmps) = true) (ho : oi.op = .binOp .eql t y z t') (hu : Try.prog.underlying t = some .string) (hy : a.eval y = .string l) (hz : a.eval z = .string r) (hb : (l.toList == r.toList) = b) : YieldsIf Try.prog ops S oi (.bool b) a :=
  y_run hw fun w => by
    unfold execOp
    simp only [ho, hy, hz]
    simp [go_sem, run_underlying hu, hb]
theorem y_eqlB {l r : Bool} (hw : Region.wanted oi (yielded ops a.tmps) = true) (ho : oi.op = .binOp .eql 4 y z t') (hy : a.eval y = .bool l) (hz : a.eval z = .bool r) (hb : (l == r) = b) : YieldsIf Try.prog ops S oi (.bool b) a :=
  y_run hw fun w => by
    subst hb
    unfold execOp
    simp only [ho, hy, hz]
    cases l <;> cases r <;> simp [go_sem]
theorem y_convV {v u : Value} (hw : Region.wanted oi (yielded ops a.tmps) = true) (ho : oi.op = .convert t t' y) (hy : a.eval y = v) (hr : ∀ w, S w → (convert t t' v).run Try.prog w = .ok u w) : YieldsIf Try.prog ops S oi u a :=
  .inl ⟨hw, fun w hw' => by
    unfold execOp
    simp only [ho, hy, hr w hw', Sem.run_bind, Sem.run_pure, Result.andThen_ok]⟩
/-- Part of a row of bytes as a text. -/
theorem y_text {g p n c : Nat} {l : List UInt8} {u : TypeId} (hw : Region.wanted oi (yielded ops a.tmps) = true) (ho : oi.op = .convert 40 9 y) (hy : a.eval y = .slice (some ⟨g, p, none⟩) n c) (hA : ∀ w, S w → At w g (bl l) u) (h : p + n ≤ l.length) :
    YieldsIf Try.prog ops S oi (.string ⟨((l.drop p).take n).toArray⟩) a :=
  y_convV hw ho hy fun w hw' => conv_bl (hA w hw') p n c h
/-- A number of a row of bytes. -/
theorem y_byte {g i : Nat} {l : List UInt8} {u : TypeId} (hw : Region.wanted oi (yielded ops a.tmps) = true) (ho : oi.op = .load 5 y) (hy : a.eval y = .pointer (some ⟨g, i, none⟩)) (hA : ∀ w, S w → At w g (bl l) u) (h : i < l.length) :
    YieldsIf Try.prog ops S oi (.int .u8 (B l i)) a :=
  y_cell1 hw ho hy Try.underlying5 rfl fun w hw' => by rw [cell_of_row _ _ _ _ _ _ (hA w hw'), bl_at l i h]
theorem run_cut_l {e : TypeId} {N : Nat} (hu : Try.prog.underlying t = some (.array N e)) (hs : (Try.prog.info? e).map (·.size) = some 1) {g k : Nat} (hk : k < N) (w : World) :
    (Instr.sliceAt t (.pointer (some ⟨g, 0, none⟩)) (some (.int .i64 k)) none none).run Try.prog w = .ok (.slice (some ⟨g, k, none⟩) (N - k) (N - k)) w := by
  have he : Try.prog.elem t = e := by unfold Program.elem; rw [hu]
  have hl : Try.prog.arrayLen t = N := by unfold Program.arrayLen; rw [hu]
  have hu' : Try.prog.underlying t = some (.array (Try.prog.arrayLen t) (Try.prog.elem t)) := by rw [he, hl]; exact hu
  rw [run_sliceAt_array_l w t ⟨g, 0, none⟩ hu' .i64 k (by omega) (by rw [hl]; omega), he, size_one hs, hl, Result.andThen_ok]
  unfold slicedAt
  rw [Int.toNat_natCast, if_neg (by omega)]
  unfold Addr.add
  simp
  omega
theorem run_cut_h {e : TypeId} {N : Nat} (hu : Try.prog.underlying t = some (.array N e)) (hs : (Try.prog.info? e).map (·.size) = some 1) {g k : Nat} (hk : k < N) (w : World) :
    (Instr.sliceAt t (.pointer (some ⟨g, 0, none⟩)) none (some (.int .i64 k)) none).run Try.prog w = .ok (.slice (some ⟨g, 0, none⟩) k N) w := by
  have he : Try.prog.elem t = e := by unfold Program.elem; rw [hu]
  have hl : Try.prog.arrayLen t = N := by unfold Program.arrayLen; rw [hu]
  have hu' : Try.prog.underlying t = some (.array (Try.prog.arrayLen t) (Try.prog.elem t)) := by rw [he, hl]; exact hu
  rw [run_sliceAt_array_h w t ⟨g, 0, none⟩ hu' .i64 k (by omega) (by rw [hl]; omega), he, size_one hs, hl, Result.andThen_ok]
  unfold slicedAt
  rw [Int.toNat_natCast, if_neg (by omega)]
  unfold Addr.add
  simp
theorem run_cut_lh {e : TypeId} {N : Nat} (hu : Try.prog.underlying t = some (.array N e)) (hs : (Try.prog.info? e).map (·.size) = some 1) {g k h : Nat} (hk : k < N) (hh : k ≤ h) (hN : h ≤ N) (w : World) :
    (Instr.sliceAt t (.pointer (some ⟨g, 0, none⟩)) (some (.int .i64 k)) (some (.int .i64 h)) none).run Try.prog w = .ok (.slice (some ⟨g, k, none⟩) (h - k) (N - k)) w := by
  have he : Try.prog.elem t = e := by unfold Program.elem; rw [hu]
  have hl : Try.prog.arrayLen t = N := by unfold Program.arrayLen; rw [hu]
  have hu' : Try.prog.underlying t = some (.array (Try.prog.arrayLen t) (Try.prog.elem t)) := by rw [he, hl]; exact hu
  rw [run_sliceAt_array_lh w t ⟨g, 0, none⟩ hu' .i64 .i64 k h (by omega) (by omega) (by rw [hl]; omega), he, size_one hs, hl, Result.andThen_ok]
  unfold slicedAt
  rw [Int.toNat_natCast, Int.toNat_natCast, if_neg (by omega)]
  unfold Addr.add
  simp
  omega
/-- 'b[k:]'. -/
theorem y_cutl {e : TypeId} {N g j : Nat} {x : Int} {lo : Operand} (hw : Region.wanted oi (yielded ops a.tmps) = true) (ho : oi.op = .slice t y (some lo) none none) (hy : a.eval y = .pointer (some ⟨g, 0, none⟩)) (hl : a.eval lo = .int .i64 x)
    (hu : Try.prog.underlying t = some (.array N e)) (hs : (Try.prog.info? e).map (·.size) = some 1) (hx : x = j) (hj : j < N) : YieldsIf Try.prog ops S oi (.slice (some ⟨g, j, none⟩) (N - j) (N - j)) a :=
  y_run hw fun w => by
    subst hx
    unfold execOp
    simp only [ho, hy, Option.map_some, Option.map_none, hl, run_cut_l hu hs hj, Sem.run_bind, Sem.run_pure, Result.andThen_ok]
/-- 'b[:k]'. -/
theorem y_cuth {e : TypeId} {N g j : Nat} {x : Int} {hi : Operand} (hw : Region.wanted oi (yielded ops a.tmps) = true) (ho : oi.op = .slice t y none (some hi) none) (hy : a.eval y = .pointer (some ⟨g, 0, none⟩)) (hl : a.eval hi = .int .i64 x)
    (hu : Try.prog.underlying t = some (.array N e)) (hs : (Try.prog.info? e).map (·.size) = some 1) (hx : x = j) (hj : j < N) : YieldsIf Try.prog ops S oi (.slice (some ⟨g, 0, none⟩) j N) a :=
  y_run hw fun w => by
    subst hx
    unfold execOp
    simp only [ho, hy, Option.map_some, Option.map_none, hl, run_cut_h hu hs hj, Sem.run_bind, Sem.run_pure, Result.andThen_ok]
/-- 'b[k:h]'. -/
theorem y_cutlh {e : TypeId} {N g j i : Nat} {x x' : Int} {lo hi : Operand} (hw : Region.wanted oi (yielded ops a.tmps) = true) (ho : oi.op = .slice t y (some lo) (some hi) none) (hy : a.eval y = .pointer (some ⟨g, 0, none⟩)) (hl : a.eval lo = .int .i64 x) (hh : a.eval hi = .int .i64 x')
    (hu : Try.prog.underlying t = some (.array N e)) (hs : (Try.prog.info? e).map (·.size) = some 1) (hx : x = j) (hx' : x' = i) (hj : j < N) (hji : j ≤ i) (hi' : i ≤ N) : YieldsIf Try.prog ops S oi (.slice (some ⟨g, j, none⟩) (i - j) (N - j)) a :=
  y_run hw fun w => by
    subst hx hx'
    unfold execOp
    simp only [ho, hy, Option.map_some, Option.map_none, hl, hh, run_cut_lh hu hs hj hji hi', Sem.run_bind, Sem.run_pure, Result.andThen_ok]
theorem conv_u8_int (x : Nat) (h : x < 256) (w : World) : (convert 5 3 (.int .u8 x)).run Try.prog w = .ok (.int .i64 x) w := by
  have e : IntKind.i64.wrap (x : Int) = x := IntWalk.i64_in _ (by omega)
  simp [convert, run_underlying Try.underlying5, run_underlying Try.underlying3, go_sem, e]
/-- 'int(b[i])'. -/
theorem y_int8 {x : Nat} (hw : Region.wanted oi (yielded ops a.tmps) = true) (ho : oi.op = .convert 5 3 y) (hy : a.eval y = .int .u8 x) (h : x < 256) : YieldsIf Try.prog ops S oi (.int .i64 x) a :=
  y_convV hw ho hy fun w _ => conv_u8_int x h w
end
end Go.Proofs.Yteahbdnnieaaaaa.Pa
