/- Texts in a region: joined, their length; a slice of three bytes written out; an int as a byte. -/
import Derived.Test.YteahbdnnieaaaaaPaY
set_option maxRecDepth 100000
set_option linter.unusedVariables false
set_option linter.unusedSimpArgs false
namespace Go.Proofs.Yteahbdnnieaaaaa.Pa
open Go.RowKit Go.Proofs.Yteahbdnnieaaaaa.Row Go.Proofs.Yteahbdnnieaaaaa.Crc

section
variable {ops : Array Oper} {S : World → Prop} {a : Act} {oi : Oper} {t t' : TypeId} {y z : Operand}
/-- Two texts joined. -/
theorem y_addS {l m : List UInt8} (hw : Region.wanted oi (yielded ops a.tmps) = true) (ho : oi.op = .binOp .add t y z t') (hy : a.eval y = .string ⟨l.toArray⟩) (hz : a.eval z = .string ⟨m.toArray⟩) (h : l.length + m.length ≤ maxLen) :
    YieldsIf Try.prog ops S oi (.string ⟨(l ++ m).toArray⟩) a :=
  y_run hw fun w => by
    have e := join_str l m
    have hl : (⟨l.toArray⟩ : ByteArray).size = l.length := by simp [ByteArray.size]
    have hm : (⟨m.toArray⟩ : ByteArray).size = m.length := by simp [ByteArray.size]
    unfold maxLen at h
    have hn : ¬ 9223372036854775807 < (⟨l.toArray⟩ : ByteArray).size + (⟨m.toArray⟩ : ByteArray).size := by omega
    rw [← e]
    unfold execOp
    simp only [ho, hy, hz]
    generalize (⟨l.toArray⟩ : ByteArray) = x at *
    generalize (⟨m.toArray⟩ : ByteArray) = y at *
    simp [go_sem, hn]
/-- A text's length. -/
theorem y_lenS {s : ByteArray} {n : Nat} (hw : Region.wanted oi (yielded ops a.tmps) = true) (ho : oi.op = .call { callee := .builtin .len, args := #[y], argTypes := #[9] }) (hy : a.eval y = .string s) (hn : s.size = n) : YieldsIf Try.prog ops S oi (.int .i64 n) a :=
  y_run hw fun w => by
    unfold execOp
    simp only [ho, resolve, invoke, builtin, Sem.run_bind, Sem.run_pure, Result.andThen_ok, List.map_toArray, List.map_cons, List.map_nil, hy]
    simp [Builtin.len_, run_underlying Try.underlying9, hn]
    rfl
theorem conv_int_u8 (x : Nat) (h : x < 256) (w : World) : (convert 3 5 (.int .i64 x)).run Try.prog w = .ok (.int .u8 x) w := by
  have e : IntKind.u8.wrap (x : Int) = x := IntWalk.u8_in _ (by omega)
  simp [convert, run_underlying Try.underlying5, run_underlying Try.underlying3, go_sem, e]
theorem y_u8 {x : Nat} (hw : Region.wanted oi (yielded ops a.tmps) = true) (ho : oi.op = .convert 3 5 y) (hy : a.eval y = .int .i64 x) (h : x < 256) : YieldsIf Try.prog ops S oi (.int .u8 x) a :=
  y_convV hw ho hy fun w _ => conv_int_u8 x h w
end
/-- '[]byte{x, y, z}'. -/
theorem run_slice3 (x y z : UInt8) (w : World) : (Instr.buildSlice 40 3 #[(0, .int .u8 (x.toNat : Int)), (1, .int .u8 (y.toNat : Int)), (2, .int .u8 (z.toNat : Int))]).run Try.prog w =
    .ok (.slice (some ⟨w.heap.size, 0, none⟩) 3 3) (w.alloc (.cells (bl [x, y, z]) 5)) := by
  generalize hX : (x.toNat : Int) = X
  generalize hY : (y.toNat : Int) = Y
  generalize hZ : (z.toNat : Int) = Z
  have e : bl [x, y, z] = #[.int .u8 X, .int .u8 Y, .int .u8 Z] := by rw [← hX, ← hY, ← hZ]; rfl
  rw [e]
  have hsz : ∀ w, (sizeOf 5).run Try.prog w = .ok 1 w := fun w => size_one (by kernel_rfl) w
  have hz : ∀ w, (zeroValue 5).run Try.prog w = .ok (.int .u8 0) w := fun w => by kernel_rfl
  have r1 : Instr.fill (fun i => some (i * 1, 1)) (Array.map (fun x => #[Value.int IntKind.u8 0][x % #[Value.int IntKind.u8 0].size]!) (Array.range (3 * 1))) [(0, Value.int IntKind.u8 X), (1, Value.int IntKind.u8 Y), (2, Value.int IntKind.u8 Z)] = some #[.int .u8 X, .int .u8 Y, .int .u8 Z] := by kernel_rfl
  have hlt : ¬ (3 * 1 > 2 ^ 24) := by omega
  have h0 : ¬ (3 * 1 = 0) := by omega
  unfold Instr.buildSlice
  simp only [Sem.run_bind, run_underlying Try.underlying40, Result.andThen_ok, hsz, hlt, h0, if_false, hz, Value.cells, Sem.run_pure, r1]
  rfl
theorem wpList_slice3 {ops : Array Oper} {rest : List Oper} {o : Oper} {a : Act} {w : World} {Q : Exit → Act → World → Prop} (hgd : o.guard = none) (x y z : Operand) (ho : o.op = .buildSlice 40 3 #[(0, x), (1, y), (2, z)]) {xb yb zb : UInt8}
    (hx : a.eval x = .int .u8 (xb.toNat : Int)) (hy : a.eval y = .int .u8 (yb.toNat : Int)) (hz : a.eval z = .int .u8 (zb.toNat : Int))
    (h : wpList Try.prog ops Q rest (a.put o.dst (.slice (some ⟨w.heap.size, 0, none⟩) 3 3)) (w.alloc (.cells (bl [xb, yb, zb]) 5))) : wpList Try.prog ops Q (o :: rest) a w := by
  refine wpList_plain hgd fun K hK => ?_
  unfold Oper.wp execOp
  have hv : (#[(0, x), (1, y), (2, z)] : Array (Nat × Operand)).map (fun (i, x) => (i, a.eval x)) = #[(0, .int .u8 (xb.toNat : Int)), (1, .int .u8 (yb.toNat : Int)), (2, .int .u8 (zb.toNat : Int))] := by simp [hx, hy, hz]
  simp only [ho, hv, run_slice3, Sem.run_bind, Result.andThen_ok, Sem.run_pure]
  exact hK _ _ h
end Go.Proofs.Yteahbdnnieaaaaa.Pa
