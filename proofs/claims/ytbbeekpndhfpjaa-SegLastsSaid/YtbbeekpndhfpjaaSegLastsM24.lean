/- Texts of the walk, one behind the other. -/
import Derived.Test.YtbbeekpndhfpjaaSegLastsM20
import Derived.Test.YtbbeekpndhfpjaaSegLastsM19
import Derived.Test.YtbbeekpndhfpjaaSegLastsM2
import Derived.Test.YtbbeekpndhfpjaaSegLastsM23
import Derived.Test.YtbbeekpndhfpjaaSegLastsM8
import Derived.Lib.BufferWrite

section
/- A page's bytes as a row; texts copied over a row of bytes; the program's marks, Right, sum. -/
set_option maxRecDepth 100000
set_option linter.unusedVariables false
namespace Go.Proofs.Ytbbeekpndhfpjaa.Pa
open Go.RowKit Go.Proofs.Ytbbeekpndhfpjaa.Row Go.Proofs.Ytbbeekpndhfpjaa.Crc

theorem byts_bl {l : List UInt8} (h : l.length = 64) : Byts l (bl l) := ⟨h, bl_row l h⟩
theorem Byts.eq {l : List UInt8} {T : Array Value} (h : Byts l T) : T = bl l := h.2.eq (bl_row l h.1) fun _ _ => rfl
/-- A text laid over bytes from o on. -/
def ov (l : List UInt8) (o : Nat) (s : List UInt8) : List UInt8 := l.take o ++ s ++ l.drop (o + s.length)
theorem bl_ov (l : List UInt8) (o : Nat) (s : List UInt8) : ((bl l).toList.take o ++ Go.Lib.byteCells s ++ (bl l).toList.drop (o + s.length)).toArray = bl (ov l o s) := by
  unfold bl ov Go.Lib.byteCells
  simp [List.map_append, List.map_take, List.map_drop]

/-- 'copy(b[o:], s)', s a text. -/
theorem wpList_copy_str {ops : Array Oper} {rest : List Oper} {o : Oper} {a : Act} {w : World} {Q : Exit → Act → World → Prop} (hgd : o.guard = none) (d s : Operand)
    (ho : o.op = .call { callee := .builtin .copy, args := #[d, s], argTypes := #[52, 9] }) {g p n c : Nat} {l m : List UInt8} {t : TypeId}
    (hd : a.eval d = .slice (some ⟨g, p, none⟩) n c) (hs : a.eval s = .string ⟨m.toArray⟩) (hg : At w g (bl l) t) (hn : m.length ≤ n) (hf : p + m.length ≤ l.length)
    (h : wpList Try.prog ops Q rest (a.put o.dst (goInt m.length)) (w.setRow g (bl (ov l p m)))) : wpList Try.prog ops Q (o :: rest) a w := by
  refine wpList_plain hgd fun K hK => ?_
  have hz : (⟨m.toArray⟩ : ByteArray).size = m.length := by simp [ByteArray.size]
  have hrun := Go.Lib.run_copy_row_string (P := Try.prog) w 52 9 o.type 5 g p n c ⟨m.toArray⟩ (bl l) t Try.underlying52 (by kernel_rfl) hg (by rw [hz]; exact hn) (by rw [hz, bl_size]; exact hf)
  rw [hz, bl_ov] at hrun
  unfold Oper.wp
  simp only [execOp, ho, resolve, invoke, builtin, List.map_toArray, List.map_cons, List.map_nil, hd, hs, Sem.run_bind, Sem.run_pure, Result.andThen_ok, hrun]
  exact hK _ _ h

theorem marks_any (p : Pv) (w : World) : Calls Try.prog 54 #[.agg (pgV p)] w fun e w' => e = .returned (.int .u8 (p.m : Nat)) ∧ Below w.heap.size w w' := by
  obtain ⟨pe, pn, pk, pf, pl, pd⟩ := p
  unfold pgV Pv.m
  simp only
  cases pf <;> cases pl
  all_goals
    go_enter Try.func54, Try.ntmps54
    go_wp2
    go_ret
    exact ⟨rfl, (Below.refl _ _).alloc (Nat.le_refl _) _⟩

theorem sum_as (b : List UInt8) (T : Array Value) (hT : Byts b T) (w : World) :
    Calls Try.prog 40 #[.agg T] w fun e w' => e = .returned (.int .u32 (moreS 0 (b.drop 4) : Nat)) ∧ Below w.heap.size w w' := by
  obtain rfl := hT.eq
  have hl := hT.1
  have hcv := conv_bl (At.new w (bl b) 69) 4 60 60 (by omega)
  have ht : ((b.drop 4).take 60) = b.drop 4 := List.take_of_length_le (by rw [List.length_drop]; omega)
  rw [ht] at hcv
  have hz : (⟨(b.drop 4).toArray⟩ : ByteArray).size ≤ maxLen := by
    have : (⟨(b.drop 4).toArray⟩ : ByteArray).size = 60 := by simp [ByteArray.size, hl]
    rw [this]; decide
  have HS := Lib.hid fun w => sum_any ⟨(b.drop 4).toArray⟩ w hz
  rw [show (⟨(b.drop 4).toArray⟩ : ByteArray).data.toList = b.drop 4 from rfl] at HS
  generalize (⟨(b.drop 4).toArray⟩ : ByteArray) = X at *
  generalize moreS 0 (b.drop 4) = N at *
  go_enter Try.func40, Try.ntmps40
  go_wp2_with fail
  have HB := Lib.hid ((Below.refl w.heap.size w).alloc (Nat.le_refl _) (.cells (bl b) 69))
  refine (HS.out _).mono ?_
  rintro e w1 ⟨rfl, hb⟩
  have HB2 := Lib.hid (below_trans HB.out hb HB.out.size)
  clear hb
  go_wp2_with fail
  go_ret
  exact ⟨rfl, HB2.out⟩
end Go.Proofs.Ytbbeekpndhfpjaa.Pa
end
