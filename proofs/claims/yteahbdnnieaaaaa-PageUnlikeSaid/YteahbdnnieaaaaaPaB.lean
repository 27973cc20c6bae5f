/- A page's bytes as a row; texts copied over a row of bytes; the program's marks, Right, sum. -/
import Derived.Test.YteahbdnnieaaaaaPaR
import Derived.Test.YteahbdnnieaaaaaCrSu
import Derived.Test.YteahbdnnieaaaaaCel0
import Derived.Lib.BufferWrite
set_option maxRecDepth 100000
set_option linter.unusedVariables false
namespace Go.Proofs.Yteahbdnnieaaaaa.Pa
open Go.RowKit Go.Proofs.Yteahbdnnieaaaaa.Row Go.Proofs.Yteahbdnnieaaaaa.Crc

/-- Bytes as a row. -/
def bl (l : List UInt8) : Array Value := (l.map fun c => Value.int .u8 (c.toNat : Int)).toArray
theorem bl_size (l : List UInt8) : (bl l).size = l.length := by unfold bl; simp
theorem bl_get (l : List UInt8) (i : Nat) : (bl l)[i]? = l[i]?.map fun c => Value.int .u8 (c.toNat : Int) := by unfold bl; simp
theorem bl_at (l : List UInt8) (i : Nat) (h : i < l.length) : (bl l)[i]? = some (.int .u8 (B l i)) := by
  rw [bl_get, List.getElem?_eq_getElem h]
  unfold B
  rw [gd_get l i h]; rfl
theorem bl_row (l : List UInt8) {m : Nat} (h : l.length = m) : IsRow8 m (fun i => (B l i : Int)) (bl l) := isRow8_of (by rw [bl_size, h]) fun k hk => bl_at l k (by omega)
theorem byts_bl {l : List UInt8} (h : l.length = 64) : Byts l (bl l) := ⟨h, bl_row l h⟩
theorem Byts.eq {l : List UInt8} {T : Array Value} (h : Byts l T) : T = bl l := h.2.eq (bl_row l h.1) fun _ _ => rfl
theorem bl_set (l : List UInt8) (k : Nat) (c : UInt8) : (bl l).setIfInBounds k (.int .u8 (c.toNat : Int)) = bl (l.set k c) := by
  unfold bl
  rw [List.setIfInBounds_toArray, List.map_set]
theorem bl_one (l : List UInt8) : (bl l).all (·.oneCell') = true := (bl_row l rfl).2.1
theorem bl_inj {l m : List UInt8} (h : bl l = bl m) : l = m := by
  apply List.ext_getElem?
  intro i
  have e : (bl l)[i]? = (bl m)[i]? := by rw [h]
  rw [bl_get, bl_get] at e
  cases h1 : l[i]? with
  | none => cases h2 : m[i]? with
    | none => rfl
    | some b => rw [h1, h2] at e; cases e
  | some a => cases h2 : m[i]? with
    | none => rw [h1, h2] at e; cases e
    | some b =>
      rw [h1, h2] at e
      simp only [Option.map_some, Option.some.injEq, Value.int.injEq, true_and] at e
      rw [UInt8.toNat_inj.1 (Int.ofNat.inj e)]

/-- A text laid over bytes from o on. -/
def ov (l : List UInt8) (o : Nat) (s : List UInt8) : List UInt8 := l.take o ++ s ++ l.drop (o + s.length)
theorem bl_ov (l : List UInt8) (o : Nat) (s : List UInt8) : ((bl l).toList.take o ++ Go.Lib.byteCells s ++ (bl l).toList.drop (o + s.length)).toArray = bl (ov l o s) := by
  unfold bl ov Go.Lib.byteCells
  simp [List.map_append, List.map_take, List.map_drop]

/-- 'copy(b[o:], s)', s a text. -/
theorem wpList_copy_str {ops : Array Oper} {rest : List Oper} {o : Oper} {a : Act} {w : World} {Q : Exit → Act → World → Prop} (hgd : o.guard = none) (d s : Operand)
    (ho : o.op = .call { callee := .builtin .copy, args := #[d, s], argTypes := #[40, 9] }) {g p n c : Nat} {l m : List UInt8} {t : TypeId}
    (hd : a.eval d = .slice (some ⟨g, p, none⟩) n c) (hs : a.eval s = .string ⟨m.toArray⟩) (hg : At w g (bl l) t) (hn : m.length ≤ n) (hf : p + m.length ≤ l.length)
    (h : wpList Try.prog ops Q rest (a.put o.dst (goInt m.length)) (w.setRow g (bl (ov l p m)))) : wpList Try.prog ops Q (o :: rest) a w := by
  refine wpList_plain hgd fun K hK => ?_
  have hz : (⟨m.toArray⟩ : ByteArray).size = m.length := by simp [ByteArray.size]
  have hrun := Go.Lib.run_copy_row_string (P := Try.prog) w 40 9 o.type 5 g p n c ⟨m.toArray⟩ (bl l) t Try.underlying40 (by kernel_rfl) hg (by rw [hz]; exact hn) (by rw [hz, bl_size]; exact hf)
  rw [hz, bl_ov] at hrun
  unfold Oper.wp
  simp only [execOp, ho, resolve, invoke, builtin, List.map_toArray, List.map_cons, List.map_nil, hd, hs, Sem.run_bind, Sem.run_pure, Result.andThen_ok, hrun]
  exact hK _ _ h

/-- Part of a row of bytes as a text. -/
theorem conv_bl {w : World} {g : Nat} {l : List UInt8} {t : TypeId} (hA : At w g (bl l) t) (p n c : Nat) (h : p + n ≤ l.length) :
    (convert 40 9 (.slice (some ⟨g, p, none⟩) n c)).run Try.prog w = .ok (.string ⟨((l.drop p).take n).toArray⟩) w := by
  have hl : ((l.drop p).take n).length = n := by rw [List.length_take, List.length_drop]; omega
  have e := run_convert_bytes_back (P := Try.prog) w 40 9 5 ⟨g, p, none⟩ c ((l.drop p).take n) Try.underlying40 Try.underlying5 Try.underlying9 fun j hj => by
    rw [hl] at hj
    have : (⟨g, p, none⟩ : Addr).add j = ⟨g, p + j, none⟩ := by unfold Addr.add; split <;> simp_all
    rw [this, cell_of_row _ _ _ _ _ _ hA, bl_get, List.getElem?_eq_getElem (by omega), List.getElem_take, List.getElem_drop]; rfl
  rw [hl] at e
  exact e

theorem marks_any (p : Pv) (w : World) : Calls Try.prog 20 #[.agg (pgV p)] w fun e w' => e = .returned (.int .u8 (p.m : Nat)) ∧ Below w.heap.size w w' := by
  obtain ⟨pe, pn, pk, pf, pl, pd⟩ := p
  unfold pgV Pv.m
  simp only
  cases pf <;> cases pl
  all_goals
    go_enter Try.func20, Try.ntmps20
    go_wp2
    go_ret
    exact ⟨rfl, (Below.refl _ _).alloc (Nat.le_refl _) _⟩

theorem right_any (p : Pv) (w : World) (hd : p.d.length ≤ maxLen) :
    Calls Try.prog 11 #[.agg (pgV p)] w fun e w' => e = .returned (.bool (decide p.right)) ∧ Below w.heap.size w w' := by
  obtain ⟨pe, pn, pk, pf, pl, pd⟩ := p
  unfold maxLen at hd
  have hs : (⟨pd.toArray⟩ : ByteArray).size = pd.length := by simp [ByteArray.size]
  unfold pgV Pv.right
  simp only
  obtain ⟨N, hN⟩ : ∃ N, pd.length = N := ⟨_, rfl⟩
  rw [hN] at hs
  simp only [hN] at hd ⊢
  go_enter Try.func11, Try.ntmps11
  go_wp2
  all_goals go_ret
  all_goals refine ⟨?_, (Below.refl _ _).alloc (Nat.le_refl _) _⟩
  all_goals refine rb ?_
  all_goals (cases pf <;> cases pl <;> simp_all <;> omega)

theorem sum_as (b : List UInt8) (T : Array Value) (hT : Byts b T) (w : World) :
    Calls Try.prog 21 #[.agg T] w fun e w' => e = .returned (.int .u32 (moreS 0 (b.drop 4) : Nat)) ∧ Below w.heap.size w w' := by
  obtain rfl := hT.eq
  have hl := hT.1
  have hcv := conv_bl (At.new w (bl b) 27) 4 60 60 (by omega)
  have ht : ((b.drop 4).take 60) = b.drop 4 := List.take_of_length_le (by rw [List.length_drop]; omega)
  rw [ht] at hcv
  have hz : (⟨(b.drop 4).toArray⟩ : ByteArray).size ≤ maxLen := by
    have : (⟨(b.drop 4).toArray⟩ : ByteArray).size = 60 := by simp [ByteArray.size, hl]
    rw [this]; decide
  have HS := Lib.hid fun w => sum_any ⟨(b.drop 4).toArray⟩ w hz
  rw [show (⟨(b.drop 4).toArray⟩ : ByteArray).data.toList = b.drop 4 from rfl] at HS
  generalize (⟨(b.drop 4).toArray⟩ : ByteArray) = X at *
  generalize moreS 0 (b.drop 4) = N at *
  go_enter Try.func21, Try.ntmps21
  go_wp2_with fail
  have HB := Lib.hid ((Below.refl w.heap.size w).alloc (Nat.le_refl _) (.cells (bl b) 27))
  refine (HS.out _).mono ?_
  rintro e w1 ⟨rfl, hb⟩
  have HB2 := Lib.hid (below_trans HB.out hb HB.out.size)
  clear hb
  go_wp2_with fail
  go_ret
  exact ⟨rfl, HB2.out⟩
end Go.Proofs.Yteahbdnnieaaaaa.Pa
