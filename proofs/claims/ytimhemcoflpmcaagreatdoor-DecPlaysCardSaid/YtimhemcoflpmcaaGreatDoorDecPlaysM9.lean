/- Texts of the walk, one behind the other. -/
import Derived.Test.YtimhemcoflpmcaaGreatDoorDecPlaysM8
import Derived.Test.YtimhemcoflpmcaaGreatDoorDecPlaysM1
import Derived.Test.YtimhemcoflpmcaaGreatDoorDecPlaysM2
import Derived.Deep.AppendSrc
import Derived.Laws.IdiomStrings

section
/- A row of bytes with room, that bytes are appended to in place; cells of any kind loaded and stored in a drawn region; for every package. -/
set_option maxRecDepth 100000
set_option linter.unusedVariables false
namespace Go.Proofs.YtimhemcoflpmcaaGreatDoor.Row
open Go.RowKit

theorem info_byte : ∃ i, Tryz.prog.info? 5 = some i ∧ i.zero = some (.int .u8 0) ∧ i.size = 1 ∧ i.bytes = 1 := by
  have h : (Tryz.prog.info? 5).map (fun i => (i.zero, i.size, i.bytes)) = some (some (.int .u8 0), 1, 1) := by kernel_rfl
  obtain ⟨i, hi, hzz⟩ := Option.map_eq_some_iff.1 h
  simp only [Prod.mk.injEq] at hzz
  exact ⟨i, hi, hzz.1, hzz.2.1, hzz.2.2⟩

/-- Bytes as cells. -/
def bv (l : List UInt8) : List Value := l.map fun c => Value.int .u8 (c.toNat : Int)
theorem bv_length (l : List UInt8) : (bv l).length = l.length := by unfold bv; simp
theorem bv_get (l : List UInt8) (i : Nat) : (bv l)[i]? = l[i]?.map fun c => Value.int .u8 (c.toNat : Int) := by unfold bv; simp

/-- At block g stand the bytes l, in a row of N. -/
def TxtAt (N : Nat) (w : World) (g : Nat) (l : List UInt8) : Prop := l.length ≤ N ∧ ∃ cur : Array Value, At w g cur 5 ∧ cur.size = N ∧ ∀ (i : Nat) (c : UInt8), l[i]? = some c → cur[i]? = some (Value.int .u8 (c.toNat : Int))
theorem TxtAt.lt {N : Nat} {w : World} {g : Nat} {l : List UInt8} (h : TxtAt N w g l) : g < w.heap.size := by
  obtain ⟨_, cur, hA, _⟩ := h; exact hA.lt
theorem TxtAt.fr {N : Nat} {w w' : World} {g : Nat} {l : List UInt8} {T : Nat → Prop} (h : TxtAt N w g l) (hf : Fr T w w') (hT : ¬ T g) : TxtAt N w' g l := by
  obtain ⟨h0, cur, hA, h1, h2⟩ := h
  exact ⟨h0, cur, hA.fr hf hT, h1, h2⟩
theorem TxtAt.below {N : Nat} {w w' : World} {g : Nat} {l : List UInt8} (h : TxtAt N w g l) (hb : Below w.heap.size w w') : TxtAt N w' g l :=
  h.fr (T := fun _ => False) (.of_below hb) fun h => h
theorem TxtAt.setCell_other {N : Nat} {w : World} {g : Nat} {l : List UInt8} {a : Addr} {v : Value} (h : TxtAt N w g l) (hg : g ≠ a.block) : TxtAt N (w.setCell a v) g l := by
  obtain ⟨h0, cur, hA, h1, h2⟩ := h
  exact ⟨h0, cur, hA.setCell_other hg, h1, h2⟩
theorem TxtAt.nil {N : Nat} {w : World} {g : Nat} {cur : Array Value} (h : At w g cur 5) (hs : cur.size = N) : TxtAt N w g [] := ⟨Nat.zero_le _, cur, h, hs, fun i c hc => by cases hc⟩

/-- What is appended in place. -/
theorem TxtAt.app {N : Nat} {w : World} {g n : Nat} {l : List UInt8} (h : TxtAt N w g l) (m : List UInt8) (hl : l.length = n) (hm : n + m.length ≤ N) : ∃ C, w.setCells g n (bv m) = w.setRow g C ∧ TxtAt N (w.setRow g C) g (l ++ m) := by
  subst hl
  obtain ⟨h0, cur, hA, h1, h2⟩ := h
  obtain ⟨C, e1, e2, e3⟩ := setCells_row (bv m) l.length cur w hA
  refine ⟨C, e1, by rw [List.length_append]; omega, C, hA.setRow, by rw [e2, h1], fun i c hc => ?_⟩
  have hi : i < l.length + m.length := by
    have := (List.getElem?_eq_some_iff.1 hc).1
    rwa [List.length_append] at this
  rw [e3 i (by omega), bv_length]
  by_cases c1 : i < l.length
  · rw [List.getElem?_append_left c1] at hc
    rw [if_neg (by omega)]
    exact h2 i c hc
  · rw [List.getElem?_append_right (by omega)] at hc
    rw [if_pos (by omega), bv_get, hc]
    rfl

/-- 'append(p, x)' where there is room. -/
theorem run_app {N : Nat} {w : World} {g n k : Nat} {l m : List UInt8} {tx ty : TypeId} {x : Value} (h : TxtAt N w g l) (hl : l.length = n) (hmk : m.length = k) (hs : Src Tryz.prog 1 tx x k (bv m) w) (hm : n + k ≤ N) :
    ∃ C, (Builtin.append_ #[43, tx] ty #[.slice (some ⟨g, 0, none⟩) n N, x]).run Tryz.prog w = .ok (.slice (some ⟨g, 0, none⟩) (n + k) N) (w.setRow g C) ∧ TxtAt N (w.setRow g C) g (l ++ m) := by
  subst hmk
  obtain ⟨C, e1, e2⟩ := h.app m hl hm
  obtain ⟨i, hi, hz, hsz, hby⟩ := info_byte
  refine ⟨C, ?_, e2⟩
  obtain ⟨h0, cur, hA, h1, h2⟩ := h
  have hr := run_append_room_src (P := Tryz.prog) w 43 tx ty 5 i Tryz.underlying43 hi g 0 n N x m.length (bv m) (by rw [hsz]; exact hs) hm
    (fun j hj => by
      rw [bv_length] at hj
      rw [hsz, cell_of_row _ _ _ _ _ _ hA, Array.getElem?_eq_getElem (by omega)]; rfl)
    (fun j _ => hA.frozen _)
  rw [hr, hsz, Nat.zero_add, Nat.mul_one, e1]

/-- The same in a region that doesn't draw. -/
theorem wpList_app {N : Nat} {ops : Array Oper} {rest : List Oper} {o : Oper} {a : Act} {w : World} {Q : Exit → Act → World → Prop} (hgd : o.guard = none) (s y : Operand) (tx : TypeId)
    (ho : o.op = .call { callee := .builtin .append, args := #[s, y], argTypes := #[43, tx] }) {g n k r : Nat} {l m : List UInt8} {x : Value}
    (hs : a.eval s = .slice (some ⟨g, 0, none⟩) n N) (hx : a.eval y = x) (h : TxtAt N w g l) (hl : l.length = n) (hmk : m.length = k) (hsrc : Src Tryz.prog 1 tx x k (bv m) w) (hr : n + k = r) (hm : r ≤ N)
    (hK : ∀ C, TxtAt N (w.setRow g C) g (l ++ m) → wpList Tryz.prog ops Q rest (a.put o.dst (.slice (some ⟨g, 0, none⟩) r N)) (w.setRow g C)) : wpList Tryz.prog ops Q (o :: rest) a w := by
  subst hr
  obtain ⟨C, hr, hT⟩ := run_app (ty := o.type) h hl hmk hsrc hm
  refine wpList_plain hgd fun K hK' => ?_
  unfold Oper.wp
  simp [execOp, ho, resolve, invoke, builtin, hs, hx, hr, Result.andThen]
  exact hK' _ _ (hK C hT)

theorem src_string (s : List UInt8) (w : World) : Src Tryz.prog 1 9 (.string ⟨s.toArray⟩) s.length (bv s) w := by
  have := Src.ofString (P := Tryz.prog) w Tryz.underlying9 ⟨s.toArray⟩
  have e : byteCells ⟨s.toArray⟩ = bv s := by unfold byteCells bv; simp
  rw [e] at this
  have e2 : (⟨s.toArray⟩ : ByteArray).size = s.length := by simp [ByteArray.size]
  rwa [e2] at this
theorem src_one {w : World} {b c : Nat} {x : UInt8} (h : w.cell? ⟨b, 0, none⟩ = some (.int .u8 (x.toNat : Int))) : Src Tryz.prog 1 43 (.slice (some ⟨b, 0, none⟩) 1 c) 1 (bv [x]) w :=
  Src.ofSlice (P := Tryz.prog) w Tryz.underlying43 ⟨b, 0, none⟩ 1 c (bv [x]) rfl (fun j u hj => by
    match j, hj with
    | 0, hj => simp [bv] at hj; subst hj; simpa [Addr.add] using h) (fun u hu => by simp [bv] at hu; subst hu; rfl)

theorem conv_txt {N : Nat} {w : World} {g n c : Nat} {l : List UInt8} (h : TxtAt N w g l) (hl : l.length = n) : (convert 43 9 (.slice (some ⟨g, 0, none⟩) n c)).run Tryz.prog w = .ok (.string ⟨l.toArray⟩) w := by
  subst hl
  refine run_convert_bytes_back (P := Tryz.prog) w 43 9 5 ⟨g, 0, none⟩ c l Tryz.underlying43 Tryz.underlying5 Tryz.underlying9 ?_
  intro j hj
  obtain ⟨h0, cur, hA, h1, h2⟩ := h
  rw [Addr.add_lit, cell_of_row _ _ _ _ _ _ hA, Nat.zero_add]
  exact h2 j _ (List.getElem?_eq_getElem hj)

/-! Cells of any kind that is no row. -/
theorem run_cellV {w : World} {p : Addr} {v : Value} {t : TypeId} {d : TypeDesc} (hu : Tryz.prog.underlying t = some d) (hd : d.isRow = false) (h : w.cell? p = some v) : (Instr.loadAt t (.pointer (some p))).run Tryz.prog w = .ok v w := by
  have h2 : (isAgg t).run Tryz.prog w = .ok false w := by
    unfold isAgg
    rw [Sem.run_bind, run_underlying hu w]
    cases d <;> simp_all
  simp [Instr.loadAt, Instr.sureAddr, loadVar, h2, h, go_sem]
theorem y_cellV {ops : Array Oper} {S : World → Prop} {a : Act} {oi : Oper} {y : Operand} {p : Addr} {v : Value} {t : TypeId} {d : TypeDesc} (hw : Region.wanted oi (yielded ops a.tmps) = true) (ho : oi.op = .load t y) (hy : a.eval y = .pointer (some p))
    (hu : Tryz.prog.underlying t = some d) (hd : d.isRow = false) (hc : ∀ w, S w → w.cell? p = some v) : YieldsIf Tryz.prog ops S oi v a :=
  .inl ⟨hw, fun w hw' => by
    unfold execOp
    simp only [ho, hy, run_cellV hu hd (hc w hw'), Sem.run_bind, Sem.run_pure, Result.andThen_ok]⟩

theorem run_storeAt_one {w : World} {p : Addr} {u v : Value} {t : TypeId} (hi : (Tryz.prog.info? t).map (·.size) = some 1) (hv : v.cells = #[v]) (h1 : v.oneCell' = true) (hc : w.cell? p = some u) (hf : w.frozen? p = false) : (Instr.storeAt t (.pointer (some p)) v).run Tryz.prog w = .ok () (w.setCell p v) := by
  have e : p.add 0 = p := by unfold Addr.add; simp
  have hz : (sizeOf t).run Tryz.prog w = .ok 1 w := by
    cases hq : Tryz.prog.info? t with
    | none => rw [hq] at hi; cases hi
    | some i =>
      rw [hq] at hi
      injection hi with hi
      simp [sizeOf, typeInfo, hq, hi]
  simp [e, Instr.storeAt, Instr.sureAddr, storeVar, storeCells, hz, hv, run_store Tryz.prog w p v _ h1, hc, hf]

section
variable {ops : Array Oper} {Q : Exit → Act → World → Prop} {S : World → Prop} {F : Nat → Bool} {fuel : Nat} {listed : Array Bool} {a : Act} {w : World} {oi : Oper} {i d : Nat} {rs : List Nat}

/-- A cell of any kind stored, by one of F. -/
theorem af_cellV {x y : Operand} {t : TypeId} (p : Addr) (v : Value) {u : Value} (hi : ops[i]? = some oi) (hd : oi.dst = none) (hw : Region.wanted oi (yielded ops a.tmps) = true)
    (ho : oi.op = .store t x y) (hF : F i = true) (hx : a.eval x = .pointer (some p)) (hy : a.eval y = v) (hsz : (Tryz.prog.info? t).map (·.size) = some 1) (hv : v.cells = #[v]) (h1 : v.oneCell' = true) (hc : w.cell? p = some u) (hf : w.frozen? p = false)
    (h : wpAnyF Tryz.prog .any ops (NoPanic Q) S F fuel (listed.setIfInBounds i true) a (w.setCell p v))
    (hs : AllReadyF Tryz.prog .any ops (NoPanic Q) S F fuel listed a w rs) : AllReadyF Tryz.prog .any ops (NoPanic Q) S F fuel listed a w (i :: rs) := by
  refine AllReadyF.cons hi (fun K hK => ?_) hs
  rw [if_pos hw]
  unfold Oper.wp execOp
  simp only [ho, hx, hy, Sem.run_bind, Sem.run_pure, Result.andThen_ok, run_storeAt_one hsz hv h1 hc hf]
  rw [Oper.upon_skip, hd]
  exact hK.out _ _ (fun h => by rw [hF] at h; cases h) h

/-- 'append' in place, by one of F. -/
theorem af_app {N : Nat} (s y : Operand) (tx : TypeId) (hi : ops[i]? = some oi) (hd : oi.dst = some d) (hw : Region.wanted oi (yielded ops a.tmps) = true)
    (ho : oi.op = .call { callee := .builtin .append, args := #[s, y], argTypes := #[43, tx] }) (hF : F i = true) {g n k : Nat} {l m : List UInt8} {x : Value}
    (hse : a.eval s = .slice (some ⟨g, 0, none⟩) n N) (hx : a.eval y = x) (hT : TxtAt N w g l) (hl : l.length = n) (hmk : m.length = k) (hsrc : Src Tryz.prog 1 tx x k (bv m) w) (hm : n + k ≤ N)
    (h : ∀ C, TxtAt N (w.setRow g C) g (l ++ m) → wpAnyF Tryz.prog .any ops (NoPanic Q) S F fuel (listed.setIfInBounds i true) (a.put (some d) (.slice (some ⟨g, 0, none⟩) (n + k) N)) (w.setRow g C))
    (hs : AllReadyF Tryz.prog .any ops (NoPanic Q) S F fuel listed a w rs) : AllReadyF Tryz.prog .any ops (NoPanic Q) S F fuel listed a w (i :: rs) := by
  obtain ⟨C, hr, hT⟩ := run_app (ty := oi.type) hT hl hmk hsrc hm
  refine AllReadyF.cons hi (fun K hK => ?_) hs
  rw [if_pos hw]
  unfold Oper.wp
  simp [execOp, ho, resolve, invoke, builtin, hse, hx, hr, Result.andThen]
  rw [Oper.upon_value, hd]
  exact hK.out _ _ (fun h => by rw [hF] at h; cases h) (h C hT)
end
end Go.Proofs.YtimhemcoflpmcaaGreatDoor.Row
end
