/- Texts of the walk, one behind the other. -/
import Derived.Test.YtbbeekpndhfpjaaSegLastsM11
import Derived.Test.YtbbeekpndhfpjaaSegLastsM4
import Derived.Laws.AppendOwnNone

section
/- Slices of elements, nil or in blocks that a call leaves alone: read, appended to one's own (carved out of DkR). For every package. -/
set_option maxRecDepth 100000
set_option linter.unusedVariables false
set_option linter.unusedSimpArgs false
namespace Go.Proofs.Ytbbeekpndhfpjaa.Dk
open Go.RowKit Go.Proofs.Ytbbeekpndhfpjaa.Row

/-- 'a, n, c' is a slice of n elements m cells wide, nil or in a block of G's. -/
def SlG (w : World) (G : Nat → Prop) (m : Nat) (a : Option Addr) (n c : Nat) (F : Nat → Array Value) : Prop :=
  n ≤ c ∧ c ≤ maxLen ∧ Wid m F n ∧ ((a = none ∧ n = 0 ∧ c = 0) ∨ ∃ b o, a = some ⟨b, o, none⟩ ∧ G b ∧ b < w.heap.size ∧ ∀ i, i < n → w.rangeAt b (o + i * m) (F i).toList)
section
variable {w w' : World} {G H : Nat → Prop} {m n c B : Nat} {a : Option Addr} {F K : Nat → Array Value} {te ts : TypeId}
theorem SlG.nil (w : World) (G : Nat → Prop) (m : Nat) (F : Nat → Array Value) : SlG w G m none 0 0 F := ⟨Nat.le_refl _, Nat.zero_le _, fun i hi => absurd hi (Nat.not_lt_zero i), .inl ⟨rfl, rfl, rfl⟩⟩
theorem SlG.keep (h : SlG w G m a n c F) (hs : w.heap.size ≤ w'.heap.size) (hk : ∀ k, G k → k < w.heap.size → w'.heap[k]? = w.heap[k]?) : SlG w' G m a n c F := by
  obtain ⟨h1, h2, h3, h4 | ⟨b, o, e, hG, hb, hr⟩⟩ := h
  · exact ⟨h1, h2, h3, .inl h4⟩
  · exact ⟨h1, h2, h3, .inr ⟨b, o, e, hG, Nat.lt_of_lt_of_le hb hs, fun i hi j v hv => (World.cell?_of_block (w := w) (hk b hG hb)).trans (hr i hi j v hv)⟩⟩
theorem SlG.below (h : SlG w G m a n c F) (hb : Below w.heap.size w w') : SlG w' G m a n c F := h.keep hb.size fun k _ hk => hb.block k hk
theorem SlG.kp (h : SlG w G m a n c F) (hk : Kp G w w') : SlG w' G m a n c F := h.keep hk.1 fun k hG _ => hk.2 k hG
theorem SlG.setCell (h : SlG w G m a n c F) {p : Addr} (v : Value) (hne : ∀ k, G k → k ≠ p.block) : SlG (w.setCell p v) G m a n c F :=
  h.keep (by simp [World.setCell]) fun k hG _ => heap_setCell_other _ _ _ _ (hne k hG)
theorem SlG.setRow (h : SlG w G m a n c F) {g : Nat} (C : Array Value) (hne : ∀ k, G k → k ≠ g) : SlG (w.setRow g C) G m a n c F :=
  h.keep (by rw [size_setRow]; exact Nat.le_refl _) fun k hG _ => Go.setRow_other _ _ _ _ (hne k hG)
theorem SlG.sub (h : SlG w G m a n c F) (hH : ∀ k, G k → k < w.heap.size → H k) : SlG w H m a n c F := by
  obtain ⟨h1, h2, h3, h4 | ⟨b, o, e, hG, hb, hr⟩⟩ := h
  · exact ⟨h1, h2, h3, .inl h4⟩
  · exact ⟨h1, h2, h3, .inr ⟨b, o, e, hH b hG hb, hb, hr⟩⟩
theorem SlG.ext (h : SlG w G m a n c F) (e : ∀ i, i < n → F i = K i) : SlG w G m a n c K := by
  obtain ⟨h1, h2, h3, h4⟩ := h
  refine ⟨h1, h2, fun i hi => by rw [← e i hi]; exact h3 i hi, h4.imp id fun ⟨b, o, e1, hG, hb, hr⟩ => ⟨b, o, e1, hG, hb, fun i hi => by rw [← e i hi]; exact hr i hi⟩⟩
theorem Els.slG (h : Els w B te m a n c F) (hG : ∀ k, B ≤ k → k < w.heap.size → G k) : SlG w G m a n c F := by
  obtain ⟨h0, h1, ⟨e, hn⟩ | ⟨g, cap, cur, e, h3, h4, h5⟩⟩ := id h
  · simp only [Value.slice.injEq] at e
    exact ⟨h.cap.1, h.cap.2, h0, .inl ⟨e.1, hn, e.2.2⟩⟩
  · simp only [Value.slice.injEq] at e
    obtain ⟨rfl, _, rfl⟩ := e
    have hg : g < w.heap.size := (Array.getElem?_eq_some_iff.1 h4).1
    exact ⟨h.cap.1, h.cap.2, h0, .inr ⟨g, 0, rfl, hG g h3 hg, hg, fun i hi => by rw [Nat.zero_add]; exact h.range hi⟩⟩
theorem SlG.range (h : SlG w G m a n c F) {k : Nat} (hk : k < n) : ∃ b o, a = some ⟨b, o, none⟩ ∧ G b ∧ w.rangeAt b (o + k * m) (F k).toList := by
  obtain ⟨h1, h2, h3, ⟨_, h4, _⟩ | ⟨b, o, e, hG, hb, hr⟩⟩ := h
  · omega
  · exact ⟨b, o, e, hG, hr k hk⟩

/-- 'append(p, q...)', q only read. -/
theorem wpList_append_sl {ops : Array Oper} {rest : List Oper} {o : Oper} {ac : Act} {Q : Exit → Act → World → Prop} {by_ : Nat} {Z : Array Value} (T : ElT ts te m by_ Z) (hgd : o.guard = none) (s x : Operand)
    (ho : o.op = .call { callee := .builtin .append, args := #[s, x], argTypes := #[ts, ts] })
    (hs : ac.eval s = .slice a n c) (hown : Els w B te m a n c F) {ax : Option Addr} {k d : Nat} (hx : ac.eval x = .slice ax k d) (hX : SlG w G m ax k d K)
    (hn : n + k ≤ 1000000) (hB : B ≤ w.heap.size)
    (hK : ∀ a' c' w', Els w' B te m a' (n + k) c' (catE F n K) → Below B w w' → w.grownBy w' (Value.slice a n c).ownBlock → wpList Try.prog ops Q rest (ac.put o.dst (.slice a' (n + k) c')) w') : wpList Try.prog ops Q (o :: rest) ac w := by
  obtain ⟨h1, h2, h3, ⟨rfl, rfl, rfl⟩ | ⟨b, p, rfl, hG, hb, hr⟩⟩ := hX
  · obtain ⟨i, z, hi, hz, hzc, hsz, hby⟩ := T.info
    refine wpList_append_own_none hgd s x ts ho B te i m T.hu hi (.slice a n c) n (elL F n) hs hown.2 hx ?_
    exact hK a c w (hown.ext fun i hi => by unfold catE; rw [if_pos hi]) (Below.refl _ _) ⟨rfl, rfl, rfl, Nat.le_refl _, fun _ _ _ => rfl⟩
  · exact wpList_append_els T hgd s x ho hs hown b p k d hx h3 hr hn hB fun a' c' w' h4 h5 h6 _ => hK a' c' w' h4 h5 h6
end

/-- 'append([]T{}, q...)'. -/
theorem wpList_copy_sl {w : World} {G : Nat → Prop} {m B : Nat} {K : Nat → Array Value} {te ts : TypeId} {ops : Array Oper} {rest : List Oper} {o : Oper} {ac : Act} {Q : Exit → Act → World → Prop} {by_ : Nat} {Z : Array Value} (T : ElT ts te m by_ Z) (hgd : o.guard = none) (s x : Operand)
    (ho : o.op = .call { callee := .builtin .append, args := #[s, x], argTypes := #[ts, ts] }) {g : Nat}
    (hs : ac.eval s = .slice (some ⟨g, 0, none⟩) 0 0) (hg : At w g #[] te) (hBg : B ≤ g) {ax : Option Addr} {k d : Nat} (hx : ac.eval x = .slice ax k d) (hX : SlG w G m ax k d K) (hn : k ≤ 1000000)
    (hK : ∀ a' c' w', Els w' B te m a' k c' K → Below B w w' → w.grownBy w' (some g) → wpList Try.prog ops Q rest (ac.put o.dst (.slice a' k c')) w') : wpList Try.prog ops Q (o :: rest) ac w := by
  refine wpList_append_sl T hgd s x ho hs (Els.empty (fun _ => #[]) hBg hg) hx hX (by omega) (Nat.le_trans hBg (Nat.le_of_lt hg.lt)) fun a' c' w' h1 h2 h3 => ?_
  rw [Nat.zero_add] at h1 ⊢
  exact hK a' c' w' (h1.ext fun i hi => by rw [catE_0]) h2 h3
/-- '[]T{}'. -/
theorem wpList_slice_nil {ops : Array Oper} {rest : List Oper} {o : Oper} {ac : Act} {Q : Exit → Act → World → Prop} {w : World} {ts te : TypeId} {m by_ : Nat} {Z : Array Value} (T : ElT ts te m by_ Z) (hgd : o.guard = none) (ho : o.op = .buildSlice ts 0 #[])
    (h : wpList Try.prog ops Q rest (ac.put o.dst (.slice (some ⟨w.heap.size, 0, none⟩) 0 0)) (w.alloc (.cells #[] te))) : wpList Try.prog ops Q (o :: rest) ac w := by
  refine wpList_plain hgd fun K hK => ?_
  obtain ⟨i, z, hi, hz, hzc, hsz, hby⟩ := T.info
  have hs : ∀ w, (sizeOf te).run Try.prog w = .ok m w := fun w => by simp [sizeOf, typeInfo, hi, hsz]
  have hr : (Instr.buildSlice ts 0 #[]).run Try.prog w = .ok (.slice (some ⟨w.heap.size, 0, none⟩) 0 0) (w.alloc (.cells #[] te)) := by
    unfold Instr.buildSlice
    simp [Sem.run_bind, run_underlying T.hu, hs, Instr.fill]
    rw [show Array.map (fun _ => (default : Value)) (Array.range 0) = #[] from Array.eq_empty_of_size_eq_zero (by simp)]
    rfl
  unfold Oper.wp execOp
  simp only [ho, List.map_toArray, Array.map_empty, List.map_nil, hr, Sem.run_bind, Result.andThen_ok, Sem.run_pure]
  exact hK _ _ h
end Go.Proofs.Ytbbeekpndhfpjaa.Dk
end

section
/- SlTo: 'x[:k]', x a slice that may be nil. -/
set_option maxRecDepth 100000
set_option linter.unusedVariables false
set_option linter.unusedSimpArgs false
namespace Go.Proofs.Ytbbeekpndhfpjaa.Dk
open Go.RowKit Go.Proofs.Ytbbeekpndhfpjaa.Row
theorem add_zero (p : Addr) : p.add 0 = p := by
  cases p; rfl
/-- 'x[:k]'. -/
theorem wpList_slice_to {ops : Array Oper} {rest : List Oper} {o : Oper} {ac : Act} {Q : Exit → Act → World → Prop} {w : World} {ts te : TypeId} {m by_ : Nat} {Z : Array Value} (T : ElT ts te m by_ Z) (hgd : o.guard = none) (x y : Operand) (ho : o.op = .slice ts x none (some y) none)
    {a : Option Addr} {n c k : Nat} (hx : ac.eval x = .slice a n c) (hy : ac.eval y = .int .i64 k) (hk : k ≤ c)
    (h : wpList Try.prog ops Q rest (ac.put o.dst (.slice a k c)) w) : wpList Try.prog ops Q (o :: rest) ac w := by
  refine wpList_plain hgd fun K hK => ?_
  obtain ⟨i, z, hi, hz, hzc, hsz, hby⟩ := T.info
  have hs : ∀ w, (sizeOf te).run Try.prog w = .ok m w := fun w => by simp [sizeOf, typeInfo, hi, hsz]
  have e : ∀ j, (if c = 0 then a else a.map (·.add (0 * j))) = a := fun j => by
    split
    · rfl
    · cases a with
      | none => rfl
      | some p => simp only [Option.map_some, Nat.zero_mul, add_zero]
  have hr : (Instr.sliceAt ts (.slice a n c) none (some (.int .i64 k)) none).run Try.prog w = .ok (.slice a k c) w := by
    have h0 : (0 : Int) ≤ k ∧ (k : Int) ≤ c := ⟨by omega, by omega⟩
    unfold Instr.sliceAt Instr.slice Instr.sliceBounds Instr.sliceBound
    simp [Sem.run_bind, run_underlying T.hu, hs, asIntOf, hk, e]
    first | done | exact e m | (have := e m; simp at this; exact this)
  unfold Oper.wp execOp
  simp only [ho, hx, hy, Option.map_none, Option.map_some, hr, Sem.run_bind, Result.andThen_ok, Sem.run_pure]
  exact hK _ _ h
end Go.Proofs.Ytbbeekpndhfpjaa.Dk
end
