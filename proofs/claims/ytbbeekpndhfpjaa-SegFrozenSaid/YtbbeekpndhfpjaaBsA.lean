/- Bytes of one's own ([]byte) that a text is appended to: where they lie then; read as a text. For every package. -/
import Derived.Test.YtbbeekpndhfpjaaFr
import Derived.Lib.AppendStr
import Derived.Lib.AppendIntMem
import Derived.Laws.IdiomStrings
set_option maxRecDepth 100000
set_option linter.unusedVariables false
namespace Go.Proofs.Ytbbeekpndhfpjaa.Row
open Go.RowKit

/-- 'a, n, c' are bytes of one's own. -/
def OwB (w : World) (a : Option Addr) (n c : Nat) (bs : List UInt8) : Prop := w.ownsRow 0 5 1 (.slice a n c) n (Lib.byteCells bs)
section
variable {w w' : World} {a : Option Addr} {n c : Nat} {bs : List UInt8}
theorem OwB.len (h : OwB w a n c bs) : bs.length = n := by have := h.1; rw [Lib.byteCells_length, Nat.mul_one] at this; exact this
theorem OwB.nil (w : World) : OwB w none 0 0 [] := ⟨by simp [Lib.byteCells], .inl ⟨rfl, rfl⟩⟩
theorem OwB.fr {T : Nat → Prop} (h : OwB w a n c bs) (hf : Fr T w w') (hT : ∀ k, (Value.slice a n c).ownBlock = some k → ¬ T k) : OwB w' a n c bs := hf.owns h hT
theorem OwB.addr (h : OwB w a n c bs) (hn : 0 < n) : ∃ g, a = some ⟨g, 0, none⟩ ∧ g < w.heap.size := by
  obtain ⟨_, ⟨_, e⟩ | ⟨g, cap, cur, e, _, h4, _⟩⟩ := h
  · omega
  · simp only [Value.slice.injEq] at e
    exact ⟨g, e.1, (Array.getElem?_eq_some_iff.1 h4).1⟩
theorem OwB.lt (h : OwB w a n c bs) (k : Nat) (hk : (Value.slice a n c).ownBlock = some k) : k < w.heap.size := by
  obtain ⟨_, ⟨e, _⟩ | ⟨g, cap, cur, e, _, h4, _⟩⟩ := h
  · rw [e] at hk; cases hk
  · rw [e] at hk
    obtain rfl : g = k := by injection hk
    exact (Array.getElem?_eq_some_iff.1 h4).1
/-- Read as a text. -/
theorem OwB.text {g : Nat} (h : OwB w (some ⟨g, 0, none⟩) n c bs) {ts tx : TypeId} (hs : Try.prog.underlying ts = some (.slice 5)) (hx : Try.prog.underlying tx = some .string) :
    (convert ts tx (.slice (some ⟨g, 0, none⟩) n c)).run Try.prog w = .ok (.string ⟨bs.toArray⟩) w := by
  have hl := h.len
  subst hl
  refine run_convert_bytes_back (P := Try.prog) w ts tx 5 ⟨g, 0, none⟩ c bs hs Try.underlying5 hx fun j hj => ?_
  exact World.ownsRow.cells h (g := g) rfl j _ (by unfold Lib.byteCells; simp [hj])

theorem info_b8 : ∃ i, Try.prog.info? 5 = some i ∧ i.zero = some (.int .u8 0) ∧ i.size = 1 ∧ i.bytes = 1 := by
  have h : (Try.prog.info? 5).map (fun i => (i.zero, i.size, i.bytes)) = some (some (.int .u8 0), 1, 1) := by kernel_rfl
  obtain ⟨i, hi, hzz⟩ := Option.map_eq_some_iff.1 h
  simp only [Prod.mk.injEq] at hzz
  exact ⟨i, hi, hzz.1, hzz.2.1, hzz.2.2⟩

/-- 'p = append(p, s...)': what comes of it is in its block, or in a new one. -/
theorem run_append_str {ts tx ty : TypeId} (hs : Try.prog.underlying ts = some (.slice 5)) (hx : Try.prog.underlying tx = some .string) (h : OwB w a n c bs) (s : List UInt8) (h1 : 1 ≤ s.length) (hn : n + s.length ≤ 1000000) :
    ∃ g c' w', (Builtin.append_ #[ts, tx] ty #[.slice a n c, .string ⟨s.toArray⟩]).run Try.prog w = .ok (.slice (some ⟨g, 0, none⟩) (n + s.length) c') w' ∧ OwB w' (some ⟨g, 0, none⟩) (n + s.length) c' (bs ++ s) ∧
      w.grownBy w' (Value.slice a n c).ownBlock ∧ ((Value.slice a n c).ownBlock = some g ∨ w.heap.size ≤ g) := by
  obtain ⟨i, hi, hz, hsz, hby⟩ := info_b8
  have hss : (⟨s.toArray⟩ : ByteArray).size = s.length := by simp [ByteArray.size]
  obtain ⟨v', w', hr, ho, hg, hne⟩ := Lib.run_append_own_string (P := Try.prog) w 0 ts tx ty 5 i hs hx hi hz hsz hby _ n _ h ⟨s.toArray⟩ (by rw [hss]; unfold maxLen; omega) (by rw [hss]; omega) (Nat.zero_le _)
  rw [hss, Lib.strCells_toArray, ← Lib.byteCells_append] at ho
  -- where it lies
  have hwhere : (Value.slice a n c).ownBlock = v'.ownBlock ∨ ∃ k, v'.ownBlock = some k ∧ w.heap.size ≤ k := by
    rcases h.2 with ⟨e, rfl⟩ | ⟨g, cap, cur, e, _, h4, h5, h6, h7, h8⟩
    · rw [e] at hr
      have h2 := run_append_nil_string (P := Try.prog) w ts tx ty 5 i (.int .u8 0) hs hx hi hz ⟨s.toArray⟩ (by rw [hss]; omega) (by rw [hss]; omega) (by rw [hss, hby]; omega)
      rw [hr] at h2
      injection h2 with h2 _
      exact .inr ⟨_, by rw [h2]; rfl, Nat.le_refl _⟩
    · rw [e] at hr
      by_cases hroom : n + (⟨s.toArray⟩ : ByteArray).size ≤ cap
      · have h2 := Lib.run_append_room_string (P := Try.prog) w ts tx ty 5 i hs hx hi hsz g n cap cur h4 ⟨s.toArray⟩ hroom (by omega)
        rw [hr] at h2
        injection h2 with h2 _
        exact .inl (by rw [e, h2]; rfl)
      · have holds : ∀ j u, (Lib.byteCells bs)[j]? = some u → w.cell? ((⟨g, 0, none⟩ : Addr).add j) = some u := by
          have h0 := h
          unfold OwB at h0
          rw [e] at h0
          exact World.ownsRow.cells h0 (g := g) rfl
        have h2 := Lib.run_append_grow_string (P := Try.prog) w ts tx ty 5 i (.int .u8 0) hs hx hi hz ⟨g, 0, none⟩ n cap (Lib.byteCells bs) (by rw [hsz, Nat.mul_one, Lib.byteCells_length, h.len]) holds ⟨s.toArray⟩ (by omega) (by rw [hss]; omega) (by rw [hby]; exact growslice_fits (by omega) (by rw [hss]; omega))
        rw [hr] at h2
        injection h2 with h2 _
        exact .inr ⟨_, by rw [h2]; rfl, Nat.le_refl _⟩
  obtain ⟨g, c', cur, e⟩ : ∃ g c', ∃ cur : Array Value, v' = .slice (some ⟨g, 0, none⟩) (n + s.length) c' := by
    rcases ho.2 with ⟨_, e⟩ | ⟨g, cap, cur, e, _⟩
    · omega
    · exact ⟨g, cap, cur, e⟩
  subst e
  refine ⟨g, c', w', hr, ho, hg, ?_⟩
  rcases hwhere with h2 | ⟨k, h2, h3⟩
  · exact .inl h2
  · refine .inr ?_
    obtain rfl : g = k := by injection h2
    exact h3
theorem wpList_append_str {ops : Array Oper} {rest : List Oper} {o : Oper} {ac : Act} {Q : Exit → Act → World → Prop} {ts tx : TypeId} (hs : Try.prog.underlying ts = some (.slice 5)) (hx : Try.prog.underlying tx = some .string) (hgd : o.guard = none) (sl x : Operand)
    (ho : o.op = .call { callee := .builtin .append, args := #[sl, x], argTypes := #[ts, tx] }) (hsl : ac.eval sl = .slice a n c) (h : OwB w a n c bs) (s : List UInt8) (hxe : ac.eval x = .string ⟨s.toArray⟩) (h1 : 1 ≤ s.length) (hn : n + s.length ≤ 1000000)
    (hK : ∀ g c' w', OwB w' (some ⟨g, 0, none⟩) (n + s.length) c' (bs ++ s) → w.grownBy w' (Value.slice a n c).ownBlock → ((Value.slice a n c).ownBlock = some g ∨ w.heap.size ≤ g) → wpList Try.prog ops Q rest (ac.put o.dst (.slice (some ⟨g, 0, none⟩) (n + s.length) c')) w') :
    wpList Try.prog ops Q (o :: rest) ac w := by
  refine wpList_plain hgd fun K hK' => ?_
  obtain ⟨g, c', w', hr, h2, h3, h4⟩ := run_append_str (ty := o.type) hs hx h s h1 hn
  unfold Oper.wp execOp
  simp only [ho, resolve, invoke, builtin, Sem.run_bind, Sem.run_pure, Result.andThen_ok, List.map_toArray, List.map_cons, List.map_nil, hsl, hxe, hr]
  exact hK' _ _ (hK g c' w' h2 h3 h4)
end
end Go.Proofs.Ytbbeekpndhfpjaa.Row
