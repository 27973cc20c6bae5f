/- Texts of the walk, one behind the other. -/
import Derived.Test.YtfohinlldchdpaaGreatDoorEncSilenceM3
import Derived.Test.YtfohinlldchdpaaGreatDoorEncSilenceM1
import Derived.Test.YtfohinlldchdpaaGreatDoorEncSilenceM4
import Derived.OwnWalk
import Derived.Test.YtfohinlldchdpaaGreatDoorEncSilenceM2

section
/- Slices of strings of the function's own: what they hold, one more appended. For every package. -/
set_option maxRecDepth 100000
set_option linter.unusedVariables false
namespace Go.Proofs.YtfohinlldchdpaaGreatDoor.Row
open Go.RowKit

def sgL (G : Nat → ByteArray) (n : Nat) : List Value := (List.range n).map fun i => .string (G i)
theorem sgL_length (G : Nat → ByteArray) (n : Nat) : (sgL G n).length = n := by unfold sgL; simp
theorem sgL_get (G : Nat → ByteArray) (n i : Nat) (hi : i < n) : (sgL G n)[i]? = some (.string (G i)) := by unfold sgL; simp [hi]
theorem sgL_next (G : Nat → ByteArray) (n : Nat) : sgL G n ++ [.string (G n)] = sgL G (n + 1) := by unfold sgL; rw [List.range_succ, List.map_append]; rfl

/-- 'a, n, c' is a slice of its own, of n strings. -/
def Sgs (w : World) (B : Nat) (a : Option Addr) (n c : Nat) (G : Nat → ByteArray) : Prop := w.ownsRow B 9 1 (.slice a n c) n (sgL G n)
theorem Sgs.nil (w : World) (B : Nat) (G : Nat → ByteArray) : Sgs w B none 0 0 G := ⟨by rw [sgL_length], .inl ⟨rfl, rfl⟩⟩
theorem Sgs.below {w w' : World} {B n c : Nat} {a : Option Addr} {G : Nat → ByteArray} (h : Sgs w B a n c G) (hb : Below w.heap.size w w') : Sgs w' B a n c G := owns_below h hb
theorem Sgs.wide {w : World} {B B' n c : Nat} {a : Option Addr} {G : Nat → ByteArray} (h : Sgs w B a n c G) (hB : B' ≤ B) : Sgs w B' a n c G := by
  obtain ⟨h1, h2 | ⟨g, cap, cur, e, h3, h4⟩⟩ := h
  · exact ⟨h1, .inl h2⟩
  · exact ⟨h1, .inr ⟨g, cap, cur, e, by omega, h4⟩⟩
/-- What leaves its block on. -/
theorem Sgs.keep {w w' : World} {B n c : Nat} {a : Option Addr} {G : Nat → ByteArray} (h : Sgs w B a n c G) (hk : ∀ g, (Value.slice a n c).ownBlock = some g → w'.heap[g]? = w.heap[g]?) : Sgs w' B a n c G := by
  obtain ⟨h1, h2 | ⟨g, cap, cur, e, h3, h4, h5⟩⟩ := h
  · exact ⟨h1, .inl h2⟩
  · refine ⟨h1, .inr ⟨g, cap, cur, e, h3, ?_, h5⟩⟩
    rw [hk g (by rw [e]; rfl)]; exact h4
theorem Sgs.block {w : World} {B n c : Nat} {a : Option Addr} {G : Nat → ByteArray} (h : Sgs w B a n c G) (k : Nat) (hk : (Value.slice a n c).ownBlock = some k) : B ≤ k ∧ k < w.heap.size := by
  obtain ⟨_, ⟨e, _⟩ | ⟨g, cap, cur, e, h3, h4, _⟩⟩ := h
  · rw [e] at hk; cases hk
  · rw [e] at hk
    simp only [Value.ownBlock, Option.some.injEq] at hk
    subst hk
    exact ⟨h3, (Array.getElem?_eq_some_iff.1 h4).1⟩
theorem Sgs.setRow {w : World} {B n c b : Nat} {a : Option Addr} {G : Nat → ByteArray} (h : Sgs w B a n c G) (hb : b < B) (C : Array Value) : Sgs (w.setRow b C) B a n c G :=
  h.keep fun g hg => by
    have hne : b ≠ g := by have := (h.block g hg).1; omega
    unfold World.setRow
    simp [Array.getElem?_modify, hne]
theorem Sgs.addr {w : World} {B n c : Nat} {a : Option Addr} {G : Nat → ByteArray} (h : Sgs w B a n c G) (hn : 0 < n) : ∃ g, a = some ⟨g, 0, none⟩ ∧ B ≤ g ∧ g < w.heap.size := by
  obtain ⟨_, h2 | ⟨g, cap, cur, e, h3, h4, _⟩⟩ := h
  · omega
  · simp only [Value.slice.injEq] at e
    exact ⟨g, e.1, h3, (Array.getElem?_eq_some_iff.1 h4).1⟩
theorem Sgs.cap {w : World} {B n c : Nat} {a : Option Addr} {G : Nat → ByteArray} (h : Sgs w B a n c G) : n ≤ c ∧ c ≤ maxLen := by
  obtain ⟨_, ⟨e, h0⟩ | ⟨g, cap, cur, e, _, _, h5, h6, _⟩⟩ := h
  · simp only [Value.slice.injEq] at e
    rw [h0, e.2.2]; exact ⟨by omega, by unfold maxLen; omega⟩
  · simp only [Value.slice.injEq] at e
    rw [e.2.2]; exact ⟨h5, h6⟩
theorem Sgs.cell {w : World} {B n c g i : Nat} {G : Nat → ByteArray} (h : Sgs w B (some ⟨g, 0, none⟩) n c G) (hi : i < n) : w.cell? ⟨g, i, none⟩ = some (.string (G i)) := by
  have := World.ownsRow.cells h (g := g) rfl i _ (sgL_get G n i hi)
  rw [Go.WideShapes.add_plain, Nat.zero_add] at this
  exact this
theorem Sgs.ext {w : World} {B n c : Nat} {a : Option Addr} {G H : Nat → ByteArray} (h : Sgs w B a n c G) (e : ∀ i, i < n → G i = H i) : Sgs w B a n c H := by
  have : sgL G n = sgL H n := by
    unfold sgL
    refine List.map_congr_left fun q hq => ?_
    rw [e q (List.mem_range.1 hq)]
  unfold Sgs; rw [← this]; exact h

theorem info_string : ∃ i, Tryz.prog.info? 9 = some i ∧ i.zero = some (.string ⟨#[]⟩) ∧ i.size = 1 ∧ i.bytes = 16 := info_parts (by kernel_rfl)

/-- 'p = append(p, x)', one string. -/
theorem wpList_append_string {ops : Array Oper} {rest : List Oper} {o : Oper} {a : Act} {w : World} {Q : Exit → Act → World → Prop} (hgd : o.guard = none) (s x : Operand)
    (ho : o.op = .call { callee := .builtin .append, args := #[s, x], argTypes := #[43, 43] })
    (B : Nat) (G : Nat → ByteArray) (ao : Option Addr) (n c : Nat) (hs : a.eval s = .slice ao n c) (hown : Sgs w B ao n c G)
    (b : Nat) (hx : a.eval x = .slice (some ⟨b, 0, none⟩) 1 1) (hnew : w.cell? ⟨b, 0, none⟩ = some (.string (G n))) (hn : n + 1 ≤ 1000000) (hB : B ≤ w.heap.size)
    (h : ∀ a' c' w', Sgs w' B a' (n + 1) c' G → Below B w w' → w.grownBy w' (Value.slice ao n c).ownBlock → wpList Tryz.prog ops Q rest (a.put o.dst (.slice a' (n + 1) c')) w') : wpList Tryz.prog ops Q (o :: rest) a w := by
  obtain ⟨i, hi, hz, hsz, hby⟩ := info_string
  refine wpList_append_own_at w hgd s x 43 ho B 9 i _ 1 16 Tryz.underlying43 hi hz hsz hby rfl (by decide) (.slice ao n c) n (sgL G n) hs hown ⟨b, 0, none⟩ 1 1 [.string (G n)] hx rfl ?_ ?_ (by unfold maxLen; omega) (by omega) hB ?_
  · intro j u hj
    match j, hj with
    | 0, hj => simp at hj; subst hj; simpa [Addr.add] using hnew
  · intro u hu; simp at hu; subst hu; rfl
  · intro v' w' hown' hg _ hat
    rw [sgL_next G n] at hown'
    obtain ⟨_, h2⟩ := id hown'
    rcases h2 with ⟨_, h0⟩ | ⟨g, c', cur, rfl, _⟩
    · omega
    · exact h _ c' w' hown' ((Below.refl B w).grown hg hB fun k hk => (hown.block k hk).1) hg
end Go.Proofs.YtfohinlldchdpaaGreatDoor.Row
end

section
/- Slices of blocks (16 numbers each, by value) of the function's own: what they hold, one more appended, a slice of one block written out. For every package. -/
set_option maxRecDepth 100000
set_option linter.unusedVariables false
namespace Go.Proofs.YtfohinlldchdpaaGreatDoor.Row
open Go.RowKit

/-- The numbers of n blocks, one behind the other. -/
def bkL (F : Nat → Nat → Int) (n : Nat) : List Value := intsL (fun q => F (q / 16) (q % 16)) (n * 16)
theorem bkL_length (F : Nat → Nat → Int) (n : Nat) : (bkL F n).length = n * 16 := intsL_length _ _
theorem bkL_get (F : Nat → Nat → Int) (n i j : Nat) (hi : i < n) (hj : j < 16) : (bkL F n)[i * 16 + j]? = some (.int .i64 (F i j)) := by
  unfold bkL
  rw [intsL_get _ _ _ (by omega), show (i * 16 + j) / 16 = i by omega, show (i * 16 + j) % 16 = j by omega]
theorem bkL_next (F : Nat → Nat → Int) (n : Nat) {R : Array Value} (hR : IsRow 16 (F n) R) : bkL F n ++ R.toList = bkL F (n + 1) := by
  apply List.ext_getElem?
  intro q
  by_cases h1 : q < n * 16
  · rw [List.getElem?_append_left (by rw [bkL_length]; exact h1)]
    obtain ⟨i, j, hj, rfl⟩ : ∃ i j, j < 16 ∧ q = i * 16 + j := ⟨q / 16, q % 16, by omega, by omega⟩
    rw [bkL_get F n i j (by omega) hj, bkL_get F (n + 1) i j (by omega) hj]
  · rw [List.getElem?_append_right (by rw [bkL_length]; omega), bkL_length]
    by_cases h2 : q < n * 16 + 16
    · obtain ⟨j, hj, rfl⟩ : ∃ j, j < 16 ∧ q = n * 16 + j := ⟨q - n * 16, by omega, by omega⟩
      rw [bkL_get F (n + 1) n j (by omega) hj, Nat.add_sub_cancel_left, Array.getElem?_toList, hR.2.2 j hj]
    · rw [List.getElem?_eq_none (by rw [Array.length_toList, hR.1]; omega), List.getElem?_eq_none (by rw [bkL_length]; omega)]
theorem bkL_ext {F G : Nat → Nat → Int} {n : Nat} (e : ∀ i, i < n → ∀ j, j < 16 → F i j = G i j) : bkL F n = bkL G n := by
  unfold bkL intsL
  refine List.map_congr_left fun q hq => ?_
  have := List.mem_range.1 hq
  dsimp only
  rw [e (q / 16) (by omega) (q % 16) (by omega)]

/-- 'a, n, c' is a slice of its own, of n blocks. -/
def Bks (w : World) (B : Nat) (a : Option Addr) (n c : Nat) (F : Nat → Nat → Int) : Prop := w.ownsRow B 32 16 (.slice a n c) n (bkL F n)
theorem Bks.nil (w : World) (B : Nat) (F : Nat → Nat → Int) : Bks w B none 0 0 F := ⟨by rw [bkL_length], .inl ⟨rfl, rfl⟩⟩
theorem Bks.below {w w' : World} {B n c : Nat} {a : Option Addr} {F : Nat → Nat → Int} (h : Bks w B a n c F) (hb : Below w.heap.size w w') : Bks w' B a n c F := owns_below h hb
theorem Bks.ext {w : World} {B n c : Nat} {a : Option Addr} {F G : Nat → Nat → Int} (h : Bks w B a n c F) (e : ∀ i, i < n → ∀ j, j < 16 → F i j = G i j) : Bks w B a n c G := by
  unfold Bks; rw [← bkL_ext e]; exact h
theorem Bks.wide {w : World} {B B' n c : Nat} {a : Option Addr} {F : Nat → Nat → Int} (h : Bks w B a n c F) (hB : B' ≤ B) : Bks w B' a n c F := by
  obtain ⟨h1, h2 | ⟨g, cap, cur, e, h3, h4⟩⟩ := h
  · exact ⟨h1, .inl h2⟩
  · exact ⟨h1, .inr ⟨g, cap, cur, e, by omega, h4⟩⟩
/-- What leaves all blocks from B on. -/
theorem Bks.keep {w w' : World} {B n c : Nat} {a : Option Addr} {F : Nat → Nat → Int} (h : Bks w B a n c F) (hk : ∀ g, B ≤ g → g < w.heap.size → w'.heap[g]? = w.heap[g]?) : Bks w' B a n c F := by
  obtain ⟨h1, h2 | ⟨g, cap, cur, e, h3, h4, h5⟩⟩ := h
  · exact ⟨h1, .inl h2⟩
  · refine ⟨h1, .inr ⟨g, cap, cur, e, h3, ?_, h5⟩⟩
    rw [hk g h3 (Array.getElem?_eq_some_iff.1 h4).1]; exact h4
theorem Bks.setRow {w : World} {B n c b : Nat} {a : Option Addr} {F : Nat → Nat → Int} (h : Bks w B a n c F) (hb : b < B) (C : Array Value) : Bks (w.setRow b C) B a n c F :=
  h.keep fun g hg _ => by
    have hne : b ≠ g := by omega
    unfold World.setRow
    simp [Array.getElem?_modify, hne]
theorem Bks.addr {w : World} {B n c : Nat} {a : Option Addr} {F : Nat → Nat → Int} (h : Bks w B a n c F) (hn : 0 < n) : ∃ g, a = some ⟨g, 0, none⟩ ∧ B ≤ g ∧ g < w.heap.size := by
  obtain ⟨_, h2 | ⟨g, cap, cur, e, h3, h4, _⟩⟩ := h
  · omega
  · simp only [Value.slice.injEq] at e
    exact ⟨g, e.1, h3, (Array.getElem?_eq_some_iff.1 h4).1⟩
theorem Bks.cap {w : World} {B n c : Nat} {a : Option Addr} {F : Nat → Nat → Int} (h : Bks w B a n c F) : n ≤ c ∧ c ≤ maxLen := by
  obtain ⟨_, ⟨e, h0⟩ | ⟨g, cap, cur, e, _, _, h5, h6, _⟩⟩ := h
  · simp only [Value.slice.injEq] at e
    rw [h0, e.2.2]; exact ⟨by omega, by unfold maxLen; omega⟩
  · simp only [Value.slice.injEq] at e
    rw [e.2.2]; exact ⟨h5, h6⟩
theorem Bks.block {w : World} {B n c : Nat} {a : Option Addr} {F : Nat → Nat → Int} (h : Bks w B a n c F) (k : Nat) (hk : (Value.slice a n c).ownBlock = some k) : B ≤ k ∧ k < w.heap.size := by
  obtain ⟨_, ⟨e, _⟩ | ⟨g, cap, cur, e, h3, h4, _⟩⟩ := h
  · rw [e] at hk; cases hk
  · rw [e] at hk
    simp only [Value.ownBlock, Option.some.injEq] at hk
    subst hk
    exact ⟨h3, (Array.getElem?_eq_some_iff.1 h4).1⟩
theorem Bks.cell {w : World} {B n c g i j : Nat} {F : Nat → Nat → Int} (h : Bks w B (some ⟨g, 0, none⟩) n c F) (hi : i < n) (hj : j < 16) : w.cell? ⟨g, i * 16 + j, none⟩ = some (.int .i64 (F i j)) := by
  have := World.ownsRow.cells h (g := g) rfl (i * 16 + j) _ (bkL_get F n i j hi hj)
  rw [Go.WideShapes.add_plain, Nat.zero_add] at this
  exact this
theorem Bks.range {w : World} {B n c g i : Nat} {F : Nat → Nat → Int} {R : Array Value} (h : Bks w B (some ⟨g, 0, none⟩) n c F) (hi : i < n) (hR : IsRow 16 (F i) R) : w.rangeAt g (i * 16) R.toList := fun j v hv => by
  have hj : j < 16 := by
    have := (List.getElem?_eq_some_iff.1 hv).1
    rw [Array.length_toList, hR.1] at this
    exact this
  rw [Array.getElem?_toList, hR.2.2 j hj] at hv
  injection hv with hv
  rw [← hv]
  exact h.cell hi hj

/-- A row that grows changes no block but its own. -/
theorem At.grown {w w' : World} {b : Nat} {A : Array Value} {t : TypeId} {row : Option Nat} (hA : At w b A t) (h : w.grownBy w' row) (hr : row ≠ some b) : At w' b A t :=
  (h.block b hA.lt fun e => hr e.symm).trans hA

theorem info_block : ∃ i, Tryz.prog.info? 32 = some i ∧ i.zero = some (.agg (Array.replicate 16 (.int .i64 0))) ∧ i.size = 16 ∧ i.bytes = 128 := info_parts (by kernel_rfl)

/-- 'p = append(p, y)', one block. -/
theorem wpList_append_block {ops : Array Oper} {rest : List Oper} {o : Oper} {a : Act} {w : World} {Q : Exit → Act → World → Prop} (hgd : o.guard = none) (s x : Operand)
    (ho : o.op = .call { callee := .builtin .append, args := #[s, x], argTypes := #[29, 29] })
    (B : Nat) (F : Nat → Nat → Int) (ao : Option Addr) (n c : Nat) (hs : a.eval s = .slice ao n c) (hown : Bks w B ao n c F)
    (b : Nat) (hx : a.eval x = .slice (some ⟨b, 0, none⟩) 1 1) {R : Array Value} (hnew : At w b R 32) (hR : IsRow 16 (F n) R) (hn : n + 1 ≤ 1000000) (hB : B ≤ w.heap.size)
    (h : ∀ a' c' w', Bks w' B a' (n + 1) c' F → Below B w w' → w.grownBy w' (Value.slice ao n c).ownBlock → wpList Tryz.prog ops Q rest (a.put o.dst (.slice a' (n + 1) c')) w') : wpList Tryz.prog ops Q (o :: rest) a w := by
  obtain ⟨i, hi, hz, hsz, hby⟩ := info_block
  refine wpList_append_own_at w hgd s x 29 ho B 32 i _ 16 128 Tryz.underlying29 hi hz hsz hby rfl (by decide) (.slice ao n c) n (bkL F n) hs hown ⟨b, 0, none⟩ 1 1 R.toList hx (by rw [Array.length_toList, hR.1]) ?_ ?_ (by unfold maxLen; omega) (by omega) hB ?_
  · intro j u hj
    rw [Go.WideShapes.add_plain, Nat.zero_add, hnew.cell, ← Array.getElem?_toList]
    exact hj
  · intro u hu
    have := Array.all_eq_true_iff_forall_mem.1 hR.2.1 u (by simpa using hu)
    exact this
  · intro v' w' hown' hg _ hat
    rw [bkL_next F n hR] at hown'
    obtain ⟨_, h2⟩ := id hown'
    rcases h2 with ⟨_, h0⟩ | ⟨g, c', cur, rfl, _⟩
    · omega
    · exact h _ c' w' hown' ((Below.refl B w).grown hg hB fun k hk => (hown.block k hk).1) hg

/-- A slice of one block written out. -/
theorem run_slice_one {f : Nat → Int} {R : Array Value} (hR : IsRow 16 f R) (w : World) :
    (Instr.buildSlice 29 1 #[(0, .agg R)]).run Tryz.prog w = .ok (.slice (some ⟨w.heap.size, 0, none⟩) 1 1) (w.alloc (.cells R 32)) := by
  obtain ⟨Z, hZ, _, hz, hi⟩ : ∃ Z, IsRow 16 (fun _ => 0) Z ∧ (∀ f, rowL 16 f 0 = Z) ∧ (∀ w, (zeroValue 32).run Tryz.prog w = .ok (.agg Z) w) ∧ ∀ A : Array Value, A.size = 16 → (Tryz.prog.info? 32).map (·.size) = some A.size := zero_row (by kernel_rfl)
  have hsz : ∀ w, (sizeOf 32).run Tryz.prog w = .ok 16 w := fun w => by
    obtain ⟨i, h1, _, h2, _⟩ := info_block
    simp [sizeOf, typeInfo, h1, h2]
  have r1 : Instr.fill (fun i => some (i * 16, 16)) ((Array.range (1 * 16)).map (Z[· % Z.size]!)) [(0, .agg R)] = some R := by
    obtain ⟨p1, p2⟩ := fold_lay R.toList 0 0 ((Array.range (1 * 16)).map (Z[· % Z.size]!))
    rw [fill_step (l := 0) (n := 16) rfl (by exact hR.1) (by simp)]
    show some _ = some _
    congr 1
    rw [show (Value.agg R).cells = R from rfl]
    refine (isRow_of (f := f) (by rw [p1]; simp) fun k hk => ?_).eq hR fun _ _ => rfl
    have := p2 k (by simp; exact hk)
    rw [this, if_pos (by rw [Array.length_toList, hR.1]; omega)]
    simp only [Nat.add_zero, Nat.sub_zero, Array.getElem?_toList]
    exact hR.2.2 k hk
  have hlt : ¬ (1 * 16 > 2 ^ 24) := by omega
  have h0 : ¬ (1 * 16 = 0) := by omega
  unfold Instr.buildSlice
  simp only [Sem.run_bind, run_underlying Tryz.underlying29, Result.andThen_ok, hsz, hlt, h0, if_false, hz, Value.cells, Sem.run_pure, r1]
  rfl
theorem wpList_slice_one {ops : Array Oper} {rest : List Oper} {o : Oper} {a : Act} {w : World} {Q : Exit → Act → World → Prop} (hgd : o.guard = none) (x : Operand) (ho : o.op = .buildSlice 29 1 #[(0, x)]) {f : Nat → Int} {R : Array Value} (hx : a.eval x = .agg R) (hR : IsRow 16 f R)
    (h : wpList Tryz.prog ops Q rest (a.put o.dst (.slice (some ⟨w.heap.size, 0, none⟩) 1 1)) (w.alloc (.cells R 32))) : wpList Tryz.prog ops Q (o :: rest) a w := by
  refine wpList_plain hgd fun K hK => ?_
  unfold Oper.wp execOp
  have hv : (#[(0, x)] : Array (Nat × Operand)).map (fun (i, x) => (i, a.eval x)) = #[(0, .agg R)] := by simp [hx]
  simp only [ho, hv, run_slice_one hR, Sem.run_bind, Result.andThen_ok, Sem.run_pure]
  exact hK _ _ h
end Go.Proofs.YtfohinlldchdpaaGreatDoor.Row
end

section
/- 'append(frames, make([]api.Block, m)...)': so many blocks of zeros behind a slice of one's own; and such a slice made. For every package. -/
set_option maxRecDepth 100000
set_option linter.unusedVariables false
namespace Go.Proofs.YtfohinlldchdpaaGreatDoor.Row
open Go.RowKit

def zrL (m : Nat) : List Value := List.replicate (m * 16) (.int .i64 0)
theorem zr_cells (m : Nat) : Builtin.zeroCells (Array.replicate 16 (Value.int .i64 0)) m = (zrL m).toArray := by
  apply Array.ext
  · simp [Builtin.zeroCells, zrL]
  · intro k h1 h2
    simp only [Builtin.zeroCells, zrL, Array.getElem_map, Array.getElem_range, Array.size_replicate, List.getElem_toArray, List.getElem_replicate]
    rw [getElem!_pos _ _ (by rw [Array.size_replicate]; omega), Array.getElem_replicate]
/-- What stands first, then zeros. -/
def thenZ (n : Nat) (F : Nat → Nat → Int) (i j : Nat) : Int := if i < n then F i j else 0
theorem bkL_zeros (F : Nat → Nat → Int) (n m : Nat) : bkL F n ++ zrL m = bkL (thenZ n F) (n + m) := by
  apply List.ext_getElem?
  intro q
  by_cases h1 : q < n * 16
  · rw [List.getElem?_append_left (by rw [bkL_length]; exact h1)]
    obtain ⟨i, j, hj, rfl⟩ : ∃ i j, j < 16 ∧ q = i * 16 + j := ⟨q / 16, q % 16, by omega, by omega⟩
    rw [bkL_get F n i j (by omega) hj, bkL_get _ (n + m) i j (by omega) hj]
    unfold thenZ; rw [if_pos (by omega)]
  · rw [List.getElem?_append_right (by rw [bkL_length]; omega), bkL_length]
    by_cases h2 : q < (n + m) * 16
    · obtain ⟨i, j, hj, rfl⟩ : ∃ i j, j < 16 ∧ q = i * 16 + j := ⟨q / 16, q % 16, by omega, by omega⟩
      rw [bkL_get _ (n + m) i j (by omega) hj]
      unfold thenZ zrL; rw [if_neg (by omega), List.getElem?_replicate, if_pos (by omega)]
    · rw [List.getElem?_eq_none (by unfold zrL; rw [List.length_replicate]; omega), List.getElem?_eq_none (by rw [bkL_length]; omega)]
theorem zr_one (m : Nat) : ∀ u ∈ zrL m, u.oneCell' = true := by
  intro u hu
  unfold zrL at hu
  rw [(List.mem_replicate.1 hu).2]
  rfl
theorem run_append_zeros {w : World} {B g n c m : Nat} {F : Nat → Nat → Int} (ty : TypeId) (h : Bks w B (some ⟨g, 0, none⟩) n c F) (hm : 0 < m) (hn : n + m ≤ 1000000) (hB : B ≤ w.heap.size) :
    ∃ a' c' w', (Builtin.append_ #[29, 3] ty #[.slice (some ⟨g, 0, none⟩) n c, .int .i64 m]).run Tryz.prog w = .ok (.slice a' (n + m) c') w' ∧ Bks w' B a' (n + m) c' (thenZ n F) ∧ w.grownBy w' (some g) := by
  obtain ⟨i, hi, hz, hsz, hby⟩ := info_block
  obtain ⟨hl, ⟨e, _⟩ | ⟨g', cap, cur, e, h3, h4, h5, h6, h7, h8⟩⟩ := h
  · simp at e
  simp only [Value.slice.injEq, Option.some.injEq, Addr.mk.injEq] at e
  obtain ⟨⟨rfl, _⟩, _, rfl⟩ := e
  have hw : IntKind.i64.wrap (m : Int) = m := IntWalk.i64_in _ (by omega)
  have hm0 : ¬ (m : Int) < 0 := by omega
  have hm1 : ¬ (281474976710656 : Int) < m * 128 := by omega
  by_cases hroom : n + m ≤ c
  · have hst := run_storeCells_at Tryz.prog g (n * 16) 32 (zrL m) 0 cur w h4 (by unfold zrL; rw [List.length_replicate, h7]; omega) (zr_one m)
    simp only [Nat.add_zero] at hst
    refine ⟨some ⟨g, 0, none⟩, c, w.setRow g (cur.toList.take (n * 16) ++ zrL m ++ cur.toList.drop (n * 16 + (zrL m).length)).toArray, ?_, ?_, ?_⟩
    · simp [Builtin.append_, run_underlying Tryz.underlying29, run_underlying Tryz.underlying3, sizeOf, typeInfo, zeroValue, hi, hz, hsz, hby, asInt, asIntOf, hw, hm0, hm1, hroom, Value.cells, zr_cells, Addr.add_lit, hst]
      intro hh; omega
    · have hzl : (zrL m).length = m * 16 := by unfold zrL; rw [List.length_replicate]
      refine ⟨bkL_length _ _, .inr ⟨g, c, _, rfl, h3, setRow_heap w g cur _ 32 _ h4, hroom, h6, ?_, ?_⟩⟩
      · simp only [List.size_toArray, List.length_append, List.length_take, List.length_drop, Array.length_toList]
        omega
      · rw [h8, bkL_zeros]
        have : (n + m) * 16 = (bkL (thenZ n F) (n + m)).length := (bkL_length _ _).symm
        rw [this]
        exact List.take_left
    · exact ⟨rfl, rfl, rfl, by simp, fun k _ hk => setRow_other w g k _ (fun e => hk (by rw [e]))⟩
  · have hzl : (zrL m).length = m * 16 := by unfold zrL; rw [List.length_replicate]
    have holds : ∀ j u, (bkL F n)[j]? = some u → w.cell? ((⟨g, 0, none⟩ : Addr).add j) = some u := fun j u hj => by
      have hb : Bks w B (some ⟨g, 0, none⟩) n c F := ⟨hl, .inr ⟨g, c, cur, rfl, h3, h4, h5, h6, h7, h8⟩⟩
      exact World.ownsRow.cells hb (g := g) rfl j u hj
    have hfo := run_firstCells_some (P := Tryz.prog) w.drew i.size n ⟨g, 0, none⟩ n c (bkL F n) (by rw [hsz]; exact hl) (by simpa using holds)
    rw [hsz] at hfo
    have h63' : ¬ (9223372036854775807 : Int) < (n : Int) + m := by omega
    have h48' : ¬ (281474976710656 < Builtin.nextslicecap (n + m) c * 128) := by
      have := growslice_fits (need := n + m) (old := c) (bytes := 128) (by omega) (by omega)
      omega
    have hge := grownCap_ge w (n + m) c 32
    have hcm := grownCap_le_maxLen w (n + m) c 32 (by unfold maxLen; omega)
    refine ⟨some ⟨w.heap.size, 0, none⟩, grownCap w (n + m) c 32, w.drew.alloc (.cells ((bkL F n).toArray ++ (zrL m).toArray ++ Builtin.zeroCells (Array.replicate 16 (Value.int .i64 0)) (grownCap w (n + m) c 32 - (n + m))) 32), ?_, ?_, ?_⟩
    · simp [Builtin.append_, run_underlying Tryz.underlying29, run_underlying Tryz.underlying3, sizeOf, typeInfo, zeroValue, hi, hz, hsz, hby, asInt, asIntOf, hw, hm0, hm1, hroom, h63', h48', Question.forced, Value.cells, zr_cells, hfo, newRow, grownCap]
      intro hh; omega
    · refine ⟨bkL_length _ _, .inr ⟨w.heap.size, _, _, rfl, hB, heap_alloc_new w.drew _, hge, hcm, ?_, ?_⟩⟩
      · simp only [Array.size_append, List.size_toArray, size_zeroCells, Array.size_replicate, bkL_length, hzl, ← Nat.add_mul]
        congr 1
        omega
      · simp only [Array.toList_append, List.append_assoc]
        rw [← List.append_assoc, bkL_zeros]
        have : (n + m) * 16 = (bkL (thenZ n F) (n + m)).length := (bkL_length _ _).symm
        rw [this]
        exact List.take_left
    · exact ⟨rfl, rfl, rfl, by simp, fun k hk _ => heap_alloc_old w.drew _ hk⟩
/-- 'p = append(p, make(.., m)...)'. -/
theorem wpList_append_zeros {ops : Array Oper} {rest : List Oper} {o : Oper} {a : Act} {w : World} {Q : Exit → Act → World → Prop} (hgd : o.guard = none) (s x : Operand)
    (ho : o.op = .call { callee := .builtin .append, args := #[s, x], argTypes := #[29, 3] })
    (B : Nat) (F : Nat → Nat → Int) (g n c m : Nat) (hs : a.eval s = .slice (some ⟨g, 0, none⟩) n c) (hx : a.eval x = .int .i64 m) (hown : Bks w B (some ⟨g, 0, none⟩) n c F) (hm : 0 < m) (hn : n + m ≤ 1000000) (hB : B ≤ w.heap.size)
    (h : ∀ a' c' w', Bks w' B a' (n + m) c' (thenZ n F) → Below B w w' → wpList Tryz.prog ops Q rest (a.put o.dst (.slice a' (n + m) c')) w') : wpList Tryz.prog ops Q (o :: rest) a w := by
  refine wpList_plain hgd fun K hK => ?_
  obtain ⟨a', c', w', hr, h2, h3⟩ := run_append_zeros o.type hown hm hn hB
  unfold Oper.wp execOp
  simp only [ho, resolve, invoke, builtin, Sem.run_bind, Sem.run_pure, Result.andThen_ok, List.map_toArray, List.map_cons, List.map_nil, hs, hx, hr]
  exact hK _ _ (h a' c' w' h2 ((Below.refl B w).grown h3 hB fun k hk => (hown.block k (by simpa [Value.ownBlock] using hk)).1))
theorem made_blocks (n : Nat) : (madeCells (Array.replicate 16 (Value.int .i64 0)) (n * 16)).toList = bkL (fun _ _ => 0) n := by
  apply List.ext_getElem
  · rw [bkL_length]; simp [madeCells]
  · intro k h1 h2
    have h3 : k < n * 16 := by rw [bkL_length] at h2; exact h2
    simp only [madeCells, bkL, intsL, Array.toList_map, Array.toList_range, List.getElem_map, List.getElem_range, Array.size_replicate]
    rw [getElem!_pos _ _ (by rw [Array.size_replicate]; omega), Array.getElem_replicate]
/-- 'make([]api.Block, n)'. -/
theorem wpList_make_blocks {ops : Array Oper} {rest : List Oper} {o : Oper} {a : Act} {w : World} {Q : Exit → Act → World → Prop} (hg : o.guard = none) (l c : Operand) (hop : o.op = Op.makeSlice 29 l c)
    (B n : Nat) (hl : a.eval l = .int .i64 (n : Int)) (hc : a.eval c = .int .i64 (n : Int)) (hn : n ≤ 1000000) (hB : B ≤ w.heap.size)
    (hK : ∀ w', Bks w' B (some ⟨w.heap.size, 0, none⟩) n n (fun _ _ => 0) → Below w.heap.size w w' → wpList Tryz.prog ops Q rest (a.put o.dst (.slice (some ⟨w.heap.size, 0, none⟩) n n)) w') : wpList Tryz.prog ops Q (o :: rest) a w := by
  obtain ⟨i, hi, hz, hsz, hby⟩ := info_block
  refine wpList_make_full w hg l c 29 hop B 32 i _ 16 Tryz.underlying29 hi hz hsz .i64 .i64 n n n hl hc rfl rfl (by rw [hby]; omega) (by unfold maxLen; omega) hB fun w' h1 h2 => hK w' ?_ ?_
  · rw [show (Value.agg (Array.replicate 16 (Value.int .i64 0))).cells = Array.replicate 16 (Value.int .i64 0) from rfl, made_blocks] at h1
    exact h1
  · exact ⟨h2.os, h2.tape, h2.output, h2.size, fun k hk => h2.block k hk (by simp)⟩
end Go.Proofs.YtfohinlldchdpaaGreatDoor.Row
end

section
/- Slices of blocks in regions: an index, a block or a number loaded, whether the region draws its order or not. For every package. -/
set_option maxRecDepth 100000
set_option linter.unusedVariables false
namespace Go.Proofs.YtfohinlldchdpaaGreatDoor.Row
open Go.RowKit

theorem size_block (w : World) : (sizeOf 32).run Tryz.prog w = .ok 16 w := by
  obtain ⟨i, h1, _, h2, _⟩ := info_block
  simp [sizeOf, typeInfo, h1, h2]
theorem run_bx {g n c k : Nat} (hk : k < n) (w : World) :
    (Instr.indexAt 29 (.slice (some ⟨g, 0, none⟩) n c) (.int .i64 k)).run Tryz.prog w = .ok (.pointer (some ⟨g, k * 16, none⟩)) w := by
  have h : (0 : Int) ≤ (k : Int) ∧ (k : Int) < (n : Int) := by omega
  unfold Instr.indexAt
  simp only [Sem.run_bind, asIntOf, Sem.run_pure, Result.andThen_ok, run_underlying Tryz.underlying29, if_pos h, size_block]
  simp only [Addr.add, Int.toNat_natCast, Nat.zero_add]
  split <;> simp_all
theorem run_bj {t : TypeId} {g o k m : Nat} (hu : Tryz.prog.underlying t = some (.array m 3)) (hk : k < m) (w : World) :
    (Instr.indexAt t (.pointer (some ⟨g, o, none⟩)) (.int .i64 k)).run Tryz.prog w = .ok (.pointer (some ⟨g, o + k, none⟩)) w := by
  have h : (0 : Int) ≤ (k : Int) ∧ (k : Int) < (m : Int) := by omega
  unfold Instr.indexAt
  simp only [Sem.run_bind, asIntOf, Sem.run_pure, Result.andThen_ok, Instr.sureAddr, run_underlying hu, if_pos h, sizeOf_int]
  simp only [Addr.add, Nat.mul_one, Int.toNat_natCast]
  split <;> simp_all
/-- A row loaded of a part of a block that is known by its cells. -/
theorem wpList_load_range {ops : Array Oper} {rest : List Oper} {o : Oper} {a : Act} {w : World} {Q : Exit → Act → World → Prop} (hw : Region.wanted o (yielded ops a.tmps) = true) (ty : TypeId) (x : Operand) (ho : o.op = .load ty x)
    (g l : Nat) (hx : a.eval x = .pointer (some ⟨g, l, none⟩)) {U : Array Value} (hc : w.rangeAt g l U.toList) {d : TypeDesc} (hu : Tryz.prog.underlying ty = some d) (hd : d.isRow = true) (hi : (Tryz.prog.info? ty).map (·.size) = some U.size)
    (hK : wpList Tryz.prog ops Q rest (a.put o.dst (.agg U)) w) : wpList Tryz.prog ops Q (o :: rest) a w := by
  rw [wpList, if_pos hw]
  refine .inl (wp_load_mid ty x ho g l hx U.toList d hc hu hd (by rw [Array.length_toList]; exact hi) ?_)
  rw [Array.toArray_toList]
  exact hK

section
variable {ops : Array Oper} {S : World → Prop} {a : Act} {oi : Oper}
theorem y_bx {y z : Operand} {g n c k : Nat} {x : Int} (hw : Region.wanted oi (yielded ops a.tmps) = true) (ho : oi.op = .indexAddr 29 y z) (hy : a.eval y = .slice (some ⟨g, 0, none⟩) n c) (hz : a.eval z = .int .i64 x)
    (hx : x = k) (hk : k < n) : YieldsIf Tryz.prog ops S oi (.pointer (some ⟨g, k * 16, none⟩)) a :=
  y_run hw fun w => by
    subst hx
    unfold execOp
    simp only [ho, hy, hz, run_bx hk, Sem.run_bind, Result.andThen_ok, Sem.run_pure]
theorem y_bj {t : TypeId} {y z : Operand} {g o k m : Nat} {x : Int} (hw : Region.wanted oi (yielded ops a.tmps) = true) (ho : oi.op = .indexAddr t y z) (hu : Tryz.prog.underlying t = some (.array m 3)) (hy : a.eval y = .pointer (some ⟨g, o, none⟩)) (hz : a.eval z = .int .i64 x)
    (hx : x = k) (hk : k < m) : YieldsIf Tryz.prog ops S oi (.pointer (some ⟨g, o + k, none⟩)) a :=
  y_run hw fun w => by
    subst hx
    unfold execOp
    simp only [ho, hy, hz, run_bj hu hk, Sem.run_bind, Result.andThen_ok, Sem.run_pure]
theorem y_load_range {ty : TypeId} {x : Operand} (hw : Region.wanted oi (yielded ops a.tmps) = true) (ho : oi.op = .load ty x) {g l : Nat} (hx : a.eval x = .pointer (some ⟨g, l, none⟩)) {U : Array Value} (hc : ∀ w, S w → w.rangeAt g l U.toList)
    {d : TypeDesc} (hu : Tryz.prog.underlying ty = some d) (hd : d.isRow = true) (hi : (Tryz.prog.info? ty).map (·.size) = some U.size) : YieldsIf Tryz.prog ops S oi (.agg U) a := by
  have := yieldsIf_load_mid (P := Tryz.prog) (S := S) hw ty x ho g l hx U.toList d hc hu hd (by rw [Array.length_toList]; exact hi)
  rwa [Array.toArray_toList] at this
theorem y_geq {t t' : TypeId} {y z : Operand} {m n : Int} {b : Bool} (hw : Region.wanted oi (yielded ops a.tmps) = true) (ho : oi.op = .binOp .geq t y z t') (hy : a.eval y = .int .i64 m) (hz : a.eval z = .int .i64 n) (hb : decide (m ≥ n) = b) : YieldsIf Tryz.prog ops S oi (.bool b) a :=
  y_run hw fun w => by
    unfold execOp
    simp only [ho, hy, hz]
    simp [go_sem, ← hb]
end
end Go.Proofs.YtfohinlldchdpaaGreatDoor.Row
end
