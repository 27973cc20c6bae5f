/- Rows of whole numbers in memory: what stands at a block, and what stays there. -/
import Derived.Test.YtabenllglldkkaaAngB
import Derived.Deep.WholeRow
import Derived.Deep.QuietTactic
import Derived.BigQuiet
namespace Go.Proofs.Ytabenllglldkkaa.Md
open Go.RowKit Go.Proofs.Ytabenllglldkkaa.Ang

/-- At block b stands the row A. -/
def At (w : World) (b : Nat) (A : Array Value) (t : TypeId) : Prop := w.heap[b]? = some (.cells A t (0, 0))

theorem At.lt {w : World} {b : Nat} {A : Array Value} {t : TypeId} (h : At w b A t) : b < w.heap.size := by
  unfold At at h
  exact (Array.getElem?_eq_some_iff.1 h).1
theorem At.new (w : World) (A : Array Value) (t : TypeId) : At (w.alloc (.cells A t)) w.heap.size A t := heap_alloc_new _ _
theorem At.alloc {w : World} {b : Nat} {A : Array Value} {t : TypeId} (h : At w b A t) (o : Obj) : At (w.alloc o) b A t := (heap_alloc_old _ _ h.lt).trans h
theorem At.below {B : Nat} {w w' : World} {b : Nat} {A : Array Value} {t : TypeId} (h : At w b A t) (hb : Below B w w') (hl : b < B) : At w' b A t := (hb.block b hl).trans h
theorem At.setRow {w : World} {b : Nat} {A C : Array Value} {t : TypeId} (h : At w b A t) : At (w.setRow b C) b C t := setRow_heap _ _ _ _ _ _ h
theorem At.setRow_other {w : World} {b g : Nat} {A C : Array Value} {t : TypeId} (h : At w b A t) (hg : b ≠ g) : At (w.setRow g C) b A t := (Go.setRow_other _ _ _ _ hg).trans h
theorem At.setCell {w : World} {b i : Nat} {A : Array Value} {t : TypeId} {v : Value} (h : At w b A t) : At (w.setCell ⟨b, i, none⟩ v) b (A.setIfInBounds i v) t := heap_setCell_same _ _ _ _ _ _ h
theorem At.setCell_other {w : World} {b : Nat} {A : Array Value} {t : TypeId} {a : Addr} {v : Value} (h : At w b A t) (hg : b ≠ a.block) : At (w.setCell a v) b A t := (heap_setCell_other _ _ _ _ hg).trans h
theorem At.drewN {w : World} {b : Nat} {A : Array Value} {t : TypeId} (h : At w b A t) (n : Nat) : At (w.drewN n) b A t := h
theorem At.frozen {w : World} {b : Nat} {A : Array Value} {t : TypeId} (h : At w b A t) (j : Nat) : w.frozen? ⟨b, j, none⟩ = false := frozen_of_row _ _ _ _ _ h

/-- A is a row of m numbers: f's. -/
def IsRow (m : Nat) (f : Nat → Int) (T : Array Value) : Prop := T.size = m ∧ T.all (·.oneCell') = true ∧ ∀ k, k < m → T[k]? = some (.int .i64 (f k))

theorem isRow (m : Nat) (f : Nat → Int) : IsRow m f (rowL m f m) := ⟨rowL_size _ _ _, rowL_one _ _ _, fun k hk => by rw [rowL_get _ _ _ _ hk, if_pos hk]⟩
theorem IsRow.ext {m : Nat} {f g : Nat → Int} {T : Array Value} (h : IsRow m f T) (e : ∀ k, k < m → f k = g k) : IsRow m g T := ⟨h.1, h.2.1, fun k hk => by rw [← e k hk]; exact h.2.2 k hk⟩
theorem IsRow.eq {m : Nat} {f g : Nat → Int} {T U : Array Value} (h : IsRow m f T) (h' : IsRow m g U) (e : ∀ k, k < m → f k = g k) : T = U := by
  apply Array.ext_getElem?
  intro i
  by_cases hi : i < m
  · rw [h.2.2 i hi, h'.2.2 i hi, e i hi]
  · rw [Array.getElem?_eq_none (by rw [h.1]; omega), Array.getElem?_eq_none (by rw [h'.1]; omega)]
theorem IsRow.at {m : Nat} {f : Nat → Int} {T : Array Value} (h : IsRow m f T) : T = rowL m f m := h.eq (isRow m f) fun _ _ => rfl
theorem IsRow.cell {w : World} {g m : Nat} {f : Nat → Int} {T : Array Value} {t : TypeId} (hT : IsRow m f T) (h : At w g T t) (k : Nat) (hk : k < m) : w.cell? ⟨g, k, none⟩ = some (.int .i64 (f k)) := by
  rw [cell_of_row _ _ k _ _ _ h, hT.2.2 k hk]
theorem rowL_cell {w : World} {g m n : Nat} {f : Nat → Int} {t : TypeId} (h : At w g (rowL m f n) t) (k : Nat) (hk : k < m) : w.cell? ⟨g, k, none⟩ = some (.int .i64 (if k < n then f k else 0)) := by
  rw [cell_of_row _ _ k _ _ _ h, rowL_get _ _ _ _ hk]
theorem At.put {w : World} {b m k : Nat} {f : Nat → Int} {t : TypeId} (h : At w b (rowL m f k) t) (hk : k < m) : At (w.setCell ⟨b, k, none⟩ (.int .i64 (f k))) b (rowL m f (k + 1)) t := by
  rw [← rowL_next m f k hk]; exact h.setCell

theorem below_drewN {B : Nat} {w0 w : World} (h : Below B w0 w) (k : Nat) : Below B w0 (w.drewN k) := ⟨h.os, h.tape, h.output, h.size, h.block⟩
theorem below_setRow' {B b : Nat} {w w' : World} (h : Below B w w') (hb : B ≤ b) (cs : Array Value) : Below B w (w'.setRow b cs) :=
  ⟨h.os, h.tape, h.output, by rw [size_setRow]; exact h.size, fun k hk => (Go.setRow_other w' b k cs (by omega)).trans (h.block k hk)⟩
theorem below_trans {B : Nat} {w w1 w2 : World} (h : Below B w w1) (h2 : Below w1.heap.size w1 w2) (hB : B ≤ w1.heap.size) : Below B w w2 :=
  ⟨h2.os.trans h.os, h2.tape.trans h.tape, h2.output.trans h.output, Nat.le_trans h.size h2.size, fun k hk => (h2.block k (by omega)).trans (h.block k hk)⟩

/-- The zero value of a row's type, and its size, of one closed fact. -/
theorem zero_row {t : TypeId} {m : Nat} (h : (Try.prog.info? t).map (fun i => (i.zero, i.size)) = some (some (.agg (Array.replicate m (.int .i64 0))), m)) :
    ∃ Z, IsRow m (fun _ => 0) Z ∧ (∀ f, rowL m f 0 = Z) ∧ (∀ w, (zeroValue t).run Try.prog w = .ok (.agg Z) w) ∧ ∀ A : Array Value, A.size = m → (Try.prog.info? t).map (·.size) = some A.size := by
  obtain ⟨h1, h2⟩ := zero_of_info h
  refine ⟨_, ?_, row_of0 m, h1, fun A hA => by rw [h2, hA]⟩
  rw [← row_of0 m (fun _ => 0)]
  refine ⟨rowL_size _ _ _, rowL_one _ _ _, fun k hk => ?_⟩
  rw [rowL_get _ _ _ _ hk]
  by_cases e : k < 0
  · omega
  · rw [if_neg e]

theorem zero_block : ∃ Z, IsRow 16 (fun _ => 0) Z ∧ (∀ f, rowL 16 f 0 = Z) ∧ (∀ w, (zeroValue 24).run Try.prog w = .ok (.agg Z) w) ∧ ∀ A : Array Value, A.size = 16 → (Try.prog.info? 24).map (·.size) = some A.size := zero_row (by kernel_rfl)
theorem zero_32 : ∃ Z, IsRow 32 (fun _ => 0) Z ∧ (∀ f, rowL 32 f 0 = Z) ∧ (∀ w, (zeroValue 35).run Try.prog w = .ok (.agg Z) w) ∧ ∀ A : Array Value, A.size = 32 → (Try.prog.info? 35).map (·.size) = some A.size := zero_row (by kernel_rfl)
theorem zero_16 : ∃ Z, IsRow 16 (fun _ => 0) Z ∧ (∀ f, rowL 16 f 0 = Z) ∧ (∀ w, (zeroValue 22).run Try.prog w = .ok (.agg Z) w) ∧ ∀ A : Array Value, A.size = 16 → (Try.prog.info? 22).map (·.size) = some A.size := zero_row (by kernel_rfl)
theorem zero_128 : ∃ Z, IsRow 128 (fun _ => 0) Z ∧ (∀ f, rowL 128 f 0 = Z) ∧ (∀ w, (zeroValue 40).run Try.prog w = .ok (.agg Z) w) ∧ ∀ A : Array Value, A.size = 128 → (Try.prog.info? 40).map (·.size) = some A.size := zero_row (by kernel_rfl)
end Go.Proofs.Ytabenllglldkkaa.Md
