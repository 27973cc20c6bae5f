/- A record whose pieces aren't marked last, and one piece more; a row of bytes that is filled. -/
import Derived.Test.YtmaelcjmojhlpaaFgJ2
import Derived.Test.YtmaelcjmojhlpaaPaBl
set_option maxRecDepth 100000
set_option linter.unusedVariables false
set_option linter.unusedSimpArgs false
namespace Go.Proofs.Ytmaelcjmojhlpaa.Fg
open Go.RowKit Go.Proofs.Ytmaelcjmojhlpaa.Row Go.Proofs.Ytmaelcjmojhlpaa.Pa

/-- A piece that isn't marked last. -/
def pl (e : Nat) (r : List UInt8) (i : Nat) : Pv := ⟨e, 0, 2, decide (i = 0), false, (r.drop (49 * i)).take 49⟩
/-- A joiner behind i of them. -/
def jl (e : Nat) (r : List UInt8) (i : Nat) : Jn := if i = 0 then none else some (e, r.take (49 * i))
theorem pl_right {e : Nat} {r : List UInt8} {i : Nat} (h : i < np r.length) : (pl e r i).right := by
  have := pc_len (e := e) h
  exact ⟨this.1, this.2, .inl rfl⟩
theorem pl_ok {e : Nat} {r : List UInt8} {i : Nat} (h : e < 4294967296) : (pl e r i).Ok := ⟨h, by show 0 < 4294967296; omega⟩
theorem pcs_pl (e : Nat) (r : List UInt8) (i : Nat) : (pcs e r i).setIfInBounds 4 (.bool false) = pgV (pl e r i) := rfl
theorem jl_next {e : Nat} {r : List UInt8} {i : Nat} (hn : r.length ≤ 4096) (h : i < np r.length) : jt (jl e r i) (pl e r i) = jl e r (i + 1) ∧ told (jl e r i) (pl e r i) = [] ∧ ended (jl e r i) (pl e r i) = false ∧ terr (jl e r i) (pl e r i) = 0 := by
  have hr := pl_right (e := e) h
  have hk : (pl e r i).k = 2 := rfl
  have hl : (pl e r i).l = false := rfl
  have key : refused (jl e r i) (pl e r i) = false ∧ joined (jl e r i) (pl e r i) = r.take (49 * (i + 1)) := by
    by_cases h0 : i = 0
    · subst h0
      exact ⟨rfl, by show (r.drop (49 * 0)).take 49 = _; simp⟩
    · have e1 : jl e r i = some (e, r.take (49 * i)) := by unfold jl; rw [if_neg h0]
      rw [e1]
      refine ⟨?_, take_more r i⟩
      show (decide (i = 0) || decide (e ≠ e) || decide (MaxRec < (r.take (49 * i)).length + ((r.drop (49 * i)).take 49).length)) = false
      have hl : (r.take (49 * i)).length + ((r.drop (49 * i)).take 49).length ≤ 4096 := by
        rw [List.length_take, List.length_take, List.length_drop]
        omega
      rw [decide_eq_false h0, decide_eq_false (by simp), decide_eq_false (by unfold MaxRec; omega)]
      rfl
  refine ⟨?_, ?_, ?_, ?_⟩
  · unfold jt
    rw [if_neg (by rw [hk]; simp [hr]), key.1, key.2, hl]
    simp only [Bool.false_eq_true, if_false]
    unfold jl
    rw [if_neg (by omega)]
    rfl
  · unfold told; rw [if_pos (by simp [hl])]
  · unfold ended; rw [hl]; simp
  · unfold terr; rw [if_neg (by simp [hr]), key.1, hk]; simp
/-- One piece more. -/
def px (e : Nat) : Pv := ⟨e, 0, 2, false, false, [120]⟩
theorem px_right (e : Nat) : (px e).right := by unfold px Pv.right; simp
theorem px_bad {e : Nat} {r : List UInt8} (hr : r.length = 4096) : (px e).k ≠ 1 ∧ refused (jl e r 84) (px e) = true := by
  refine ⟨by show (2 : Int) ≠ 1; omega, ?_⟩
  show (false || decide (e ≠ e) || decide (MaxRec < (r.take (49 * 84)).length + 1)) = true
  rw [List.length_take, hr, decide_eq_true (show MaxRec < min (49 * 84) 4096 + 1 by unfold MaxRec; omega)]
  simp
theorem built_x (e : Nat) : Try.prog.built 36 [(0, .int .u32 e), (2, .int .i64 2), (5, .string ⟨#[120]⟩)] = some (pgV (px e)) := by
  have : Try.prog.built 36 [(0, .int .u32 (e : Int)), (2, .int .i64 2), (5, .string ⟨#[120]⟩)] = some #[.int .u32 (e : Int), .int .u32 0, .int .i64 2, .bool false, .bool false, .string ⟨#[120]⟩] := by kernel_rfl
  exact this
/-- 4096 bytes of which the first k are f. -/
def fl (f : UInt8) (k : Nat) : List UInt8 := List.replicate k f ++ List.replicate (4096 - k) 0
theorem fl_len {f : UInt8} {k : Nat} (h : k ≤ 4096) : (fl f k).length = 4096 := by unfold fl; simp; omega
theorem fl_put {f : UInt8} {k : Nat} (h : k < 4096) : (fl f k).set k f = fl f (k + 1) := by
  unfold fl
  rw [List.set_append_right _ _ (by simp), List.length_replicate, Nat.sub_self, show 4096 - k = (4096 - (k + 1)) + 1 from by omega, List.replicate_succ, List.set_cons_zero, List.replicate_succ', List.append_assoc]
  rfl
theorem fl_all (f : UInt8) : fl f 4096 = List.replicate 4096 f := by unfold fl; rw [Nat.sub_self, List.replicate_zero, List.append_nil]
theorem made_fl (f : UInt8) : madeCells #[.int .u8 0] 4096 = bl (fl f 0) := by
  apply Array.ext_getElem?
  intro i
  rw [bl_get]
  by_cases hi : i < 4096
  · have e : (fl f 0)[i]? = some 0 := by
      unfold fl
      rw [List.replicate_zero, List.nil_append, List.getElem?_replicate, if_pos (by omega)]
    rw [e]
    simp [madeCells, hi, Nat.mod_one]
  · rw [List.getElem?_eq_none (by rw [fl_len (by omega)]; omega)]
    simp [madeCells, hi]
theorem make_fl (f : UInt8) (w : World) : (Instr.makeSlice 30 (.int .i64 4096) (.int .i64 4096)).run Try.prog w = .ok (.slice (some ⟨w.heap.size, 0, none⟩) 4096 4096) (w.alloc (.cells (bl (fl f 0)) 5)) := by
  rw [← made_fl f]
  exact run_make_row' 30 5 (.int .u8 0) 1 Try.underlying30 (by kernel_rfl) rfl .i64 .i64 4096 (by omega) (by omega) w
theorem elt_u8 : ElT 30 5 1 1 #[.int .u8 0] :=
  ⟨Try.underlying30, ⟨_, _, rfl, rfl, by kernel_rfl, by kernel_rfl, by kernel_rfl⟩, rfl, by omega, by omega⟩
section
variable {JI : World → Nat → (Nat → Prop) → Jn → Prop} {Z : Array Value} {w w1 w2 : World} {e g h N c b : Nat} {r : List UInt8} {j : Jn}
/-- The bytes, the pieces, and a joiner. -/
def LgI (JI : World → Nat → (Nat → Prop) → Jn → Prop) (w : World) (e : Nat) (r : List UInt8) (g h N c b : Nat) (j : Jn) (w' : World) : Prop :=
  JkI JI w (fun q => q = g ∨ q = h) b j w' ∧ Els w' w.heap.size 36 6 (some ⟨g, 0, none⟩) N c (pcs e r) ∧ At w' h (bl r) 5
variable (HJ : Joins JI Z)
include HJ
theorem LgI.next (hI : LgI JI w e r g h N c b j w1) (hb : Below w1.heap.size w1 w2) : LgI JI w e r g h N c b j w2 := ⟨JkI.next HJ hI.1 hb, hI.2.1.below hb, hI.2.2.below hb hI.2.2.lt⟩
theorem take_lg (hI : LgI JI w e r g h N c b j w1) (p : Pv) (ho : p.Ok) (hd : p.d.length ≤ maxLen) (hk : (Lit.int .i64 p.k).wf = true) :
    Calls Try.prog 11 #[.pointer (some ⟨b, 0, none⟩), .agg (pgV p)] w1 fun en w' => en = .returned (.tuple #[.string (tx (told j p)), .bool (ended j p), .int .i64 (terr j p : Nat)]) ∧ LgI JI w e r g h N c b (jt j p) w' := by
  refine (take_jk HJ hI.1 p ho hd hk).mono fun en w' ⟨e1, h1, h2⟩ => ⟨e1, h1, hI.2.1.keep fun q hq => ?_, (h2 h (.inr rfl)).trans hI.2.2⟩
  obtain rfl : g = q := by injection hq
  exact h2 _ (.inl rfl)
end
end Go.Proofs.Ytmaelcjmojhlpaa.Fg
