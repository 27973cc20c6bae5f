/- Slices of numbers: rows that a function makes, slices that came in, copies into a row. -/
import Derived.Test.YtcahdjkmegnbfaaSl0
import Derived.Laws.CopyOwn
import Derived.Deep.OwnRows
set_option maxRecDepth 100000
namespace Go.Proofs.Ytcahdjkmegnbfaa.Row
open Go.ChangeShapes Go.WideShapes Go.ChangeAt Go.RowKit

theorem made_rowL (n : Nat) (f : Nat → Int) : madeCells #[.int .i64 0] n = rowL n f 0 := by
  rw [row_of0]
  apply Array.ext_getElem?
  intro i
  unfold madeCells
  by_cases hi : i < n
  · simp [hi, Nat.mod_one]
  · simp [hi]

theorem info_int : (Try.prog.info? 3).map (fun i => (i.zero, i.size, i.bytes)) = some (some (.int .i64 0), 1, 8) := by kernel_rfl

/-- 'make([]int, n)'. -/
theorem wpList_make_rowL (f : Nat → Int) {ops : Array Oper} {rest : List Oper} {o : Oper} {a : Act} {w : World} {Q : Exit → Act → World → Prop} (hg : o.guard = none) (l c : Operand) (hop : o.op = Op.makeSlice 31 l c)
    (n : Nat) (kl kc : IntKind) (hl : a.eval l = .int kl (n : Int)) (hc : a.eval c = .int kc (n : Int)) (hn : n ≤ 35184372088832)
    (hK : wpList Try.prog ops Q rest (a.put o.dst (.slice (some ⟨w.heap.size, 0, none⟩) n n)) (w.alloc (.cells (rowL n f 0) 3))) :
    wpList Try.prog ops Q (o :: rest) a w := by
  obtain ⟨i, hi, hzz⟩ := Option.map_eq_some_iff.1 info_int
  simp only [Prod.mk.injEq] at hzz
  obtain ⟨hz, hs, hb⟩ := hzz
  refine wpList_make_row w hg l c 31 hop 3 i (.int .i64 0) Try.underlying31 hi hz hs rfl kl kc n hl hc (by rw [hb]; omega) (by omega) ?_
  rw [made_rowL n f]
  exact hK

theorem run_make_rowL (f : Nat → Int) (n : Nat) (kl kc : IntKind) (hn : n ≤ 35184372088832) (w : World) :
    (Instr.makeSlice 31 (.int kl (n : Int)) (.int kc (n : Int))).run Try.prog w = .ok (.slice (some ⟨w.heap.size, 0, none⟩) n n) (w.alloc (.cells (rowL n f 0) 3)) := by
  rw [← made_rowL n f]
  exact run_make_row' 31 3 (.int .i64 0) 8 Try.underlying31 info_int rfl kl kc n (by omega) (by omega) w

/-- What a row holds when n of g's numbers were laid over its numbers from 'off' on. -/
def over (f g : Nat → Int) (off n : Nat) (i : Nat) : Int := if off ≤ i ∧ i < off + n then g (i - off) else f i

theorem IsRow.over {m off n : Nat} {f g : Nat → Int} {T : Array Value} (hT : IsRow m f T) (hm : off + n ≤ m) :
    IsRow m (over f g off n) (T.toList.take off ++ ((List.range n).map (fun i => Value.int .i64 (g i)) ++ T.toList.drop (off + n))).toArray := by
  obtain ⟨h1, h2, h3⟩ := hT
  have hl : T.toList.length = m := by simpa using h1
  have key : ∀ k, k < m → (T.toList.take off ++ ((List.range n).map (fun i => Value.int .i64 (g i)) ++ T.toList.drop (off + n)))[k]? = some (.int .i64 (Row.over f g off n k)) := fun k hk => by
    unfold Row.over
    have h3' := h3 k hk
    rw [← Array.getElem?_toList] at h3'
    by_cases c1 : k < off
    · rw [List.getElem?_append_left (by rw [List.length_take]; omega), List.getElem?_take_of_lt c1, if_neg (by omega), h3']
    · rw [List.getElem?_append_right (by rw [List.length_take]; omega), List.length_take, show min off T.toList.length = off by omega]
      by_cases c2 : k < off + n
      · rw [List.getElem?_append_left (by rw [List.length_map, List.length_range]; omega), if_pos (by omega)]
        simp [show k - off < n by omega]
      · rw [List.getElem?_append_right (by rw [List.length_map, List.length_range]; omega), List.length_map, List.length_range, if_neg (by omega), List.getElem?_drop, show off + n + (k - off - n) = k by omega, h3']
  have hs : (T.toList.take off ++ ((List.range n).map (fun i => Value.int .i64 (g i)) ++ T.toList.drop (off + n))).length = m := by
    simp only [List.length_append, List.length_take, List.length_map, List.length_range, List.length_drop]; omega
  refine ⟨by simpa using hs, ?_, fun k hk => by simpa using key k hk⟩
  rw [Array.all_eq_true]
  intro i hi
  have hi' : i < m := by simpa [hs] using hi
  have := key i hi'
  rw [List.getElem?_eq_getElem (by rw [hs]; exact hi')] at this
  injection this with this
  simp only [List.getElem_toArray, this]
  rfl

/-- 'copy(dst, src)' into a row that is known whole: the row behind it, under any name. -/
theorem wpList_copy_over {ops : Array Oper} {rest : List Oper} {o : Oper} {a : Act} {w : World} {Q : Exit → Act → World → Prop} (hgd : o.guard = none) (d s : Operand)
    (ho : o.op = .call { callee := .builtin .copy, args := #[d, s], argTypes := #[31, 31] })
    (g off n dCap sCap : Nat) (sp : Option Addr) (hd : a.eval d = .slice (some ⟨g, off, none⟩) n dCap) (hs : a.eval s = .slice sp n sCap) (m : Nat) (f h : Nat → Int) (T : Array Value) (t : TypeId)
    (hT : IsRow m f T) (hg : At w g T t) (hm : off + n ≤ m) (hn0 : 0 < n) (hsrc : Sl .i64 w sp n sCap h)
    (hK : ∀ U, IsRow m (over f h off n) U → wpList Try.prog ops Q rest (a.put o.dst (.int .i64 n)) (w.setRow g U)) : wpList Try.prog ops Q (o :: rest) a w := by
  obtain ⟨b, q, rfl, hc⟩ := hsrc.2.2 hn0
  have hsz : (Try.prog.info? 3).map (·.size) = some 1 := by kernel_rfl
  have hl : ((List.range n).map (fun i => Value.int .i64 (h i))).length = n := by simp
  refine wpList_copy_own hgd d s 31 31 ho 3 Try.underlying31 hsz g off n dCap ⟨b, q, none⟩ n sCap hd hs T t hg ((List.range n).map fun i => Value.int .i64 (h i)) (by rw [hl]; exact (Nat.min_self n).symm) ?_ (by rw [hl, hT.1]; exact hm) ?_ ?_
  · intro j v hj
    have hjn : j < n := by
      by_cases e : j < n
      · exact e
      · rw [List.getElem?_eq_none (by rw [hl]; omega)] at hj; cases hj
    have e : v = .int .i64 (h j) := by simpa [hjn] using hj.symm
    rw [e, ← hc j hjn]
    unfold Addr.add
    by_cases e0 : j = 0
    · subst e0; simp
    · simp [e0]
  · intro v hv
    simp only [List.mem_map, List.mem_range] at hv
    obtain ⟨i, _, rfl⟩ := hv
    rfl
  · rw [hl]
    have := hK _ (hT.over (g := h) hm)
    exact this
end Go.Proofs.Ytcahdjkmegnbfaa.Row
