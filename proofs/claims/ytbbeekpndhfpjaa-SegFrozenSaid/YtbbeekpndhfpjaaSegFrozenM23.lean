/- Texts of the walk, one behind the other. -/
import Derived.Test.YtbbeekpndhfpjaaSegFrozenM22
import Derived.Test.YtbbeekpndhfpjaaRowT
import Derived.Test.YtbbeekpndhfpjaaSegFrozenM7

section
/- What operations of a region yield: numbers of any kind compared, parts of arrays, texts of them, bytes. -/
set_option maxRecDepth 100000
set_option linter.unusedVariables false
set_option linter.unusedSimpArgs false
namespace Go.Proofs.Ytbbeekpndhfpjaa.Pa
open Go.RowKit Go.Proofs.Ytbbeekpndhfpjaa.Row Go.Proofs.Ytbbeekpndhfpjaa.Crc

section
variable {ops : Array Oper} {S : World → Prop} {a : Act} {oi : Oper} {t t' : TypeId} {y z : Operand} {k : IntKind} {m n : Int} {b : Bool}
theorem y_lssK (hw : Region.wanted oi (yielded ops a.tmps) = true) (ho : oi.op = .binOp .lss t y z t') (hy : a.eval y = .int k m) (hz : a.eval z = .int k n) (hb : decide (m < n) = b) : YieldsIf Try.prog ops S oi (.bool b) a :=
  y_run hw fun w => by
    unfold execOp
    simp only [ho, hy, hz]
    simp [go_sem, hb]
theorem y_gtrK (hw : Region.wanted oi (yielded ops a.tmps) = true) (ho : oi.op = .binOp .gtr t y z t') (hy : a.eval y = .int k m) (hz : a.eval z = .int k n) (hb : decide (n < m) = b) : YieldsIf Try.prog ops S oi (.bool b) a :=
  y_run hw fun w => by
    unfold execOp
    simp only [ho, hy, hz]
    simp [go_sem, hb]
theorem y_geqK (hw : Region.wanted oi (yielded ops a.tmps) = true) (ho : oi.op = .binOp .geq t y z t') (hy : a.eval y = .int k m) (hz : a.eval z = .int k n) (hb : decide (n ≤ m) = b) : YieldsIf Try.prog ops S oi (.bool b) a :=
  y_run hw fun w => by
    unfold execOp
    simp only [ho, hy, hz]
    simp [go_sem, hb]
theorem y_eqlK (hw : Region.wanted oi (yielded ops a.tmps) = true) (ho : oi.op = .binOp .eql t y z t') (hu : Try.prog.underlying t = some (.int k)) (hy : a.eval y = .int k m) (hz : a.eval z = .int k n) (hb : (m == n) = b) : YieldsIf Try.prog ops S oi (.bool b) a :=
  y_run hw fun w => by
    unfold execOp
    simp only [ho, hy, hz]
    simp [go_sem, run_underlying hu, hb]
theorem y_neqK (hw : Region.wanted oi (yielded ops a.tmps) = true) (ho : oi.op = .binOp .neq t y z t') (hu : Try.prog.underlying t = some (.int k)) (hy : a.eval y = .int k m) (hz : a.eval z = .int k n) (hb : (m != n) = b) : YieldsIf Try.prog ops S oi (.bool b) a :=
  y_run hw fun w => by
    unfold execOp
    simp only [ho, hy, hz]
    simp [go_sem, run_underlying hu, hb]
theorem y_eqlS {l r : ByteArray} (hw : Region.wanted oi (yielded ops a.tmps) = true) (ho : oi.op = .binOp .eql t y z t') (hu : Try.prog.underlying t = some .string) (hy : a.eval y = .string l) (hz : a.eval z = .string r) (hb : (l.toList == r.toList) = b) : YieldsIf Try.prog ops S oi (.bool b) a :=
  y_run hw fun w => by
    unfold execOp
    simp only [ho, hy, hz]
    simp [go_sem, run_underlying hu, hb]
theorem y_eqlB {l r : Bool} (hw : Region.wanted oi (yielded ops a.tmps) = true) (ho : oi.op = .binOp .eql 4 y z t') (hy : a.eval y = .bool l) (hz : a.eval z = .bool r) (hb : (l == r) = b) : YieldsIf Try.prog ops S oi (.bool b) a :=
  y_run hw fun w => by
    subst hb
    unfold execOp
    simp only [ho, hy, hz]
    cases l <;> cases r <;> simp [go_sem]
theorem y_convV {v u : Value} (hw : Region.wanted oi (yielded ops a.tmps) = true) (ho : oi.op = .convert t t' y) (hy : a.eval y = v) (hr : ∀ w, S w → (convert t t' v).run Try.prog w = .ok u w) : YieldsIf Try.prog ops S oi u a :=
  .inl ⟨hw, fun w hw' => by
    unfold execOp
    simp only [ho, hy, hr w hw', Sem.run_bind, Sem.run_pure, Result.andThen_ok]⟩
/-- Part of a row of bytes as a text. -/
theorem y_text {g p n c : Nat} {l : List UInt8} {u : TypeId} (hw : Region.wanted oi (yielded ops a.tmps) = true) (ho : oi.op = .convert 52 9 y) (hy : a.eval y = .slice (some ⟨g, p, none⟩) n c) (hA : ∀ w, S w → At w g (bl l) u) (h : p + n ≤ l.length) :
    YieldsIf Try.prog ops S oi (.string ⟨((l.drop p).take n).toArray⟩) a :=
  y_convV hw ho hy fun w hw' => conv_bl (hA w hw') p n c h
/-- A number of a row of bytes. -/
theorem y_byte {g i : Nat} {l : List UInt8} {u : TypeId} (hw : Region.wanted oi (yielded ops a.tmps) = true) (ho : oi.op = .load 5 y) (hy : a.eval y = .pointer (some ⟨g, i, none⟩)) (hA : ∀ w, S w → At w g (bl l) u) (h : i < l.length) :
    YieldsIf Try.prog ops S oi (.int .u8 (B l i)) a :=
  y_cell1 hw ho hy Try.underlying5 rfl fun w hw' => by rw [cell_of_row _ _ _ _ _ _ (hA w hw'), bl_at l i h]
theorem run_cut_l {e : TypeId} {N : Nat} (hu : Try.prog.underlying t = some (.array N e)) (hs : (Try.prog.info? e).map (·.size) = some 1) {g k : Nat} (hk : k < N) (w : World) :
    (Instr.sliceAt t (.pointer (some ⟨g, 0, none⟩)) (some (.int .i64 k)) none none).run Try.prog w = .ok (.slice (some ⟨g, k, none⟩) (N - k) (N - k)) w := by
  have he : Try.prog.elem t = e := by unfold Program.elem; rw [hu]
  have hl : Try.prog.arrayLen t = N := by unfold Program.arrayLen; rw [hu]
  have hu' : Try.prog.underlying t = some (.array (Try.prog.arrayLen t) (Try.prog.elem t)) := by rw [he, hl]; exact hu
  rw [run_sliceAt_array_l w t ⟨g, 0, none⟩ hu' .i64 k (by omega) (by rw [hl]; omega), he, size_one hs, hl, Result.andThen_ok]
  unfold slicedAt
  rw [Int.toNat_natCast, if_neg (by omega)]
  unfold Addr.add
  simp
  omega
theorem run_cut_h {e : TypeId} {N : Nat} (hu : Try.prog.underlying t = some (.array N e)) (hs : (Try.prog.info? e).map (·.size) = some 1) {g k : Nat} (hk : k < N) (w : World) :
    (Instr.sliceAt t (.pointer (some ⟨g, 0, none⟩)) none (some (.int .i64 k)) none).run Try.prog w = .ok (.slice (some ⟨g, 0, none⟩) k N) w := by
  have he : Try.prog.elem t = e := by unfold Program.elem; rw [hu]
  have hl : Try.prog.arrayLen t = N := by unfold Program.arrayLen; rw [hu]
  have hu' : Try.prog.underlying t = some (.array (Try.prog.arrayLen t) (Try.prog.elem t)) := by rw [he, hl]; exact hu
  rw [run_sliceAt_array_h w t ⟨g, 0, none⟩ hu' .i64 k (by omega) (by rw [hl]; omega), he, size_one hs, hl, Result.andThen_ok]
  unfold slicedAt
  rw [Int.toNat_natCast, if_neg (by omega)]
  unfold Addr.add
  simp
theorem run_cut_lh {e : TypeId} {N : Nat} (hu : Try.prog.underlying t = some (.array N e)) (hs : (Try.prog.info? e).map (·.size) = some 1) {g k h : Nat} (hk : k < N) (hh : k ≤ h) (hN : h ≤ N) (w : World) :
    (Instr.sliceAt t (.pointer (some ⟨g, 0, none⟩)) (some (.int .i64 k)) (some (.int .i64 h)) none).run Try.prog w = .ok (.slice (some ⟨g, k, none⟩) (h - k) (N - k)) w := by
  have he : Try.prog.elem t = e := by unfold Program.elem; rw [hu]
  have hl : Try.prog.arrayLen t = N := by unfold Program.arrayLen; rw [hu]
  have hu' : Try.prog.underlying t = some (.array (Try.prog.arrayLen t) (Try.prog.elem t)) := by rw [he, hl]; exact hu
  rw [run_sliceAt_array_lh w t ⟨g, 0, none⟩ hu' .i64 .i64 k h (by omega) (by omega) (by rw [hl]; omega), he, size_one hs, hl, Result.andThen_ok]
  unfold slicedAt
  rw [Int.toNat_natCast, Int.toNat_natCast, if_neg (by omega)]
  unfold Addr.add
  simp
  omega
/-- 'b[k:]'. -/
theorem y_cutl {e : TypeId} {N g j : Nat} {x : Int} {lo : Operand} (hw : Region.wanted oi (yielded ops a.tmps) = true) (ho : oi.op = .slice t y (some lo) none none) (hy : a.eval y = .pointer (some ⟨g, 0, none⟩)) (hl : a.eval lo = .int .i64 x)
    (hu : Try.prog.underlying t = some (.array N e)) (hs : (Try.prog.info? e).map (·.size) = some 1) (hx : x = j) (hj : j < N) : YieldsIf Try.prog ops S oi (.slice (some ⟨g, j, none⟩) (N - j) (N - j)) a :=
  y_run hw fun w => by
    subst hx
    unfold execOp
    simp only [ho, hy, Option.map_some, Option.map_none, hl, run_cut_l hu hs hj, Sem.run_bind, Sem.run_pure, Result.andThen_ok]
/-- 'b[:k]'. -/
theorem y_cuth {e : TypeId} {N g j : Nat} {x : Int} {hi : Operand} (hw : Region.wanted oi (yielded ops a.tmps) = true) (ho : oi.op = .slice t y none (some hi) none) (hy : a.eval y = .pointer (some ⟨g, 0, none⟩)) (hl : a.eval hi = .int .i64 x)
    (hu : Try.prog.underlying t = some (.array N e)) (hs : (Try.prog.info? e).map (·.size) = some 1) (hx : x = j) (hj : j < N) : YieldsIf Try.prog ops S oi (.slice (some ⟨g, 0, none⟩) j N) a :=
  y_run hw fun w => by
    subst hx
    unfold execOp
    simp only [ho, hy, Option.map_some, Option.map_none, hl, run_cut_h hu hs hj, Sem.run_bind, Sem.run_pure, Result.andThen_ok]
/-- 'b[k:h]'. -/
theorem y_cutlh {e : TypeId} {N g j i : Nat} {x x' : Int} {lo hi : Operand} (hw : Region.wanted oi (yielded ops a.tmps) = true) (ho : oi.op = .slice t y (some lo) (some hi) none) (hy : a.eval y = .pointer (some ⟨g, 0, none⟩)) (hl : a.eval lo = .int .i64 x) (hh : a.eval hi = .int .i64 x')
    (hu : Try.prog.underlying t = some (.array N e)) (hs : (Try.prog.info? e).map (·.size) = some 1) (hx : x = j) (hx' : x' = i) (hj : j < N) (hji : j ≤ i) (hi' : i ≤ N) : YieldsIf Try.prog ops S oi (.slice (some ⟨g, j, none⟩) (i - j) (N - j)) a :=
  y_run hw fun w => by
    subst hx hx'
    unfold execOp
    simp only [ho, hy, Option.map_some, Option.map_none, hl, hh, run_cut_lh hu hs hj hji hi', Sem.run_bind, Sem.run_pure, Result.andThen_ok]
theorem conv_u8_int (x : Nat) (h : x < 256) (w : World) : (convert 5 3 (.int .u8 x)).run Try.prog w = .ok (.int .i64 x) w := by
  have e : IntKind.i64.wrap (x : Int) = x := IntWalk.i64_in _ (by omega)
  simp [convert, run_underlying Try.underlying5, run_underlying Try.underlying3, go_sem, e]
/-- 'int(b[i])'. -/
theorem y_int8 {x : Nat} (hw : Region.wanted oi (yielded ops a.tmps) = true) (ho : oi.op = .convert 5 3 y) (hy : a.eval y = .int .u8 x) (h : x < 256) : YieldsIf Try.prog ops S oi (.int .i64 x) a :=
  y_convV hw ho hy fun w _ => conv_u8_int x h w
end
end Go.Proofs.Ytbbeekpndhfpjaa.Pa
end

section
/- The program's Lay. -/
set_option maxRecDepth 100000
set_option linter.unusedVariables false
namespace Go.Proofs.Ytbbeekpndhfpjaa.Pa
open Go.RowKit Go.Proofs.Ytbbeekpndhfpjaa.Row Go.Proofs.Ytbbeekpndhfpjaa.Crc

def z64 : List UInt8 := List.replicate 64 0
theorem z64_len : z64.length = 64 := by unfold z64; simp
theorem byts_z : Byts z64 (bl z64) := byts_bl z64_len
theorem zero_api (w : World) : (zeroValue 69).run Try.prog w = .ok (.agg (bl z64)) w := by kernel_rfl
theorem info_api {A : Array Value} (h : A.size = 64) : (Try.prog.info? 69).map (·.size) = some A.size := by rw [h]; kernel_rfl
theorem enter_four (args : Array Value) (w : World) : (callFunc 53 args).run Try.prog w = .ok (.enter 53 args) w := run_enter Try.func53 (by kernel_rfl) rfl args w
theorem enter_sum (args : Array Value) (w : World) : (callFunc 40 args).run Try.prog w = .ok (.enter 40 args) w := run_enter Try.func40 (by kernel_rfl) rfl args w

theorem ov_len (l : List UInt8) (o : Nat) (s : List UInt8) (h : o + s.length ≤ l.length) : (ov l o s).length = l.length := by
  unfold ov
  simp only [List.length_append, List.length_take, List.length_drop]
  omega
/-- While a page is laid. -/
def LyI (w : World) (p : Pv) (g : Nat) (l : List UInt8) (w' : World) : Prop :=
  Below w.heap.size w w' ∧ w.heap.size + 1 < g ∧ At w' w.heap.size (pgV p) 73 ∧ At w' (w.heap.size + 1) (bl z64) 69 ∧ At w' g (bl l) 69
section
variable {w w1 w2 : World} {p : Pv} {g : Nat} {l : List UInt8}
theorem LyI.next (h : LyI w p g l w1) (hb : Below w1.heap.size w1 w2) : LyI w p g l w2 :=
  ⟨below_trans h.1 hb h.1.size, h.2.1, h.2.2.1.below hb h.2.2.1.lt, h.2.2.2.1.below hb h.2.2.2.1.lt, h.2.2.2.2.below hb h.2.2.2.2.lt⟩
theorem LyI.drew (h : LyI w p g l w1) : LyI w p g l w1.drew := h.next (Below.refl _ _).drew
theorem LyI.row (h : LyI w p g l w1) (m : List UInt8) : LyI w p g m (w1.setRow g (bl m)) :=
  have hg := h.2.1
  ⟨below_setRow' h.1 (by omega) _, h.2.1, h.2.2.1.setRow_other (by omega), h.2.2.2.1.setRow_other (by omega), h.2.2.2.2.setRow⟩
theorem LyI.set (h : LyI w p g l w1) (k : Nat) (c : UInt8) : LyI w p g (l.set k c) (w1.setCell ⟨g, k, none⟩ (.int .u8 (c.toNat : Int))) :=
  have hg := h.2.1
  ⟨h.1.setCell (by dsimp only; omega) _, h.2.1, h.2.2.1.setCell_other (by dsimp only; omega), h.2.2.2.1.setCell_other (by dsimp only; omega), by rw [← bl_set]; exact h.2.2.2.2.setCell⟩
theorem LyI.byte (h : LyI w p g l w1) (k : Nat) (hk : k < l.length) : w1.cell? ⟨g, k, none⟩ = some (.int .u8 (B l k)) ∧ w1.frozen? ⟨g, k, none⟩ = false :=
  ⟨by rw [cell_of_row _ _ _ _ _ _ h.2.2.2.2, bl_at l k hk], h.2.2.2.2.frozen k⟩
theorem LyI.fld (h : LyI w p g l w1) {k : Nat} {v : Value} (hk : (pgV p)[k]? = some v) : w1.cell? ⟨w.heap.size, k, none⟩ = some v := by rw [cell_of_row _ _ _ _ _ _ h.2.2.1, hk]
theorem LyI.start (w : World) (p : Pv) {w1 : World} (hb : Below ((w.alloc (.cells (pgV p) 73)).alloc (.cells (bl z64) 69)).heap.size ((w.alloc (.cells (pgV p) 73)).alloc (.cells (bl z64) 69)) w1) :
    LyI w p w1.heap.size z64 (w1.alloc (.cells (bl z64) 69)) := by
  have hs : w.heap.size + 1 < w1.heap.size := by have := hb.size; simp at this; omega
  have h0 : Below w.heap.size w ((w.alloc (.cells (pgV p) 73)).alloc (.cells (bl z64) 69)) := ((Below.refl _ _).alloc (Nat.le_refl _) _).alloc (by simp) _
  have h1 : Below w.heap.size w w1 := below_trans h0 hb h0.size
  refine ⟨h1.alloc h1.size _, hs, ?_, ?_, At.new _ _ _⟩
  · exact (((At.new w (pgV p) 73).alloc _).below hb (by simp; omega)).alloc _
  · have := At.new (w.alloc (.cells (pgV p) 73)) (bl z64) 69
    rw [World.size_alloc] at this
    exact (this.below hb (by simp)).alloc _
end

theorem four_as (x : Nat) (w : World) (hx : x < 4294967296) : Calls Try.prog 53 #[.int .u32 x] w fun e w' => ∃ v, e = .returned v ∧ v = .string ⟨(fourL x).toArray⟩ ∧ Below w.heap.size w w' :=
  (four_any x w hx).mono fun e w' h => ⟨_, h.1, rfl, h.2⟩

/-- What Lay lays, step by step. -/
theorem lay_is {p : Pv} (hr : p.right) {l1 l2 l6 l7 l8 : List UInt8} {kb mb nb : UInt8} (h1 : ov z64 4 (fourL p.e) = l1) (h2 : ov l1 8 (fourL p.n) = l2) (hk : UInt8.ofNat p.k.toNat = kb) (hm : UInt8.ofNat p.m = mb) (hn : UInt8.ofNat p.d.length = nb)
    (h6 : ((l2.set 12 kb).set 13 mb).set 14 nb = l6) (h7 : ov l6 15 p.d = l7) (h8 : ov l7 0 (fourL (moreS 0 (l7.drop 4))) = l8) : l8 = p.lay := by
  have hd := hr.2.1
  have e6 : l6 = 0 :: 0 :: 0 :: 0 :: (fourL p.e ++ (fourL p.n ++ kb :: mb :: nb :: List.replicate 49 0)) := by
    rw [← h6, ← h2, ← h1]; rfl
  have e7 : l7 = 0 :: 0 :: 0 :: 0 :: p.body := by
    rw [← h7, e6]
    unfold ov Pv.body
    rw [hk, hm, hn]
    have e : List.drop (15 + p.d.length) (0 :: 0 :: 0 :: 0 :: (fourL p.e ++ (fourL p.n ++ kb :: mb :: nb :: List.replicate 49 0))) = List.replicate (49 - p.d.length) 0 := by
      rw [← List.drop_drop]
      show List.drop p.d.length (List.replicate 49 0) = _
      rw [List.drop_replicate]
    rw [e, List.append_assoc]; rfl
  rw [← h8, e7]; rfl

set_option maxHeartbeats 4000000 in
theorem lay_yes (p : Pv) (w : World) (hd : p.d.length ≤ maxLen) (ho : p.Ok) (hr : p.right) :
    Calls Try.prog 42 #[.agg (pgV p)] w fun e w' => e = .returned (.tuple #[.agg (bl p.lay), .int .i64 0]) ∧ Below w.heap.size w w' := by
  have hR := Lib.hid fun w => right_any p w hd
  rw [decide_eq_true hr] at hR
  have hM := Lib.hid fun w => marks_any p w
  have HO := Lib.hid ho
  have HR := Lib.hid hr
  clear ho hr hd
  obtain ⟨P, hP⟩ : ∃ P, pgV p = P := ⟨_, rfl⟩
  obtain ⟨Z, hZ⟩ : ∃ Z, bl z64 = Z := ⟨_, rfl⟩
  have hz := zero_api
  have HST := Lib.hid fun w1 hb => LyI.start w p (w1 := w1) hb
  rw [hP] at hR hM ⊢
  rw [hZ] at hz
  simp only [hP, hZ] at HST
  have HP := Lib.hid hP
  have HZL := Lib.hid z64_len
  clear hP
  have hA0 : At ((w.alloc (.cells P 73)).alloc (.cells Z 69)) w.heap.size P 73 := (At.new w P _).alloc _
  go_enter Try.func42, Try.ntmps42
  go_wp2_with (first
    | (refine wpList_load_w rfl 73 _ rfl _ rfl hA0 Try.underlying73 rfl (by rw [← HP.out]; exact info_pg rfl) ?_)
    | fail)
  refine (hR.out _).mono ?_
  rintro e w1 ⟨rfl, hb⟩
  have HB := Lib.hid hb
  clear hb
  go_wp2_with fail
  have HI0 := Lib.hid (HST.out w1 HB.out)
  clear HST HB hA0
  revert HI0
  generalize w1.alloc (.cells Z _) = W0
  generalize w1.heap.size = g
  intro HI0
  refine mf_start (fun w' => ∃ l, LyI w p g l w') (fun _ => false) ⟨_, HI0.out.drew⟩ fun hS => ?_
  refine mf_yield (i := 0) (d := 9) (.slice ((some ⟨g, 4, none⟩)) 60 60) rfl rfl (by kernel_rfl) (by kernel_rfl) (by kernel_rfl) (by kernel_rfl) hS (y_cutl (j := 4) (by rfl) rfl rfl rfl Try.underlying69 (by kernel_rfl) rfl (by omega)) ?_
  simp only [Act.put, List.setIfInBounds_toArray, List.set_cons_zero, List.set_cons_succ]
  refine mf_yield (i := 1) (d := 10) (.pointer (some ⟨w.heap.size, 0, none⟩)) rfl rfl (by kernel_rfl) (by kernel_rfl) (by kernel_rfl) (by kernel_rfl) hS (y_fieldO (by rfl) rfl rfl (fldp 0 (by omega)) (Nat.zero_add _)) ?_
  simp only [Act.put, List.setIfInBounds_toArray, List.set_cons_zero, List.set_cons_succ]
  refine mf_yield (i := 2) (d := 11) (.int .u32 p.e) rfl rfl (by kernel_rfl) (by kernel_rfl) (by kernel_rfl) (by kernel_rfl) hS (y_cell1 (by rfl) rfl rfl Try.underlying40 rfl (fun w h => by obtain ⟨_, h⟩ := h; exact h.fld (k := 0) rfl)) ?_
  simp only [Act.put, List.setIfInBounds_toArray, List.set_cons_zero, List.set_cons_succ]
  refine mf_ready [3] (by kernel_rfl) (by simp) (af_call (i := 3) (d := 12) (R := fun v w' => v = .string ⟨(fourL p.e).toArray⟩ ∧ LyI w p g z64 w') #[.int .u32 p.e] rfl rfl (by rfl) rfl enter_four (by kernel_rfl) ((four_as p.e _ HO.out.1).mono fun e w' h => by obtain ⟨v, h1, h2, h3⟩ := h; exact ⟨v, h1, h2, HI0.out.drew.next h3⟩) (fun v w' h => ⟨_, h.2⟩) ?_ AllReadyF.nil)
  rintro v w0a ⟨rfl, h0a⟩ hS0
  clear hS0
  simp only [Act.put, List.setIfInBounds_toArray, List.set_cons_zero, List.set_cons_succ]
  refine mf_of (i := 4) rfl (by kernel_rfl) (by rfl) fun Q' hQ => ?_
  refine wpList_copy_str rfl (.tmp 9) (.tmp 12) rfl rfl rfl h0a.2.2.2.2 (by rw [fourL_length]; omega) (by rw [fourL_length, HZL.out]; omega) ?_
  have HI1 := Lib.hid (h0a.row (ov z64 4 (fourL p.e)))
  refine hQ _ _ (fun _ => ⟨_, HI1.out⟩) ?_
  show wpAnyF _ _ _ _ _ _ _ _ (Act.put _ (some 13) _) _
  simp only [Act.put, List.setIfInBounds_toArray, List.set_cons_zero, List.set_cons_succ]
  refine mf_done (by kernel_rfl) ?_
  clear hS hQ h0a
  clear Q'
  revert HI1
  generalize World.setRow _ _ _ = W1
  intro HI1
  obtain ⟨l1, hl1⟩ : ∃ l, (ov z64 4 (fourL p.e)) = l := ⟨_, rfl⟩
  have hn1 : l1.length = 64 := by rw [← hl1, ov_len _ _ _ (by rw [fourL_length, HZL.out]; omega)]; exact HZL.out
  rw [hl1] at HI1
  have HL1 := Lib.hid hl1
  have HN1 := Lib.hid hn1
  clear hl1 hn1
  go_wp2_with fail
  refine mf_start (fun w' => ∃ l, LyI w p g l w') (fun _ => false) ⟨_, HI1.out.drew⟩ fun hS => ?_
  refine mf_yield (i := 0) (d := 14) (.slice ((some ⟨g, 8, none⟩)) 56 56) rfl rfl (by kernel_rfl) (by kernel_rfl) (by kernel_rfl) (by kernel_rfl) hS (y_cutl (j := 8) (by rfl) rfl rfl rfl Try.underlying69 (by kernel_rfl) rfl (by omega)) ?_
  simp only [Act.put, List.setIfInBounds_toArray, List.set_cons_zero, List.set_cons_succ]
  refine mf_yield (i := 1) (d := 15) (.pointer (some ⟨w.heap.size, 1, none⟩)) rfl rfl (by kernel_rfl) (by kernel_rfl) (by kernel_rfl) (by kernel_rfl) hS (y_fieldO (by rfl) rfl rfl (fldp 1 (by omega)) (Nat.zero_add _)) ?_
  simp only [Act.put, List.setIfInBounds_toArray, List.set_cons_zero, List.set_cons_succ]
  refine mf_yield (i := 2) (d := 16) (.int .u32 p.n) rfl rfl (by kernel_rfl) (by kernel_rfl) (by kernel_rfl) (by kernel_rfl) hS (y_cell1 (by rfl) rfl rfl Try.underlying40 rfl (fun w h => by obtain ⟨_, h⟩ := h; exact h.fld (k := 1) rfl)) ?_
  simp only [Act.put, List.setIfInBounds_toArray, List.set_cons_zero, List.set_cons_succ]
  refine mf_ready [3] (by kernel_rfl) (by simp) (af_call (i := 3) (d := 17) (R := fun v w' => v = .string ⟨(fourL p.n).toArray⟩ ∧ LyI w p g l1 w') #[.int .u32 p.n] rfl rfl (by rfl) rfl enter_four (by kernel_rfl) ((four_as p.n _ HO.out.2).mono fun e w' h => by obtain ⟨v, h1, h2, h3⟩ := h; exact ⟨v, h1, h2, HI1.out.drew.next h3⟩) (fun v w' h => ⟨_, h.2⟩) ?_ AllReadyF.nil)
  rintro v w1a ⟨rfl, h1a⟩ hS1
  clear hS1
  simp only [Act.put, List.setIfInBounds_toArray, List.set_cons_zero, List.set_cons_succ]
  refine mf_of (i := 4) rfl (by kernel_rfl) (by rfl) fun Q' hQ => ?_
  refine wpList_copy_str rfl (.tmp 14) (.tmp 17) rfl rfl rfl h1a.2.2.2.2 (by rw [fourL_length]; omega) (by rw [fourL_length, HN1.out]; omega) ?_
  have HI2 := Lib.hid (h1a.row (ov l1 8 (fourL p.n)))
  refine hQ _ _ (fun _ => ⟨_, HI2.out⟩) ?_
  show wpAnyF _ _ _ _ _ _ _ _ (Act.put _ (some 18) _) _
  simp only [Act.put, List.setIfInBounds_toArray, List.set_cons_zero, List.set_cons_succ]
  refine mf_done (by kernel_rfl) ?_
  clear hS hQ h1a
  clear Q'
  revert HI2
  generalize World.setRow _ _ _ = W2
  intro HI2
  obtain ⟨l2, hl2⟩ : ∃ l, (ov l1 8 (fourL p.n)) = l := ⟨_, rfl⟩
  have hn2 : l2.length = 64 := by rw [← hl2, ov_len _ _ _ (by rw [fourL_length, HN1.out]; omega)]; exact HN1.out
  rw [hl2] at HI2
  have HL2 := Lib.hid hl2
  have HN2 := Lib.hid hn2
  clear hl2 hn2
  obtain ⟨kb, hkb⟩ : ∃ kb : UInt8, UInt8.ofNat p.k.toNat = kb := ⟨_, rfl⟩
  obtain ⟨mb, hmb⟩ : ∃ mb : UInt8, UInt8.ofNat p.m = mb := ⟨_, rfl⟩
  obtain ⟨nb, hnb⟩ : ∃ nb : UInt8, UInt8.ofNat p.d.length = nb := ⟨_, rfl⟩
  have hk : (kb.toNat : Int) = p.k := by
    have := HR.out.2.2.imp id fun h => h.1
    rw [← hkb, ofNat_toNat _ (by omega)]
    omega
  have hm : mb.toNat = p.m := by
    have := p.m_lt
    rw [← hmb, ofNat_toNat _ (by omega)]
  have hn : nb.toNat = p.d.length := by
    have := HR.out.2.1
    rw [← hnb, ofNat_toNat _ (by omega)]
  have kl := kb.toNat_lt
  have ml := mb.toNat_lt
  have nl : nb.toNat ≤ 49 := by rw [hn]; exact HR.out.2.1
  rw [← hm] at hM
  have HKB := Lib.hid hkb
  have HMB := Lib.hid hmb
  have HNB := Lib.hid hnb
  have HNL := Lib.hid hn
  obtain ⟨X, hX⟩ : ∃ X : ByteArray, ⟨p.d.toArray⟩ = X := ⟨_, rfl⟩
  have hs : X.size = nb.toNat := by rw [← hX, hn]; simp [ByteArray.size]
  have HX := Lib.hid hX
  have c2 : W2.cell? ⟨w.heap.size, 2, none⟩ = some (.int .i64 p.k) := HI2.out.fld (k := 2) rfl
  rw [← hk] at c2
  have HK := Lib.hid hk
  clear hkb hmb hnb hn hX hm hk
  have c12 := (HI2.out.byte 12 (by rw [HN2.out]; omega)).1
  have f12 := (HI2.out.byte 12 (by rw [HN2.out]; omega)).2
  have hi3 := HI2.out.set 12 kb
  have HI3 := Lib.hid hi3
  have HA3 := Lib.hid (show At (W2.setCell ⟨g, 12, none⟩ (.int .u8 (kb.toNat : Int))) w.heap.size P 73 from HP.out ▸ hi3.2.2.1)
  have HN3 := Lib.hid (show (l2.set 12 kb).length = 64 by rw [List.length_set]; exact HN2.out)
  clear hi3
  go_wp2_with (first
    | (refine wpList_load_w rfl 73 _ rfl _ rfl HA3.out Try.underlying73 rfl (by rw [← HP.out]; exact info_pg rfl) ?_)
    | fail)
  refine (hM.out _).mono ?_
  rintro e w4 ⟨rfl, hb⟩
  have hi4 := HI3.out.next hb
  have c13 := (hi4.byte 13 (by rw [HN3.out]; omega)).1
  have f13 := (hi4.byte 13 (by rw [HN3.out]; omega)).2
  have hi5 := hi4.set 13 mb
  have HN5 := Lib.hid (show ((l2.set 12 kb).set 13 mb).length = 64 by rw [List.length_set]; exact HN3.out)
  have c5 : (w4.setCell ⟨g, 13, none⟩ (.int .u8 (mb.toNat : Int))).cell? ⟨w.heap.size, 5, none⟩ = some (.string ⟨p.d.toArray⟩) := hi5.fld (k := 5) rfl
  rw [HX.out] at c5
  have c14 := (hi5.byte 14 (by rw [HN5.out]; omega)).1
  have f14 := (hi5.byte 14 (by rw [HN5.out]; omega)).2
  have HI6 := Lib.hid (hi5.set 14 nb)
  clear c2 c12 f12 HA3 HI3 hb hi4 hi5
  go_wp2_with fail
  revert HI6
  generalize World.setCell _ _ _ = W6
  intro HI6
  clear c13 f13 c5 c14 f14
  obtain ⟨l6, hl6⟩ : ∃ l, ((l2.set 12 kb).set 13 mb).set 14 nb = l := ⟨_, rfl⟩
  have hn6 : l6.length = 64 := by rw [← hl6, List.length_set]; exact HN5.out
  rw [hl6] at HI6
  have HL6 := Lib.hid hl6
  have HN6 := Lib.hid hn6
  clear hl6 hn6
  refine mf_start (fun w' => ∃ l, LyI w p g l w') (fun _ => false) ⟨_, HI6.out.drew⟩ fun hS => ?_
  refine mf_yield (i := 0) (d := 31) (.slice ((some ⟨g, 15, none⟩)) 49 49) rfl rfl (by kernel_rfl) (by kernel_rfl) (by kernel_rfl) (by kernel_rfl) hS (y_cutl (j := 15) (by rfl) rfl rfl rfl Try.underlying69 (by kernel_rfl) rfl (by omega)) ?_
  simp only [Act.put, List.setIfInBounds_toArray, List.set_cons_zero, List.set_cons_succ]
  refine mf_yield (i := 1) (d := 32) (.pointer (some ⟨w.heap.size, 5, none⟩)) rfl rfl (by kernel_rfl) (by kernel_rfl) (by kernel_rfl) (by kernel_rfl) hS (y_fieldO (by rfl) rfl rfl (fldp 5 (by omega)) (Nat.zero_add _)) ?_
  simp only [Act.put, List.setIfInBounds_toArray, List.set_cons_zero, List.set_cons_succ]
  refine mf_yield (i := 2) (d := 33) (.string ⟨p.d.toArray⟩) rfl rfl (by kernel_rfl) (by kernel_rfl) (by kernel_rfl) (by kernel_rfl) hS (y_cell1 (by rfl) rfl rfl Try.underlying9 rfl (fun w h => by obtain ⟨_, h⟩ := h; exact h.fld (k := 5) rfl)) ?_
  simp only [Act.put, List.setIfInBounds_toArray, List.set_cons_zero, List.set_cons_succ]
  refine mf_of (i := 3) rfl (by kernel_rfl) (by rfl) fun Q' hQ => ?_
  have h6a := HI6.out.drew
  have hd49 := HR.out.2.1
  refine wpList_copy_str rfl (.tmp 31) (.tmp 33) rfl rfl rfl h6a.2.2.2.2 (by omega) (by rw [HN6.out]; omega) ?_
  have HI7 := Lib.hid (h6a.row (ov l6 15 p.d))
  refine hQ _ _ (fun _ => ⟨_, HI7.out⟩) ?_
  show wpAnyF _ _ _ _ _ _ _ _ (Act.put _ (some 34) _) _
  simp only [Act.put, List.setIfInBounds_toArray, List.set_cons_zero, List.set_cons_succ]
  refine mf_done (by kernel_rfl) ?_
  clear hS hQ h6a
  clear Q'
  revert HI7
  generalize World.setRow _ _ _ = W7
  intro HI7
  obtain ⟨l7, hl7⟩ : ∃ l, (ov l6 15 p.d) = l := ⟨_, rfl⟩
  have hn7 : l7.length = 64 := by rw [← hl7, ov_len _ _ _ (by rw [HN6.out]; omega)]; exact HN6.out
  rw [hl7] at HI7
  have HL7 := Lib.hid hl7
  have HN7 := Lib.hid hn7
  clear hl7 hn7
  clear hd49
  go_wp2_with fail
  refine mf_start (fun w' => ∃ l, LyI w p g l w') (fun _ => false) ⟨_, HI7.out.drew⟩ fun hS => ?_
  refine mf_yield (i := 0) (d := 35) (.slice ((some ⟨g, 0, none⟩)) 4 64) rfl rfl (by kernel_rfl) (by kernel_rfl) (by kernel_rfl) (by kernel_rfl) hS (y_cuth (j := 4) (by rfl) rfl rfl rfl Try.underlying69 (by kernel_rfl) rfl (by omega)) ?_
  simp only [Act.put, List.setIfInBounds_toArray, List.set_cons_zero, List.set_cons_succ]
  refine mf_of (i := 1) rfl (by kernel_rfl) (by rfl) fun Q' hQ => ?_
  have h7a := HI7.out.drew
  refine wpList_load_w rfl 69 (.tmp 4) rfl _ rfl h7a.2.2.2.2 Try.underlying69 rfl (info_api (by rw [bl_size, HN7.out])) ?_
  refine hQ _ _ (fun _ => ⟨_, h7a⟩) ?_
  show wpAnyF _ _ _ _ _ _ _ _ (Act.put _ (some 36) _) _
  simp only [Act.put, List.setIfInBounds_toArray, List.set_cons_zero, List.set_cons_succ]
  clear hS hQ
  clear Q'
  refine mf_ready [2] (by kernel_rfl) (by simp) (af_call (i := 2) (d := 37) (R := fun v w' => v = .int .u32 (moreS 0 (l7.drop 4) : Nat) ∧ LyI w p g l7 w') #[.agg (bl l7)] rfl rfl (by rfl) rfl enter_sum (by kernel_rfl) ((sum_as l7 (bl l7) (byts_bl HN7.out) _).mono fun e w' h => ⟨_, h.1, rfl, h7a.next h.2⟩) (fun v w' h => ⟨_, h.2⟩) ?_ AllReadyF.nil)
  rintro v w7b ⟨rfl, h7b⟩ hS7
  clear hS7 h7a
  simp only [Act.put, List.setIfInBounds_toArray, List.set_cons_zero, List.set_cons_succ]
  refine mf_ready [3] (by kernel_rfl) (by simp) (af_call (i := 3) (d := 38) (R := fun v w' => v = .string ⟨(fourL (moreS 0 (l7.drop 4))).toArray⟩ ∧ LyI w p g l7 w') #[.int .u32 (moreS 0 (l7.drop 4) : Nat)] rfl rfl (by rfl) rfl enter_four (by kernel_rfl) ((four_as (moreS 0 (l7.drop 4)) _ (moreS_lt _ _)).mono fun e w' h => by obtain ⟨v, h1, h2, h3⟩ := h; exact ⟨v, h1, h2, h7b.next h3⟩) (fun v w' h => ⟨_, h.2⟩) ?_ AllReadyF.nil)
  rintro v w7c ⟨rfl, h7a⟩ hS7
  clear hS7 h7b
  simp only [Act.put, List.setIfInBounds_toArray, List.set_cons_zero, List.set_cons_succ]
  refine mf_of (i := 4) rfl (by kernel_rfl) (by rfl) fun Q' hQ => ?_
  refine wpList_copy_str rfl (.tmp 35) (.tmp 38) rfl rfl rfl h7a.2.2.2.2 (by rw [fourL_length]; omega) (by rw [fourL_length, HN7.out]; omega) ?_
  have HI8 := Lib.hid (h7a.row (ov l7 0 (fourL (moreS 0 (l7.drop 4)))))
  refine hQ _ _ (fun _ => ⟨_, HI8.out⟩) ?_
  show wpAnyF _ _ _ _ _ _ _ _ (Act.put _ (some 39) _) _
  simp only [Act.put, List.setIfInBounds_toArray, List.set_cons_zero, List.set_cons_succ]
  refine mf_done (by kernel_rfl) ?_
  clear hQ h7a
  clear Q'
  revert HI8
  generalize World.setRow _ _ _ = W8
  intro HI8
  obtain ⟨l8, hl8⟩ : ∃ l, (ov l7 0 (fourL (moreS 0 (l7.drop 4)))) = l := ⟨_, rfl⟩
  have hn8 : l8.length = 64 := by rw [← hl8, ov_len _ _ _ (by rw [fourL_length, HN7.out]; omega)]; exact HN7.out
  rw [hl8] at HI8
  have HL8 := Lib.hid hl8
  have HN8 := Lib.hid hn8
  clear hl8 hn8
  have HL := Lib.hid (show l8 = p.lay from lay_is HR.out HL1.out HL2.out HKB.out HMB.out HNB.out HL6.out HL7.out HL8.out)
  have HF := Lib.hid HI8.out.2.2.2.2
  have HG := Lib.hid (HZL.out)
  have HZ := Lib.hid HI8.out.2.2.2.1
  go_wp2_with (first
    | (refine wpList_load_w rfl 69 _ rfl _ rfl HF.out Try.underlying69 rfl (info_api (by rw [bl_size, HN8.out])) ?_)
    | (refine wpList_store_row rfl 69 _ _ rfl (w.heap.size + 1) (bl l8) rfl rfl _ _ HZ.out (info_api (by rw [bl_size, HN8.out])) (by rw [bl_size, bl_size, HN8.out, HZL.out]) (bl_one _) ?_)
    | fail)
  rw [← HL.out]
  exact bodyPost_ret (v := .tuple #[.agg (bl l8), .int .i64 0]) (results_any_int rfl _ _ (w.heap.size + 1) (bl l8) _ rfl rfl HZ.out.setRow Try.underlying69 rfl (info_api (by rw [bl_size, HN8.out]))) rfl ⟨rfl, below_setRow' HI8.out.1 (by omega) _⟩

theorem built_api : Try.prog.built 69 [] = some (bl z64) := by kernel_rfl
theorem lay_no (p : Pv) (w : World) (hd : p.d.length ≤ maxLen) (hr : ¬ p.right) :
    Calls Try.prog 42 #[.agg (pgV p)] w fun e w' => e = .returned (.tuple #[.agg (bl z64), .int .i64 1]) ∧ Below w.heap.size w w' := by
  have hR := Lib.hid fun w => right_any p w hd
  rw [decide_eq_false hr] at hR
  clear hr hd
  have hZS : (bl z64).size = 64 := by rw [bl_size, z64_len]
  obtain ⟨P, hP⟩ : ∃ P, pgV p = P := ⟨_, rfl⟩
  have hb := built_api
  have hone := bl_one z64
  have hz := zero_api
  generalize bl z64 = Z at *
  rw [hP] at hR ⊢
  have HP := Lib.hid hP
  clear hP
  have HZS := Lib.hid hZS
  have HON := Lib.hid hone
  clear hZS hone
  have hA0 : At ((w.alloc (.cells P 73)).alloc (.cells Z 69)) w.heap.size P 73 := (At.new w P _).alloc _
  have hA1 := Lib.hid (show At ((w.alloc (.cells P 73)).alloc (.cells Z 69)) (w.heap.size + 1) Z 69 by
    have := At.new (w.alloc (.cells P 73)) Z 69
    rw [World.size_alloc] at this
    exact this)
  have hB1 := Lib.hid (show Below w.heap.size w ((w.alloc (.cells P 73)).alloc (.cells Z 69)) from ((Below.refl _ _).alloc (Nat.le_refl _) _).alloc (by simp) _)
  go_enter Try.func42, Try.ntmps42
  go_wp2_with (first
    | (refine wpList_load_w rfl 73 _ rfl _ rfl hA0 Try.underlying73 rfl (by rw [← HP.out]; exact info_pg rfl) ?_)
    | fail)
  refine (hR.out _).mono ?_
  rintro e w1 ⟨rfl, hb1⟩
  have HB := Lib.hid (below_trans hB1.out hb1 hB1.out.size)
  have HA := Lib.hid (hA1.out.below hb1 hA1.out.lt)
  clear hb1 hA0 hA1 hB1
  go_wp2_with (first
    | (refine wpList_build_parts (by rfl) 69 [] rfl _ rfl hb ?_)
    | (refine wpList_store_row rfl 69 _ _ rfl (w.heap.size + 1) Z rfl rfl _ _ HA.out (info_api HZS.out) rfl HON.out ?_)
    | fail)
  exact bodyPost_ret (v := .tuple #[.agg Z, .int .i64 1]) (results_any_int rfl _ _ (w.heap.size + 1) Z _ rfl rfl HA.out.setRow Try.underlying69 rfl (info_api HZS.out)) rfl ⟨rfl, below_setRow' HB.out (by omega) _⟩
end Go.Proofs.Ytbbeekpndhfpjaa.Pa
end

section
/- The program's parse: what bytes tell of a page, right or not. -/
set_option maxRecDepth 100000
set_option linter.unusedVariables false
set_option linter.unusedSimpArgs false
namespace Go.Proofs.Ytbbeekpndhfpjaa.Pa
open Go.RowKit Go.Proofs.Ytbbeekpndhfpjaa.Row Go.Proofs.Ytbbeekpndhfpjaa.Crc

/-- What bytes tell of a page. -/
def ps (b : List UInt8) : Pv := ⟨fo b 4, fo b 8, (B b 12 : Nat), decide (B b 13 % 2 = 1), decide (B b 13 / 2 % 2 = 1), (b.drop 15).take (min (B b 14) 49)⟩
theorem and_1 : ∀ x : Fin 256, (((x.val &&& 1 : Nat) : Int) != 0) = decide (x.val % 2 = 1) := by decide
theorem and_2 : ∀ x : Fin 256, (((x.val &&& 2 : Nat) : Int) != 0) = decide (x.val / 2 % 2 = 1) := by decide
theorem y_and8 {ops : Array Oper} {S : World → Prop} {a : Act} {oi : Oper} {t t' : TypeId} {y z : Operand} {m n : Nat} (hw : Region.wanted oi (yielded ops a.tmps) = true) (ho : oi.op = .binOp .and t y z t') (hy : a.eval y = .int .u8 (m : Nat)) (hz : a.eval z = .int .u8 (n : Nat)) (hm : m < 256) (hn : n < 256) : YieldsIf Try.prog ops S oi (.int .u8 ((m &&& n : Nat))) a :=
  y_run hw fun w => by
    have hr := u8_and_nat m n hm hn
    unfold execOp
    simp only [ho, hy, hz]
    simp [go_sem, hr]
theorem enter_number (args : Array Value) (w : World) : (callFunc 39 args).run Try.prog w = .ok (.enter 39 args) w := run_enter Try.func39 (by kernel_rfl) rfl args w
theorem number_fo (b : List UInt8) (i n : Nat) (hb : b.length = 64) (h : i + 4 ≤ 64) (hn : 4 ≤ n) (w : World) :
    Calls Try.prog 39 #[.string ⟨((b.drop i).take n).toArray⟩] w fun e w' => e = .returned (.int .u32 (fo b i : Nat)) ∧ w = w' := by
  have hl : (⟨((b.drop i).take n).toArray⟩ : ByteArray).size ≤ maxLen := by
    have : (⟨((b.drop i).take n).toArray⟩ : ByteArray).size = ((b.drop i).take n).length := by simp [ByteArray.size]
    rw [this, List.length_take, List.length_drop]
    unfold maxLen
    omega
  have e := number_any ⟨((b.drop i).take n).toArray⟩ w hl
  rw [show (⟨((b.drop i).take n).toArray⟩ : ByteArray).data.toList = (b.drop i).take n from rfl, List.take_take, show min 4 n = 4 from by omega, num_fo b i (by omega)] at e
  exact e
theorem built_pg (a c k : Int) (x y : Bool) (s : ByteArray) : Try.prog.built 73 [(0, .int .u32 a), (1, .int .u32 c), (2, .int .i64 k), (3, .bool x), (4, .bool y), (5, .string s)] = some #[.int .u32 a, .int .u32 c, .int .i64 k, .bool x, .bool y, .string s] := by kernel_rfl
theorem run_min2 (x u : Nat) (h : min x 49 = u) (w : World) :
    Sem.run Try.prog (Builtin.min_ #[3, 3] 3 #[.int .i64 x, .int .i64 49]) w = .ok (.int .i64 u) w := by
  have e : (if (49 : Int) < x then (49 : Int) else x) = u := by
    rw [← h]; split <;> omega
  rw [← e]
  simp [Builtin.min_, Builtin.min2]
/-- While bytes are parsed. -/
def PsI (w : World) (b : List UInt8) (w' : World) : Prop := Below w.heap.size w w' ∧ At w' w.heap.size (bl b) 69 ∧ At w' (w.heap.size + 1) (pgV Pv.zero) 73
theorem PsI.drew {w w' : World} {b : List UInt8} (h : PsI w b w') : PsI w b w'.drew := ⟨h.1.drew, h.2.1, h.2.2⟩

set_option maxHeartbeats 4000000 in
theorem parse_as (b : List UInt8) (w : World) (hb : b.length = 64) :
    Calls Try.prog 41 #[.agg (bl b)] w fun e w' => e = .returned (.agg (pgV (ps b))) ∧ Below w.heap.size w w' := by
  have HBL := Lib.hid hb
  obtain ⟨N, hN⟩ : ∃ N, min (B b 14) 49 = N := ⟨_, rfl⟩
  have hN49 : N ≤ 49 := by omega
  have hmin := fun w => run_min2 (B b 14) N hN w
  have hB14 := B_lt b 14
  have HI := Lib.hid (show PsI w b ((w.alloc (.cells (bl b) 69)).alloc (.cells (pgV Pv.zero) 73)) from ⟨below_second _ _ _, (At.new w (bl b) _).alloc _, at_second w _ _ _⟩)
  have c14 : ((w.alloc (.cells (bl b) 69)).alloc (.cells (pgV Pv.zero) 73)).cell? ⟨w.heap.size, 14, none⟩ = some (.int .u8 (B b 14)) := by
    rw [cell_of_row _ _ _ _ _ _ HI.out.2.1, bl_at b 14 (by omega)]
  obtain ⟨f1, hf1⟩ : ∃ f, decide (B b 13 % 2 = 1) = f := ⟨_, rfl⟩
  obtain ⟨f2, hf2⟩ : ∃ f, decide (B b 13 / 2 % 2 = 1) = f := ⟨_, rfl⟩
  have HF1 := Lib.hid ((and_1 ⟨B b 13, B_lt b 13⟩).trans hf1)
  have HF2 := Lib.hid ((and_2 ⟨B b 13, B_lt b 13⟩).trans hf2)
  have hps : pgV (ps b) = #[.int .u32 (fo b 4 : Nat), .int .u32 (fo b 8 : Nat), .int .i64 (B b 12 : Nat), .bool f1, .bool f2, .string ⟨((b.drop 15).take (15 + N - 15)).toArray⟩] := by
    unfold ps pgV
    simp only [hf1, hf2, hN]
    rw [show 15 + N - 15 = N from by omega]
  have HPS := Lib.hid hps
  have hz := zero_pg
  clear hps hf1 hf2 hb
  go_enter Try.func41, Try.ntmps41
  go_wp2_with fail
  refine mf_start (PsI w b) (fun i => i == 22) HI.out.drew fun hS => ?_
  refine mf_yield (i := 0) (d := 8) (.slice ((some ⟨w.heap.size, 4, none⟩)) 60 60) rfl rfl (by kernel_rfl) (by kernel_rfl) (by kernel_rfl) (by kernel_rfl) hS (y_cutl (j := 4) (by rfl) rfl rfl rfl Try.underlying69 (by kernel_rfl) rfl (by omega)) ?_
  simp only [Act.put, List.setIfInBounds_toArray, List.set_cons_zero, List.set_cons_succ]
  refine mf_yield (i := 1) (d := 9) (.string ⟨((b.drop 4).take 60).toArray⟩) rfl rfl (by kernel_rfl) (by kernel_rfl) (by kernel_rfl) (by kernel_rfl) hS (y_text (by rfl) rfl rfl (fun w' h => h.2.1) (by rw [HBL.out]; omega)) ?_
  simp only [Act.put, List.setIfInBounds_toArray, List.set_cons_zero, List.set_cons_succ]
  refine mf_yield (i := 3) (d := 11) (.slice ((some ⟨w.heap.size, 8, none⟩)) 56 56) rfl rfl (by kernel_rfl) (by kernel_rfl) (by kernel_rfl) (by kernel_rfl) hS (y_cutl (j := 8) (by rfl) rfl rfl rfl Try.underlying69 (by kernel_rfl) rfl (by omega)) ?_
  simp only [Act.put, List.setIfInBounds_toArray, List.set_cons_zero, List.set_cons_succ]
  refine mf_yield (i := 4) (d := 12) (.string ⟨((b.drop 8).take 56).toArray⟩) rfl rfl (by kernel_rfl) (by kernel_rfl) (by kernel_rfl) (by kernel_rfl) hS (y_text (by rfl) rfl rfl (fun w' h => h.2.1) (by rw [HBL.out]; omega)) ?_
  simp only [Act.put, List.setIfInBounds_toArray, List.set_cons_zero, List.set_cons_succ]
  refine mf_yield (i := 6) (d := 14) (.pointer (some ⟨w.heap.size, 12, none⟩)) rfl rfl (by kernel_rfl) (by kernel_rfl) (by kernel_rfl) (by kernel_rfl) hS (y_ax (k := 12) (m := 1) (by rfl) rfl rfl rfl Try.underlying69 (by kernel_rfl) rfl (by omega) (by omega)) ?_
  simp only [Act.put, List.setIfInBounds_toArray, List.set_cons_zero, List.set_cons_succ]
  refine mf_yield (i := 7) (d := 15) (.int .u8 (B b 12)) rfl rfl (by kernel_rfl) (by kernel_rfl) (by kernel_rfl) (by kernel_rfl) hS (y_byte (by rfl) rfl rfl (fun w' h => h.2.1) (by rw [HBL.out]; omega)) ?_
  simp only [Act.put, List.setIfInBounds_toArray, List.set_cons_zero, List.set_cons_succ]
  refine mf_yield (i := 8) (d := 16) (.int .i64 (B b 12)) rfl rfl (by kernel_rfl) (by kernel_rfl) (by kernel_rfl) (by kernel_rfl) hS (y_int8 (by rfl) rfl rfl (B_lt _ _)) ?_
  simp only [Act.put, List.setIfInBounds_toArray, List.set_cons_zero, List.set_cons_succ]
  refine mf_yield (i := 9) (d := 17) (.pointer (some ⟨w.heap.size, 13, none⟩)) rfl rfl (by kernel_rfl) (by kernel_rfl) (by kernel_rfl) (by kernel_rfl) hS (y_ax (k := 13) (m := 1) (by rfl) rfl rfl rfl Try.underlying69 (by kernel_rfl) rfl (by omega) (by omega)) ?_
  simp only [Act.put, List.setIfInBounds_toArray, List.set_cons_zero, List.set_cons_succ]
  refine mf_yield (i := 10) (d := 18) (.int .u8 (B b 13)) rfl rfl (by kernel_rfl) (by kernel_rfl) (by kernel_rfl) (by kernel_rfl) hS (y_byte (by rfl) rfl rfl (fun w' h => h.2.1) (by rw [HBL.out]; omega)) ?_
  simp only [Act.put, List.setIfInBounds_toArray, List.set_cons_zero, List.set_cons_succ]
  refine mf_yield (i := 11) (d := 19) (.int .u8 ((B b 13 &&& 1 : Nat))) rfl rfl (by kernel_rfl) (by kernel_rfl) (by kernel_rfl) (by kernel_rfl) hS (y_and8 (by rfl) rfl rfl rfl (B_lt _ _) (by omega)) ?_
  simp only [Act.put, List.setIfInBounds_toArray, List.set_cons_zero, List.set_cons_succ]
  refine mf_yield (i := 12) (d := 20) (.bool f1) rfl rfl (by kernel_rfl) (by kernel_rfl) (by kernel_rfl) (by kernel_rfl) hS (y_neqK (by rfl) rfl Try.underlying5 rfl rfl HF1.out) ?_
  simp only [Act.put, List.setIfInBounds_toArray, List.set_cons_zero, List.set_cons_succ]
  refine mf_yield (i := 13) (d := 21) (.pointer (some ⟨w.heap.size, 13, none⟩)) rfl rfl (by kernel_rfl) (by kernel_rfl) (by kernel_rfl) (by kernel_rfl) hS (y_ax (k := 13) (m := 1) (by rfl) rfl rfl rfl Try.underlying69 (by kernel_rfl) rfl (by omega) (by omega)) ?_
  simp only [Act.put, List.setIfInBounds_toArray, List.set_cons_zero, List.set_cons_succ]
  refine mf_yield (i := 14) (d := 22) (.int .u8 (B b 13)) rfl rfl (by kernel_rfl) (by kernel_rfl) (by kernel_rfl) (by kernel_rfl) hS (y_byte (by rfl) rfl rfl (fun w' h => h.2.1) (by rw [HBL.out]; omega)) ?_
  simp only [Act.put, List.setIfInBounds_toArray, List.set_cons_zero, List.set_cons_succ]
  refine mf_yield (i := 15) (d := 23) (.int .u8 ((B b 13 &&& 2 : Nat))) rfl rfl (by kernel_rfl) (by kernel_rfl) (by kernel_rfl) (by kernel_rfl) hS (y_and8 (by rfl) rfl rfl rfl (B_lt _ _) (by omega)) ?_
  simp only [Act.put, List.setIfInBounds_toArray, List.set_cons_zero, List.set_cons_succ]
  refine mf_yield (i := 16) (d := 24) (.bool f2) rfl rfl (by kernel_rfl) (by kernel_rfl) (by kernel_rfl) (by kernel_rfl) hS (y_neqK (by rfl) rfl Try.underlying5 rfl rfl HF2.out) ?_
  simp only [Act.put, List.setIfInBounds_toArray, List.set_cons_zero, List.set_cons_succ]
  refine mf_yield (i := 17) (d := 25) (.int .i64 N) rfl rfl (by kernel_rfl) (by kernel_rfl) (by kernel_rfl) (by kernel_rfl) hS (y_run (by rfl) fun _ => by rfl) ?_
  simp only [Act.put, List.setIfInBounds_toArray, List.set_cons_zero, List.set_cons_succ]
  refine mf_yield (i := 18) (d := 26) (.int .i64 (15 + (N : Int))) rfl rfl (by kernel_rfl) (by kernel_rfl) (by kernel_rfl) (by kernel_rfl) hS (y_add (by rfl) rfl rfl rfl (IntWalk.i64_in _ (by omega))) ?_
  simp only [Act.put, List.setIfInBounds_toArray, List.set_cons_zero, List.set_cons_succ]
  refine mf_yield (i := 19) (d := 27) (.slice ((some ⟨w.heap.size, 15, none⟩)) ((15 + N - 15)) 49) rfl rfl (by kernel_rfl) (by kernel_rfl) (by kernel_rfl) (by kernel_rfl) hS (y_cutlh (j := 15) (i := 15 + N) (by rfl) rfl rfl rfl rfl Try.underlying69 (by kernel_rfl) rfl (by push_cast; rfl) (by omega) (by omega) (by omega)) ?_
  simp only [Act.put, List.setIfInBounds_toArray, List.set_cons_zero, List.set_cons_succ]
  refine mf_yield (i := 20) (d := 28) (.string ⟨((b.drop 15).take (15 + N - 15)).toArray⟩) rfl rfl (by kernel_rfl) (by kernel_rfl) (by kernel_rfl) (by kernel_rfl) hS (y_text (by rfl) rfl rfl (fun w' h => h.2.1) (by rw [HBL.out]; omega)) ?_
  simp only [Act.put, List.setIfInBounds_toArray, List.set_cons_zero, List.set_cons_succ]
  refine mf_ready [2] (by kernel_rfl) (by simp) (af_call (i := 2) (d := 10) (R := fun v w' => v = .int .u32 (fo b 4 : Nat) ∧ PsI w b w') #[.string ⟨((b.drop 4).take 60).toArray⟩] rfl rfl (by rfl) rfl enter_number (by kernel_rfl) ((number_fo b 4 60 HBL.out (by omega) (by omega) _).mono fun e w' h => ⟨_, h.1, rfl, h.2 ▸ hS⟩) (fun v w' h => h.2) ?_ AllReadyF.nil)
  rintro v w2 ⟨rfl, h2⟩ hS2
  clear hS h2
  have hS := hS2
  clear hS2
  simp only [Act.put, List.setIfInBounds_toArray, List.set_cons_zero, List.set_cons_succ]
  refine mf_ready [5] (by kernel_rfl) (by simp) (af_call (i := 5) (d := 13) (R := fun v w' => v = .int .u32 (fo b 8 : Nat) ∧ PsI w b w') #[.string ⟨((b.drop 8).take 56).toArray⟩] rfl rfl (by rfl) rfl enter_number (by kernel_rfl) ((number_fo b 8 56 HBL.out (by omega) (by omega) _).mono fun e w' h => ⟨_, h.1, rfl, h.2 ▸ hS⟩) (fun v w' h => h.2) ?_ AllReadyF.nil)
  rintro v w5 ⟨rfl, h5⟩ hS5
  clear hS h5
  have hS := hS5
  clear hS5
  simp only [Act.put, List.setIfInBounds_toArray, List.set_cons_zero, List.set_cons_succ]
  refine mf_one (i := 21) (d := 29) (.agg (pgV (ps b))) rfl rfl (by kernel_rfl) hS (by rw [HPS.out]; exact y_build_parts (L := [(0, .tmp 10), (1, .tmp 13), (2, .tmp 16), (3, .tmp 20), (4, .tmp 24), (5, .tmp 28)]) (by rfl) rfl _ rfl (built_pg _ _ _ _ _ _)) ?_
  simp only [Act.put, List.setIfInBounds_toArray, List.set_cons_zero, List.set_cons_succ]
  refine mf_ready [22] (by kernel_rfl) (by simp) (af_store (i := 22) (w.heap.size + 1) (pgV (ps b)) (pgV Pv.zero) rfl rfl (by rfl) rfl rfl rfl rfl hS.2.2 rfl (pgV_one _) (info_pg rfl) ?_ AllReadyF.nil)
  refine mf_done (by kernel_rfl) ?_
  have HB := Lib.hid (below_setRow' hS.1 (Nat.le_succ _) (pgV (ps b)))
  have HA := Lib.hid (At.setRow (C := pgV (ps b)) hS.2.2)
  clear hS
  go_wp2_with fail
  exact bodyPost_ret (v := .agg (pgV (ps b))) (results_any_one rfl _ _ (w.heap.size + 1) (pgV (ps b)) _ rfl HA.out Try.underlying73 rfl (info_pg rfl)) rfl ⟨rfl, HB.out⟩
end Go.Proofs.Ytbbeekpndhfpjaa.Pa
end

section
/- The program's Read. -/
set_option maxRecDepth 100000
set_option linter.unusedVariables false
set_option linter.unusedSimpArgs false
namespace Go.Proofs.Ytbbeekpndhfpjaa.Pa
open Go.RowKit Go.Proofs.Ytbbeekpndhfpjaa.Row Go.Proofs.Ytbbeekpndhfpjaa.Crc

theorem PsI.next {w w1 w2 : World} {b : List UInt8} (h : PsI w b w1) (hb : Below w1.heap.size w1 w2) : PsI w b w2 := ⟨below_trans h.1 hb h.1.size, h.2.1.below hb h.2.1.lt, h.2.2.below hb h.2.2.lt⟩
theorem built_z : Try.prog.built 73 [] = some (pgV Pv.zero) := by kernel_rfl
theorem ps_len (b : List UInt8) : (ps b).d.length ≤ maxLen := by
  show ((b.drop 15).take (min (B b 14) 49)).length ≤ maxLen
  rw [List.length_take]
  unfold maxLen
  omega
theorem ps_ok (b : List UInt8) : (ps b).Ok := ⟨fo_lt b 4, fo_lt b 8⟩
theorem ne_true {m n : Nat} (h : m ≠ n) : ((m : Int) != (n : Int)) = true := by rw [bne_iff_ne]; omega
theorem ne_false {m n : Nat} (h : m = n) : ((m : Int) != (n : Int)) = false := by rw [h]; simp

set_option maxHeartbeats 4000000 in
theorem read_sum (b : List UInt8) (w : World) (hb : b.length = 64) (hs : ¬ SumOk b) :
    Calls Try.prog 28 #[.agg (bl b)] w fun e w' => e = .returned (.tuple #[.agg (pgV Pv.zero), .int .i64 3]) ∧ Below w.heap.size w w' := by
  have HBL := Lib.hid hb
  have HD := Lib.hid (ne_true hs)
  clear hs
  have HI := Lib.hid (show PsI w b ((w.alloc (.cells (bl b) 69)).alloc (.cells (pgV Pv.zero) 73)) from ⟨below_second _ _ _, (At.new w (bl b) _).alloc _, at_second w _ _ _⟩)
  have HZ1 := Lib.hid (pgV_one Pv.zero)
  have hz := zero_pg
  have hzp := zero_api
  have hbt := built_z
  obtain ⟨T, hT⟩ : ∃ T, pgV Pv.zero = T := ⟨_, rfl⟩
  have HT := Lib.hid hT
  have hTs : T.size = 6 := by rw [← hT]; rfl
  have HTS := Lib.hid hTs
  rw [hT] at HZ1 hz hbt HI
  clear hb hTs
  go_enter Try.func28, Try.ntmps28
  go_wp2_with fail
  refine mf_start (PsI w b) (fun _ => false) HI.out.drew fun hS => ?_
  refine mf_yield (i := 0) (d := 7) (.slice ((some ⟨w.heap.size, 0, none⟩)) 4 64) rfl rfl (by kernel_rfl) (by kernel_rfl) (by kernel_rfl) (by kernel_rfl) hS (y_cuth (j := 4) (by rfl) rfl rfl rfl Try.underlying69 (by kernel_rfl) rfl (by omega)) ?_
  simp only [Act.put, List.setIfInBounds_toArray, List.set_cons_zero, List.set_cons_succ]
  refine mf_yield (i := 1) (d := 8) (.string ⟨((b.drop 0).take 4).toArray⟩) rfl rfl (by kernel_rfl) (by kernel_rfl) (by kernel_rfl) (by kernel_rfl) hS (y_text (by rfl) rfl rfl (fun w' h => h.2.1) (by rw [HBL.out]; omega)) ?_
  simp only [Act.put, List.setIfInBounds_toArray, List.set_cons_zero, List.set_cons_succ]
  refine mf_yield (i := 3) (d := 10) (.agg (bl b)) rfl rfl (by kernel_rfl) (by kernel_rfl) (by kernel_rfl) (by kernel_rfl) hS (y_load_w (by rfl) rfl rfl (fun w' h => h.2.1) Try.underlying69 rfl (info_api (by rw [bl_size, HBL.out]))) ?_
  simp only [Act.put, List.setIfInBounds_toArray, List.set_cons_zero, List.set_cons_succ]
  refine mf_ready [2] (by kernel_rfl) (by simp) (af_call (i := 2) (d := 9) (R := fun v w' => v = .int .u32 (fo b 0 : Nat) ∧ PsI w b w') #[.string ⟨((b.drop 0).take 4).toArray⟩] rfl rfl (by rfl) rfl enter_number (by kernel_rfl) ((number_fo b 0 4 HBL.out (by omega) (by omega) _).mono fun e w' h => ⟨_, h.1, rfl, h.2 ▸ hS⟩) (fun v w' h => h.2) ?_ AllReadyF.nil)
  rintro v w2 ⟨rfl, h2⟩ hS2
  clear hS hS2
  simp only [Act.put, List.setIfInBounds_toArray, List.set_cons_zero, List.set_cons_succ]
  refine mf_ready [4] (by kernel_rfl) (by simp) (af_call (i := 4) (d := 11) (R := fun v w' => v = .int .u32 (moreS 0 (b.drop 4) : Nat) ∧ PsI w b w') #[.agg (bl b)] rfl rfl (by rfl) rfl enter_sum (by kernel_rfl) ((sum_as b (bl b) (byts_bl HBL.out) _).mono fun e w' h => ⟨_, h.1, rfl, h2.next h.2⟩) (fun v w' h => h.2) ?_ AllReadyF.nil)
  rintro v w3 ⟨rfl, h3⟩ hS3
  clear h2
  simp only [Act.put, List.setIfInBounds_toArray, List.set_cons_zero, List.set_cons_succ]
  refine mf_one (i := 5) (d := 12) (.bool true) rfl rfl (by kernel_rfl) hS3 (y_neqK (by rfl) rfl Try.underlying40 rfl rfl HD.out) ?_
  simp only [Act.put, List.setIfInBounds_toArray, List.set_cons_zero, List.set_cons_succ]
  refine mf_done (by kernel_rfl) ?_
  have HI3 := Lib.hid h3
  have HA2 := Lib.hid (show At w3 (w.heap.size + 1) T 73 from HT.out ▸ h3.2.2)
  have HA1 := Lib.hid h3.2.1
  clear h3 hS3 HI HD
  go_wp2_with (first
    | (refine wpList_build_parts (by rfl) 73 [] rfl _ rfl hbt ?_)
    | (refine wpList_store_row rfl 73 _ _ rfl (w.heap.size + 1) T rfl rfl _ _ HA2.out (info_pg HTS.out) (by rw [← HT.out]) HZ1.out ?_)
    | fail)
  rw [HT.out]
  exact bodyPost_ret (v := .tuple #[.agg T, .int .i64 3]) (results_any_int rfl _ _ (w.heap.size + 1) T _ rfl rfl (At.setRow HA2.out) Try.underlying73 rfl (info_pg HTS.out)) rfl ⟨rfl, below_setRow' HI3.out.1 (by omega) _⟩

set_option maxHeartbeats 4000000 in
theorem read_no (b : List UInt8) (w : World) (hb : b.length = 64) (hs : SumOk b) (hf : ¬ (ps b).right) :
    Calls Try.prog 28 #[.agg (bl b)] w fun e w' => e = .returned (.tuple #[.agg (pgV Pv.zero), .int .i64 4]) ∧ Below w.heap.size w w' := by
  have HBL := Lib.hid hb
  have HD := Lib.hid (ne_false hs)
  have HN := Lib.hid hf
  clear hs hf
  have HI := Lib.hid (show PsI w b ((w.alloc (.cells (bl b) 69)).alloc (.cells (pgV Pv.zero) 73)) from ⟨below_second _ _ _, (At.new w (bl b) _).alloc _, at_second w _ _ _⟩)
  have HZ1 := Lib.hid (pgV_one Pv.zero)
  have hz := zero_pg
  have hzp := zero_api
  have hbt := built_z
  obtain ⟨T, hT⟩ : ∃ T, pgV Pv.zero = T := ⟨_, rfl⟩
  have HT := Lib.hid hT
  have hTs : T.size = 6 := by rw [← hT]; rfl
  have HTS := Lib.hid hTs
  rw [hT] at HZ1 hz hbt HI
  clear hb hTs
  go_enter Try.func28, Try.ntmps28
  go_wp2_with fail
  refine mf_start (PsI w b) (fun _ => false) HI.out.drew fun hS => ?_
  refine mf_yield (i := 0) (d := 7) (.slice ((some ⟨w.heap.size, 0, none⟩)) 4 64) rfl rfl (by kernel_rfl) (by kernel_rfl) (by kernel_rfl) (by kernel_rfl) hS (y_cuth (j := 4) (by rfl) rfl rfl rfl Try.underlying69 (by kernel_rfl) rfl (by omega)) ?_
  simp only [Act.put, List.setIfInBounds_toArray, List.set_cons_zero, List.set_cons_succ]
  refine mf_yield (i := 1) (d := 8) (.string ⟨((b.drop 0).take 4).toArray⟩) rfl rfl (by kernel_rfl) (by kernel_rfl) (by kernel_rfl) (by kernel_rfl) hS (y_text (by rfl) rfl rfl (fun w' h => h.2.1) (by rw [HBL.out]; omega)) ?_
  simp only [Act.put, List.setIfInBounds_toArray, List.set_cons_zero, List.set_cons_succ]
  refine mf_yield (i := 3) (d := 10) (.agg (bl b)) rfl rfl (by kernel_rfl) (by kernel_rfl) (by kernel_rfl) (by kernel_rfl) hS (y_load_w (by rfl) rfl rfl (fun w' h => h.2.1) Try.underlying69 rfl (info_api (by rw [bl_size, HBL.out]))) ?_
  simp only [Act.put, List.setIfInBounds_toArray, List.set_cons_zero, List.set_cons_succ]
  refine mf_ready [2] (by kernel_rfl) (by simp) (af_call (i := 2) (d := 9) (R := fun v w' => v = .int .u32 (fo b 0 : Nat) ∧ PsI w b w') #[.string ⟨((b.drop 0).take 4).toArray⟩] rfl rfl (by rfl) rfl enter_number (by kernel_rfl) ((number_fo b 0 4 HBL.out (by omega) (by omega) _).mono fun e w' h => ⟨_, h.1, rfl, h.2 ▸ hS⟩) (fun v w' h => h.2) ?_ AllReadyF.nil)
  rintro v w2 ⟨rfl, h2⟩ hS2
  clear hS hS2
  simp only [Act.put, List.setIfInBounds_toArray, List.set_cons_zero, List.set_cons_succ]
  refine mf_ready [4] (by kernel_rfl) (by simp) (af_call (i := 4) (d := 11) (R := fun v w' => v = .int .u32 (moreS 0 (b.drop 4) : Nat) ∧ PsI w b w') #[.agg (bl b)] rfl rfl (by rfl) rfl enter_sum (by kernel_rfl) ((sum_as b (bl b) (byts_bl HBL.out) _).mono fun e w' h => ⟨_, h.1, rfl, h2.next h.2⟩) (fun v w' h => h.2) ?_ AllReadyF.nil)
  rintro v w3 ⟨rfl, h3⟩ hS3
  clear h2
  simp only [Act.put, List.setIfInBounds_toArray, List.set_cons_zero, List.set_cons_succ]
  refine mf_one (i := 5) (d := 12) (.bool false) rfl rfl (by kernel_rfl) hS3 (y_neqK (by rfl) rfl Try.underlying40 rfl rfl HD.out) ?_
  simp only [Act.put, List.setIfInBounds_toArray, List.set_cons_zero, List.set_cons_succ]
  refine mf_done (by kernel_rfl) ?_
  have HI3 := Lib.hid h3
  have HA2 := Lib.hid (show At w3 (w.heap.size + 1) T 73 from HT.out ▸ h3.2.2)
  have HA1 := Lib.hid h3.2.1
  clear h3 hS3 HI HD
  go_wp2_with (first
    | (refine wpList_load_w rfl 69 _ rfl _ rfl HA1.out Try.underlying69 rfl (info_api (by rw [bl_size, HBL.out])) ?_)
    | fail)
  refine (parse_as b _ HBL.out).mono ?_
  rintro e w4 ⟨rfl, hb4⟩
  have HI4 := Lib.hid (HI3.out.next hb4)
  have HA4 := Lib.hid (HA2.out.below hb4 HA2.out.lt)
  obtain ⟨P, hP⟩ : ∃ P, pgV (ps b) = P := ⟨_, rfl⟩
  have HP := Lib.hid hP
  have HPS := Lib.hid (show P.size = 6 by rw [← hP]; rfl)
  have HPO := Lib.hid (show P.all (·.oneCell') = true by rw [← hP]; exact pgV_one _)
  rw [hP]
  clear hP hb4 HI3 HA1 HA2
  go_wp2_with (first
    | (refine wpList_store_row rfl 73 _ _ rfl w4.heap.size P rfl rfl _ _ (heap_alloc_new _ _) (info_pg HPS.out) (by rw [HPS.out, HTS.out]) HPO.out ?_)
    | (refine wpList_load_w rfl 73 _ rfl _ rfl (At.setRow (At.new _ _ _)) Try.underlying73 rfl (info_pg HPS.out) ?_)
    | fail)
  rw [World.setRow_alloc_new]
  have hb5 : Below w4.heap.size w4 (w4.alloc (.cells P 73)) := (Below.refl _ _).alloc (Nat.le_refl _) _
  have HI5 := Lib.hid (HI4.out.next hb5)
  have HA5 := Lib.hid (HA4.out.below hb5 HA4.out.lt)
  have HP5 := Lib.hid (At.new w4 P 73)
  have HG := Lib.hid (show w.heap.size + 1 < w4.heap.size from HA4.out.lt)
  clear hb5 HI4 HA4
  revert HI5 HA5 HP5 HG
  generalize World.alloc _ _ = W5
  generalize w4.heap.size = g
  intro HI5 HA5 HP5 HG
  obtain ⟨Z, hZ⟩ : ∃ Z, bl z64 = Z := ⟨_, rfl⟩
  have HLS := Lib.hid (show Z.size = 64 by rw [← hZ, bl_size, z64_len])
  have HZS := HLS
  have HLO := Lib.hid (show Z.all (·.oneCell') = true by rw [← hZ]; exact bl_one _)
  have HC := Lib.hid (lay_no (ps b) W5 (ps_len b) HN.out)
  rw [HP.out, hZ] at HC
  rw [hZ] at hzp
  clear hZ
  refine (HC.out).mono ?_
  rintro e w6 ⟨rfl, hb6⟩
  have HI6 := Lib.hid (HI5.out.next hb6)
  have HA6 := Lib.hid (HA5.out.below hb6 HA5.out.lt)
  have HP6 := Lib.hid (HP5.out.below hb6 HP5.out.lt)
  have hb7 : Below w6.heap.size w6 (w6.alloc (.cells Z 69)) := (Below.refl _ _).alloc (Nat.le_refl _) _
  have HI7 := Lib.hid (HI6.out.next hb7)
  have HA7 := Lib.hid (HA6.out.below hb7 HA6.out.lt)
  have HP7 := Lib.hid (HP6.out.below hb7 HP6.out.lt)
  have HB7 := Lib.hid HI7.out.2.1
  clear hb6 hb7 HI5 HA5 HP5 HI6 HA6 HP6
  go_wp2_with (first
    | (refine wpList_store_row rfl 69 _ _ rfl w6.heap.size Z rfl rfl _ _ (heap_alloc_new _ _) (info_api HLS.out) (by first | rfl | rw [HLS.out, HZS.out]) HLO.out ?_)
    | (refine wpList_store_row rfl 73 _ _ rfl (w.heap.size + 1) T rfl rfl _ _ (show At _ _ _ _ by first | exact HA7.out | (rw [World.setRow_alloc_new]; exact HA7.out)) (info_pg HTS.out) (by rw [← HT.out]) HZ1.out ?_)
    | (refine wpList_build_parts (by rfl) 73 [] rfl _ rfl hbt ?_)
    | fail)
  rw [World.setRow_alloc_new]
  rw [HT.out]
  exact bodyPost_ret (v := .tuple #[.agg T, .int .i64 4]) (results_any_int rfl _ _ (w.heap.size + 1) T _ rfl rfl (At.setRow HA7.out) Try.underlying73 rfl (info_pg HTS.out)) rfl ⟨rfl, below_setRow' HI7.out.1 (by omega) _⟩

set_option maxHeartbeats 4000000 in
theorem read_ne (b : List UInt8) (w : World) (hb : b.length = 64) (hs : SumOk b) (hf : (ps b).right) (hE : ∀ w, (Op.equalIn 10000 69 (.agg (bl (ps b).lay)) (.agg (bl b))).run Try.prog w = .ok false w) :
    Calls Try.prog 28 #[.agg (bl b)] w fun e w' => e = .returned (.tuple #[.agg (pgV Pv.zero), .int .i64 4]) ∧ Below w.heap.size w w' := by
  have HBL := Lib.hid hb
  have HD := Lib.hid (ne_false hs)
  have HN := Lib.hid hf
  clear hs hf
  have HI := Lib.hid (show PsI w b ((w.alloc (.cells (bl b) 69)).alloc (.cells (pgV Pv.zero) 73)) from ⟨below_second _ _ _, (At.new w (bl b) _).alloc _, at_second w _ _ _⟩)
  have HZ1 := Lib.hid (pgV_one Pv.zero)
  have hz := zero_pg
  have hzp := zero_api
  have hbt := built_z
  obtain ⟨T, hT⟩ : ∃ T, pgV Pv.zero = T := ⟨_, rfl⟩
  have HT := Lib.hid hT
  have hTs : T.size = 6 := by rw [← hT]; rfl
  have HTS := Lib.hid hTs
  rw [hT] at HZ1 hz hbt HI
  clear hb hTs
  go_enter Try.func28, Try.ntmps28
  go_wp2_with fail
  refine mf_start (PsI w b) (fun _ => false) HI.out.drew fun hS => ?_
  refine mf_yield (i := 0) (d := 7) (.slice ((some ⟨w.heap.size, 0, none⟩)) 4 64) rfl rfl (by kernel_rfl) (by kernel_rfl) (by kernel_rfl) (by kernel_rfl) hS (y_cuth (j := 4) (by rfl) rfl rfl rfl Try.underlying69 (by kernel_rfl) rfl (by omega)) ?_
  simp only [Act.put, List.setIfInBounds_toArray, List.set_cons_zero, List.set_cons_succ]
  refine mf_yield (i := 1) (d := 8) (.string ⟨((b.drop 0).take 4).toArray⟩) rfl rfl (by kernel_rfl) (by kernel_rfl) (by kernel_rfl) (by kernel_rfl) hS (y_text (by rfl) rfl rfl (fun w' h => h.2.1) (by rw [HBL.out]; omega)) ?_
  simp only [Act.put, List.setIfInBounds_toArray, List.set_cons_zero, List.set_cons_succ]
  refine mf_yield (i := 3) (d := 10) (.agg (bl b)) rfl rfl (by kernel_rfl) (by kernel_rfl) (by kernel_rfl) (by kernel_rfl) hS (y_load_w (by rfl) rfl rfl (fun w' h => h.2.1) Try.underlying69 rfl (info_api (by rw [bl_size, HBL.out]))) ?_
  simp only [Act.put, List.setIfInBounds_toArray, List.set_cons_zero, List.set_cons_succ]
  refine mf_ready [2] (by kernel_rfl) (by simp) (af_call (i := 2) (d := 9) (R := fun v w' => v = .int .u32 (fo b 0 : Nat) ∧ PsI w b w') #[.string ⟨((b.drop 0).take 4).toArray⟩] rfl rfl (by rfl) rfl enter_number (by kernel_rfl) ((number_fo b 0 4 HBL.out (by omega) (by omega) _).mono fun e w' h => ⟨_, h.1, rfl, h.2 ▸ hS⟩) (fun v w' h => h.2) ?_ AllReadyF.nil)
  rintro v w2 ⟨rfl, h2⟩ hS2
  clear hS hS2
  simp only [Act.put, List.setIfInBounds_toArray, List.set_cons_zero, List.set_cons_succ]
  refine mf_ready [4] (by kernel_rfl) (by simp) (af_call (i := 4) (d := 11) (R := fun v w' => v = .int .u32 (moreS 0 (b.drop 4) : Nat) ∧ PsI w b w') #[.agg (bl b)] rfl rfl (by rfl) rfl enter_sum (by kernel_rfl) ((sum_as b (bl b) (byts_bl HBL.out) _).mono fun e w' h => ⟨_, h.1, rfl, h2.next h.2⟩) (fun v w' h => h.2) ?_ AllReadyF.nil)
  rintro v w3 ⟨rfl, h3⟩ hS3
  clear h2
  simp only [Act.put, List.setIfInBounds_toArray, List.set_cons_zero, List.set_cons_succ]
  refine mf_one (i := 5) (d := 12) (.bool false) rfl rfl (by kernel_rfl) hS3 (y_neqK (by rfl) rfl Try.underlying40 rfl rfl HD.out) ?_
  simp only [Act.put, List.setIfInBounds_toArray, List.set_cons_zero, List.set_cons_succ]
  refine mf_done (by kernel_rfl) ?_
  have HI3 := Lib.hid h3
  have HA2 := Lib.hid (show At w3 (w.heap.size + 1) T 73 from HT.out ▸ h3.2.2)
  have HA1 := Lib.hid h3.2.1
  clear h3 hS3 HI HD
  go_wp2_with (first
    | (refine wpList_load_w rfl 69 _ rfl _ rfl HA1.out Try.underlying69 rfl (info_api (by rw [bl_size, HBL.out])) ?_)
    | fail)
  refine (parse_as b _ HBL.out).mono ?_
  rintro e w4 ⟨rfl, hb4⟩
  have HI4 := Lib.hid (HI3.out.next hb4)
  have HA4 := Lib.hid (HA2.out.below hb4 HA2.out.lt)
  obtain ⟨P, hP⟩ : ∃ P, pgV (ps b) = P := ⟨_, rfl⟩
  have HP := Lib.hid hP
  have HPS := Lib.hid (show P.size = 6 by rw [← hP]; rfl)
  have HPO := Lib.hid (show P.all (·.oneCell') = true by rw [← hP]; exact pgV_one _)
  rw [hP]
  clear hP hb4 HI3 HA1 HA2
  go_wp2_with (first
    | (refine wpList_store_row rfl 73 _ _ rfl w4.heap.size P rfl rfl _ _ (heap_alloc_new _ _) (info_pg HPS.out) (by rw [HPS.out, HTS.out]) HPO.out ?_)
    | (refine wpList_load_w rfl 73 _ rfl _ rfl (At.setRow (At.new _ _ _)) Try.underlying73 rfl (info_pg HPS.out) ?_)
    | fail)
  rw [World.setRow_alloc_new]
  have hb5 : Below w4.heap.size w4 (w4.alloc (.cells P 73)) := (Below.refl _ _).alloc (Nat.le_refl _) _
  have HI5 := Lib.hid (HI4.out.next hb5)
  have HA5 := Lib.hid (HA4.out.below hb5 HA4.out.lt)
  have HP5 := Lib.hid (At.new w4 P 73)
  have HG := Lib.hid (show w.heap.size + 1 < w4.heap.size from HA4.out.lt)
  clear hb5 HI4 HA4
  revert HI5 HA5 HP5 HG
  generalize World.alloc _ _ = W5
  generalize w4.heap.size = g
  intro HI5 HA5 HP5 HG
  have hpo := ps_ok b
  have HLL := Lib.hid (Pv.lay_length HN.out)
  obtain ⟨X, hX⟩ : ∃ X, bl (ps b).lay = X := ⟨_, rfl⟩
  obtain ⟨Z, hZ⟩ : ∃ Z, bl z64 = Z := ⟨_, rfl⟩
  have HLS := Lib.hid (show X.size = 64 by rw [← hX, bl_size, HLL.out])
  have HZS := Lib.hid (show Z.size = 64 by rw [← hZ, bl_size, z64_len])
  have HLO := Lib.hid (show X.all (·.oneCell') = true by rw [← hX]; exact bl_one _)
  have HC := Lib.hid (lay_yes (ps b) W5 (ps_len b) hpo HN.out)
  rw [HP.out, hX] at HC
  rw [hX] at hE
  rw [hZ] at hzp
  have HBO := Lib.hid (show (bl b).size = 64 by rw [bl_size, HBL.out])
  clear hZ hX hpo
  refine (HC.out).mono ?_
  rintro e w6 ⟨rfl, hb6⟩
  have HI6 := Lib.hid (HI5.out.next hb6)
  have HA6 := Lib.hid (HA5.out.below hb6 HA5.out.lt)
  have HP6 := Lib.hid (HP5.out.below hb6 HP5.out.lt)
  have hb7 : Below w6.heap.size w6 (w6.alloc (.cells X 69)) := (Below.refl _ _).alloc (Nat.le_refl _) _
  have HI7 := Lib.hid (HI6.out.next hb7)
  have HA7 := Lib.hid (HA6.out.below hb7 HA6.out.lt)
  have HP7 := Lib.hid (HP6.out.below hb7 HP6.out.lt)
  have HB7 := Lib.hid HI7.out.2.1
  clear hb6 hb7 HI5 HA5 HP5 HI6 HA6 HP6
  go_wp2_with (first
    | (refine wpList_store_row rfl 69 _ _ rfl w6.heap.size X rfl rfl _ _ (heap_alloc_new _ _) (info_api HLS.out) (by first | rfl | rw [HLS.out, HZS.out]) HLO.out ?_)
    | (refine wpList_load_w rfl 69 _ rfl _ rfl (At.setRow (At.new _ _ _)) Try.underlying69 rfl (info_api HLS.out) ?_)
    | (refine wpList_load_w rfl 69 _ rfl _ rfl (show At _ w.heap.size (bl b) _ by rw [World.setRow_alloc_new]; exact HB7.out) Try.underlying69 rfl (info_api HBO.out) ?_)
    | (refine wpList_load_w rfl 73 _ rfl _ rfl (show At _ g P _ by rw [World.setRow_alloc_new]; exact HP7.out) Try.underlying73 rfl (info_pg HPS.out) ?_)
    | (refine wpList_store_row rfl 73 _ _ rfl (w.heap.size + 1) P rfl rfl _ _ (show At _ _ _ _ by rw [World.setRow_alloc_new]; exact HA7.out) (info_pg HPS.out) (by rw [HPS.out, HTS.out]) HPO.out ?_)
    | (refine wpList_store_row rfl 73 _ _ rfl (w.heap.size + 1) T rfl rfl _ _ (show At _ _ _ _ by rw [World.setRow_alloc_new]; exact HA7.out) (info_pg HTS.out) (by rw [← HT.out]) HZ1.out ?_)
    | (refine wpList_build_parts (by rfl) 73 [] rfl _ rfl hbt ?_)
    | fail)
  rw [World.setRow_alloc_new]
  rw [HT.out]
  exact bodyPost_ret (v := .tuple #[.agg T, .int .i64 4]) (results_any_int rfl _ _ (w.heap.size + 1) T _ rfl rfl (At.setRow HA7.out) Try.underlying73 rfl (info_pg HTS.out)) rfl ⟨rfl, below_setRow' HI7.out.1 (by omega) _⟩

set_option maxHeartbeats 4000000 in
theorem read_eq (b : List UInt8) (w : World) (hb : b.length = 64) (hs : SumOk b) (hf : (ps b).right) (hE : ∀ w, (Op.equalIn 10000 69 (.agg (bl (ps b).lay)) (.agg (bl b))).run Try.prog w = .ok true w) :
    Calls Try.prog 28 #[.agg (bl b)] w fun e w' => e = .returned (.tuple #[.agg (pgV (ps b)), .int .i64 0]) ∧ Below w.heap.size w w' := by
  have HBL := Lib.hid hb
  have HD := Lib.hid (ne_false hs)
  have HN := Lib.hid hf
  clear hs hf
  have HI := Lib.hid (show PsI w b ((w.alloc (.cells (bl b) 69)).alloc (.cells (pgV Pv.zero) 73)) from ⟨below_second _ _ _, (At.new w (bl b) _).alloc _, at_second w _ _ _⟩)
  have HZ1 := Lib.hid (pgV_one Pv.zero)
  have hz := zero_pg
  have hzp := zero_api
  have hbt := built_z
  obtain ⟨T, hT⟩ : ∃ T, pgV Pv.zero = T := ⟨_, rfl⟩
  have HT := Lib.hid hT
  have hTs : T.size = 6 := by rw [← hT]; rfl
  have HTS := Lib.hid hTs
  rw [hT] at HZ1 hz hbt HI
  clear hb hTs
  go_enter Try.func28, Try.ntmps28
  go_wp2_with fail
  refine mf_start (PsI w b) (fun _ => false) HI.out.drew fun hS => ?_
  refine mf_yield (i := 0) (d := 7) (.slice ((some ⟨w.heap.size, 0, none⟩)) 4 64) rfl rfl (by kernel_rfl) (by kernel_rfl) (by kernel_rfl) (by kernel_rfl) hS (y_cuth (j := 4) (by rfl) rfl rfl rfl Try.underlying69 (by kernel_rfl) rfl (by omega)) ?_
  simp only [Act.put, List.setIfInBounds_toArray, List.set_cons_zero, List.set_cons_succ]
  refine mf_yield (i := 1) (d := 8) (.string ⟨((b.drop 0).take 4).toArray⟩) rfl rfl (by kernel_rfl) (by kernel_rfl) (by kernel_rfl) (by kernel_rfl) hS (y_text (by rfl) rfl rfl (fun w' h => h.2.1) (by rw [HBL.out]; omega)) ?_
  simp only [Act.put, List.setIfInBounds_toArray, List.set_cons_zero, List.set_cons_succ]
  refine mf_yield (i := 3) (d := 10) (.agg (bl b)) rfl rfl (by kernel_rfl) (by kernel_rfl) (by kernel_rfl) (by kernel_rfl) hS (y_load_w (by rfl) rfl rfl (fun w' h => h.2.1) Try.underlying69 rfl (info_api (by rw [bl_size, HBL.out]))) ?_
  simp only [Act.put, List.setIfInBounds_toArray, List.set_cons_zero, List.set_cons_succ]
  refine mf_ready [2] (by kernel_rfl) (by simp) (af_call (i := 2) (d := 9) (R := fun v w' => v = .int .u32 (fo b 0 : Nat) ∧ PsI w b w') #[.string ⟨((b.drop 0).take 4).toArray⟩] rfl rfl (by rfl) rfl enter_number (by kernel_rfl) ((number_fo b 0 4 HBL.out (by omega) (by omega) _).mono fun e w' h => ⟨_, h.1, rfl, h.2 ▸ hS⟩) (fun v w' h => h.2) ?_ AllReadyF.nil)
  rintro v w2 ⟨rfl, h2⟩ hS2
  clear hS hS2
  simp only [Act.put, List.setIfInBounds_toArray, List.set_cons_zero, List.set_cons_succ]
  refine mf_ready [4] (by kernel_rfl) (by simp) (af_call (i := 4) (d := 11) (R := fun v w' => v = .int .u32 (moreS 0 (b.drop 4) : Nat) ∧ PsI w b w') #[.agg (bl b)] rfl rfl (by rfl) rfl enter_sum (by kernel_rfl) ((sum_as b (bl b) (byts_bl HBL.out) _).mono fun e w' h => ⟨_, h.1, rfl, h2.next h.2⟩) (fun v w' h => h.2) ?_ AllReadyF.nil)
  rintro v w3 ⟨rfl, h3⟩ hS3
  clear h2
  simp only [Act.put, List.setIfInBounds_toArray, List.set_cons_zero, List.set_cons_succ]
  refine mf_one (i := 5) (d := 12) (.bool false) rfl rfl (by kernel_rfl) hS3 (y_neqK (by rfl) rfl Try.underlying40 rfl rfl HD.out) ?_
  simp only [Act.put, List.setIfInBounds_toArray, List.set_cons_zero, List.set_cons_succ]
  refine mf_done (by kernel_rfl) ?_
  have HI3 := Lib.hid h3
  have HA2 := Lib.hid (show At w3 (w.heap.size + 1) T 73 from HT.out ▸ h3.2.2)
  have HA1 := Lib.hid h3.2.1
  clear h3 hS3 HI HD
  go_wp2_with (first
    | (refine wpList_load_w rfl 69 _ rfl _ rfl HA1.out Try.underlying69 rfl (info_api (by rw [bl_size, HBL.out])) ?_)
    | fail)
  refine (parse_as b _ HBL.out).mono ?_
  rintro e w4 ⟨rfl, hb4⟩
  have HI4 := Lib.hid (HI3.out.next hb4)
  have HA4 := Lib.hid (HA2.out.below hb4 HA2.out.lt)
  obtain ⟨P, hP⟩ : ∃ P, pgV (ps b) = P := ⟨_, rfl⟩
  have HP := Lib.hid hP
  have HPS := Lib.hid (show P.size = 6 by rw [← hP]; rfl)
  have HPO := Lib.hid (show P.all (·.oneCell') = true by rw [← hP]; exact pgV_one _)
  rw [hP]
  clear hP hb4 HI3 HA1 HA2
  go_wp2_with (first
    | (refine wpList_store_row rfl 73 _ _ rfl w4.heap.size P rfl rfl _ _ (heap_alloc_new _ _) (info_pg HPS.out) (by rw [HPS.out, HTS.out]) HPO.out ?_)
    | (refine wpList_load_w rfl 73 _ rfl _ rfl (At.setRow (At.new _ _ _)) Try.underlying73 rfl (info_pg HPS.out) ?_)
    | fail)
  rw [World.setRow_alloc_new]
  have hb5 : Below w4.heap.size w4 (w4.alloc (.cells P 73)) := (Below.refl _ _).alloc (Nat.le_refl _) _
  have HI5 := Lib.hid (HI4.out.next hb5)
  have HA5 := Lib.hid (HA4.out.below hb5 HA4.out.lt)
  have HP5 := Lib.hid (At.new w4 P 73)
  have HG := Lib.hid (show w.heap.size + 1 < w4.heap.size from HA4.out.lt)
  clear hb5 HI4 HA4
  revert HI5 HA5 HP5 HG
  generalize World.alloc _ _ = W5
  generalize w4.heap.size = g
  intro HI5 HA5 HP5 HG
  have hpo := ps_ok b
  have HLL := Lib.hid (Pv.lay_length HN.out)
  obtain ⟨X, hX⟩ : ∃ X, bl (ps b).lay = X := ⟨_, rfl⟩
  obtain ⟨Z, hZ⟩ : ∃ Z, bl z64 = Z := ⟨_, rfl⟩
  have HLS := Lib.hid (show X.size = 64 by rw [← hX, bl_size, HLL.out])
  have HZS := Lib.hid (show Z.size = 64 by rw [← hZ, bl_size, z64_len])
  have HLO := Lib.hid (show X.all (·.oneCell') = true by rw [← hX]; exact bl_one _)
  have HC := Lib.hid (lay_yes (ps b) W5 (ps_len b) hpo HN.out)
  rw [HP.out, hX] at HC
  rw [hX] at hE
  rw [hZ] at hzp
  have HBO := Lib.hid (show (bl b).size = 64 by rw [bl_size, HBL.out])
  clear hZ hX hpo
  refine (HC.out).mono ?_
  rintro e w6 ⟨rfl, hb6⟩
  have HI6 := Lib.hid (HI5.out.next hb6)
  have HA6 := Lib.hid (HA5.out.below hb6 HA5.out.lt)
  have HP6 := Lib.hid (HP5.out.below hb6 HP5.out.lt)
  have hb7 : Below w6.heap.size w6 (w6.alloc (.cells X 69)) := (Below.refl _ _).alloc (Nat.le_refl _) _
  have HI7 := Lib.hid (HI6.out.next hb7)
  have HA7 := Lib.hid (HA6.out.below hb7 HA6.out.lt)
  have HP7 := Lib.hid (HP6.out.below hb7 HP6.out.lt)
  have HB7 := Lib.hid HI7.out.2.1
  clear hb6 hb7 HI5 HA5 HP5 HI6 HA6 HP6
  go_wp2_with (first
    | (refine wpList_store_row rfl 69 _ _ rfl w6.heap.size X rfl rfl _ _ (heap_alloc_new _ _) (info_api HLS.out) (by first | rfl | rw [HLS.out, HZS.out]) HLO.out ?_)
    | (refine wpList_load_w rfl 69 _ rfl _ rfl (At.setRow (At.new _ _ _)) Try.underlying69 rfl (info_api HLS.out) ?_)
    | (refine wpList_load_w rfl 69 _ rfl _ rfl (show At _ w.heap.size (bl b) _ by rw [World.setRow_alloc_new]; exact HB7.out) Try.underlying69 rfl (info_api HBO.out) ?_)
    | (refine wpList_load_w rfl 73 _ rfl _ rfl (show At _ g P _ by rw [World.setRow_alloc_new]; exact HP7.out) Try.underlying73 rfl (info_pg HPS.out) ?_)
    | (refine wpList_store_row rfl 73 _ _ rfl (w.heap.size + 1) P rfl rfl _ _ (show At _ _ _ _ by rw [World.setRow_alloc_new]; exact HA7.out) (info_pg HPS.out) (by rw [HPS.out, HTS.out]) HPO.out ?_)
    | (refine wpList_store_row rfl 73 _ _ rfl (w.heap.size + 1) T rfl rfl _ _ (show At _ _ _ _ by rw [World.setRow_alloc_new]; exact HA7.out) (info_pg HTS.out) (by rw [← HT.out]) HZ1.out ?_)
    | (refine wpList_build_parts (by rfl) 73 [] rfl _ rfl hbt ?_)
    | fail)
  rw [World.setRow_alloc_new]
  rw [HP.out]
  exact bodyPost_ret (v := .tuple #[.agg P, .int .i64 0]) (results_any_int rfl _ _ (w.heap.size + 1) P _ rfl rfl (At.setRow HA7.out) Try.underlying73 rfl (info_pg HPS.out)) rfl ⟨rfl, below_setRow' HI7.out.1 (by omega) _⟩

theorem same_rows {l m : List UInt8} (hl : l.length = 64) (hm : m.length = 64) : ∃ r : Bool, (r = true ↔ l = m) ∧ ∀ w, (Op.equalIn 10000 69 (.agg (bl l)) (.agg (bl m))).run Try.prog w = .ok r w := by
  obtain ⟨r, h1, h2⟩ := rows8_is (bl_row l hl) (bl_row m hm) Try.underlying69 Try.underlying5 (by kernel_rfl)
  refine ⟨r, h1.trans ⟨fun h => ?_, fun h i _ => by rw [h]⟩, h2⟩
  exact bl_inj ((bl_row l hl).eq (bl_row m hm) h)
instance (b : List UInt8) : Decidable (SumOk b) := by unfold SumOk; infer_instance
instance (b : List UInt8) : Decidable (FormOk b) :=
  decidable_of_iff (1 ≤ B b 12 ∧ B b 12 ≤ 2 ∧ B b 13 ≤ 3 ∧ (B b 12 = 1 → B b 13 = 0) ∧ 1 ≤ B b 14 ∧ B b 14 ≤ 49 ∧ ∀ i, i < 64 → 15 + B b 14 ≤ i → B b i = 0)
    ⟨fun h => ⟨h.1, h.2.1, h.2.2.1, h.2.2.2.1, h.2.2.2.2.1, h.2.2.2.2.2.1, fun i h1 h2 => h.2.2.2.2.2.2 i h2 h1⟩, fun h => ⟨h.1, h.2.1, h.2.2.1, h.2.2.2.1, h.2.2.2.2.1, h.2.2.2.2.2.1, fun i h1 h2 => h.2.2.2.2.2.2 i h2 h1⟩⟩
/-- What Read answers. -/
def rdV (b : List UInt8) : Pv := if SumOk b ∧ FormOk b then pg b else Pv.zero
def rdE (b : List UInt8) : Nat := if SumOk b then if FormOk b then 0 else 4 else 3
theorem rd_yes {b : List UInt8} (hs : SumOk b) (hf : FormOk b) : rdV b = pg b ∧ rdE b = 0 := by
  unfold rdV rdE
  rw [if_pos ⟨hs, hf⟩, if_pos hs, if_pos hf]
  exact ⟨rfl, rfl⟩
theorem rd_form {b : List UInt8} (hs : SumOk b) (hf : ¬ FormOk b) : rdV b = Pv.zero ∧ rdE b = 4 := by
  unfold rdV rdE
  rw [if_neg (fun h => hf h.2), if_pos hs, if_neg hf]
  exact ⟨rfl, rfl⟩
theorem rd_sum {b : List UInt8} (hs : ¬ SumOk b) : rdV b = Pv.zero ∧ rdE b = 3 := by
  unfold rdV rdE
  rw [if_neg (fun h => hs h.1), if_neg hs]
  exact ⟨rfl, rfl⟩
theorem ps_pg {b : List UInt8} (h : FormOk b) : ps b = pg b := by
  obtain ⟨h1, h2, h3, h4, h5, h6, h7⟩ := h
  unfold ps pg
  rw [show min (B b 14) 49 = B b 14 from by omega]
  congr 1
  apply decide_eq_decide.2
  omega
theorem read_as (b : List UInt8) (w : World) (hb : b.length = 64) :
    Calls Try.prog 28 #[.agg (bl b)] w fun e w' => e = .returned (.tuple #[.agg (pgV (rdV b)), .int .i64 (rdE b)]) ∧ Below w.heap.size w w' := by
  by_cases hs : SumOk b
  · by_cases hr : (ps b).right
    · obtain ⟨r, h1, hE⟩ := same_rows (Pv.lay_length hr) hb
      cases r with
      | true =>
        have hf : FormOk b := by have := form_lay hr; rwa [h1.1 rfl] at this
        rw [(rd_yes hs hf).1, (rd_yes hs hf).2, ← ps_pg hf]
        exact read_eq b w hb hs hr hE
      | false =>
        have hf : ¬ FormOk b := fun hf => by
          have : (ps b).lay = b := by rw [ps_pg hf]; exact lay_pg hb hs hf
          exact Bool.false_ne_true (h1.2 this)
        rw [(rd_form hs hf).1, (rd_form hs hf).2]
        exact read_ne b w hb hs hr hE
    · have hf : ¬ FormOk b := fun hf => hr (by rw [ps_pg hf]; exact (pg_right hb hf).1)
      rw [(rd_form hs hf).1, (rd_form hs hf).2]
      exact read_no b w hb hs hr
  · rw [(rd_sum hs).1, (rd_sum hs).2]
    exact read_sum b w hb hs
/-- What Lay answers. -/
theorem lay_as (p : Pv) (w : World) (hd : p.d.length ≤ maxLen) (ho : p.Ok) :
    Calls Try.prog 42 #[.agg (pgV p)] w fun e w' => e = .returned (.tuple #[.agg (bl (if p.right then p.lay else z64)), .int .i64 (if p.right then 0 else 1)]) ∧ Below w.heap.size w w' := by
  by_cases h : p.right
  · rw [if_pos h, if_pos h]; exact lay_yes p w hd ho h
  · rw [if_neg h, if_neg h]; exact lay_no p w hd h
end Go.Proofs.Ytbbeekpndhfpjaa.Pa
end
