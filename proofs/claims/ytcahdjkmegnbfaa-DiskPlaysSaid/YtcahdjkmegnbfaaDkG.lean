/- What the statements follow: a disk of eight sectors, and what lies in each once those writes are laid of which kept says so; an act's parts as they stand; [8]Page as eight pages. -/
import Derived.Test.YtcahdjkmegnbfaaDkW
set_option maxRecDepth 100000
set_option linter.unusedVariables false
set_option linter.unusedSimpArgs false
namespace Go.Proofs.Ytcahdjkmegnbfaa.Dk
open Go.RowKit Go.Proofs.Ytcahdjkmegnbfaa.Row

/-- A disk of eight sectors that is up; its fuse is u, k writes aren't sure; those laid of which kept says so, F lies in its sectors. -/
structure Gd (kept : Nat → Bool) (d : Dsk) (u : Int) (k : Nat) (F : Nat → Array Value) : Prop where
  size : d.size = 8
  down : d.down = false
  fuse : d.fuse = u
  n : d.n = k
  lies : ∀ j : Nat, j < 8 → lay kept d.sure d.sec d.pg d.n j = F j
/-- F, but P in sector j. -/
def upd (F : Nat → Array Value) (j : Nat) (P : Array Value) (i : Nat) : Array Value := if i = j then P else F i
section
variable {kept : Nat → Bool} {d : Dsk} {u : Int} {k : Nat} {F : Nat → Array Value}
theorem Gd.fresh (kept : Nat → Bool) : Gd kept (fresh zP 8) (-1) 0 (fun _ => zP) := ⟨rfl, rfl, rfl, rfl, fun _ _ => rfl⟩
theorem Gd.reach (h : Gd kept d u k F) {j : Nat} (hj : j < 8) : d.reach j = 0 := (Dsk.reach_all d j).2.1 h.down (by omega) (by rw [h.size]; omega)
theorem Gd.seen (h : Gd allB d u k F) {j : Nat} (hj : j < 8) : d.seen j = F j := by rw [← Dsk.seen_all]; exact h.lies j hj
theorem Gd.readP (h : Gd kept d u k F) {j : Nat} (hj : j < 8) : d.readP zP j = d.seen j := by unfold Dsk.readP; rw [if_pos (h.reach hj)]
theorem Gd.readD (h : Gd kept d u k F) (i : Int) : Gd kept (d.readD i) u k F := by
  unfold Dsk.readD
  split
  · exact ⟨h.size, h.down, h.fuse, h.n, h.lies⟩
  · exact h
theorem Gd.writeE (h : Gd kept d u k F) {j : Nat} (hj : j < 8) : d.writeE j = if u = 0 then 6 else 0 := by unfold Dsk.writeE; rw [if_pos (h.reach hj), h.fuse]
theorem Gd.writeD (h : Gd kept d u k F) {j : Nat} (hj : j < 8) (P : Array Value) (hu : u ≠ 0) : Gd kept (d.writeD j P) (if 0 < u then u - 1 else u) (k + 1) (if kept k = true then upd F j P else F) := by
  unfold Dsk.writeD
  rw [if_pos (by rw [h.writeE hj, if_neg hu])]
  refine ⟨h.size, h.down, ?_, by show d.n + 1 = k + 1; rw [h.n], fun i hi => ?_⟩
  · show (if 0 < d.fuse then d.fuse - 1 else d.fuse) = _
    rw [h.fuse]
  · have e := h.lies i hi
    have hl := h.n
    show lay kept d.sure (fun q => if q = d.n then (j : Int) else d.sec q) (fun q => if q = d.n then P else d.pg q) (d.n + 1) i = _
    rw [lay]
    simp only [if_true]
    have e2 : lay kept d.sure (fun q => if q = d.n then (j : Int) else d.sec q) (fun q => if q = d.n then P else d.pg q) d.n i = F i := by
      rw [← e]
      exact lay_ext rfl fun q hq => ⟨rfl, by rw [if_neg (by omega)], by rw [if_neg (by omega)]⟩
    rw [e2, hl]
    by_cases hk : kept k = true
    · rw [if_pos hk]
      unfold upd
      by_cases hij : i = j
      · rw [if_pos ⟨hk, by omega⟩, if_pos hij]
      · rw [if_neg (fun hc => hij (by omega)), if_neg hij]
    · rw [if_neg hk, if_neg (fun hc => hk hc.1)]
theorem Gd.write_no (h : Gd kept d u k F) {j : Nat} (hj : j < 8) (P : Array Value) (hu : u = 0) : d.writeD j P = d := by
  unfold Dsk.writeD
  rw [if_neg (by rw [h.writeE hj, if_pos hu]; omega)]
theorem Gd.syncE (h : Gd kept d u k F) : d.syncE = if u = 0 then 6 else 0 := by unfold Dsk.syncE; rw [h.down, if_neg (by simp), h.fuse]
theorem Gd.syncD (h : Gd allB d u k F) (kept : Nat → Bool) (hu : u ≠ 0) : Gd kept d.syncD (if 0 < u then u - 1 else u) 0 F := by
  unfold Dsk.syncD
  rw [if_pos (by rw [h.syncE, if_neg hu])]
  exact ⟨h.size, h.down, by show (if 0 < d.fuse then d.fuse - 1 else d.fuse) = _; rw [h.fuse], rfl, h.lies⟩
theorem Gd.sync_no (h : Gd kept d u k F) (hu : u = 0) : d.syncD = d := by
  unfold Dsk.syncD
  rw [if_neg (by rw [h.syncE, if_pos hu]; omega)]
/-- The power goes, those are kept; it is up again. -/
theorem Gd.crash (h : Gd kept d u k F) (kept' : Nat → Bool) : Gd kept' (d.crashed kept).upped u 0 F := ⟨h.size, rfl, h.fuse, rfl, h.lies⟩
theorem Gd.fused (h : Gd kept d u k F) (v : Int) : Gd kept (d.fused v) v k F := ⟨h.size, h.down, rfl, h.n, h.lies⟩
theorem Gd.ext (h : Gd kept d u k F) {G : Nat → Array Value} (e : ∀ j, j < 8 → F j = G j) : Gd kept d u k G := ⟨h.size, h.down, h.fuse, h.n, fun j hj => by rw [h.lies j hj, e j hj]⟩
/-- Kept alike, as far as there are writes. -/
theorem Gd.as (h : Gd kept d u k F) {kept' : Nat → Bool} (e : ∀ i, i < k → kept i = kept' i) : Gd kept' d u k F :=
  ⟨h.size, h.down, h.fuse, h.n, fun j hj => by rw [← h.lies j hj]; exact lay_ext rfl fun q hq => ⟨(e q (by rw [← h.n]; exact hq)).symm, rfl, rfl⟩⟩
end

/-- An act's parts stand at o of block b. -/
def AcV (w : World) (b o : Nat) (op pl : Int) (P : Array Value) (ka : Option Addr) (kn kc : Nat) : Prop :=
  w.cell? ⟨b, o, none⟩ = some (.int .u8 op) ∧ w.cell? ⟨b, o + 1, none⟩ = some (.int .i64 pl) ∧ w.rangeAt b (o + 2) P.toList ∧ w.cell? ⟨b, o + 66, none⟩ = some (.slice ka kn kc)
theorem AcV.below {w w' : World} {b o : Nat} {op pl : Int} {P : Array Value} {ka : Option Addr} {kn kc : Nat} (h : AcV w b o op pl P ka kn kc) (hb : Below w.heap.size w w') : AcV w' b o op pl P ka kn kc :=
  ⟨(Below.cell hb (block_lt_of_cell h.1)).trans h.1, (Below.cell hb (block_lt_of_cell h.2.1)).trans h.2.1, fun j v hv => (Below.cell hb (block_lt_of_cell (h.2.2.1 j v hv))).trans (h.2.2.1 j v hv), (Below.cell hb (block_lt_of_cell h.2.2.2)).trans h.2.2.2⟩
/-- The k-th of the acts. -/
theorem SlA.act {w : World} {a : Option Addr} {n c : Nat} {A : Nat → Ac} (h : SlA w a n c A) (hok : ∀ i, i < n → AcOk (A i)) {k : Nat} (hk : k < n) :
    ∃ (b lo o : Nat) (P : Array Value), a = some ⟨b, lo, none⟩ ∧ lo + k * 67 = o ∧ b < w.heap.size ∧ IsRow8 64 (A k).pg P ∧ AcV w b o (A k).op (A k).pl P (A k).ka (A k).kn (A k).kc := by
  obtain ⟨b, lo, e, hat⟩ := h.2.2 (by omega)
  have ha := hat k hk
  exact ⟨b, lo, _, _, e, rfl, block_lt_of_cell ha.1, isRow8 64 (A k).pg, ha.1, ha.2.1, ha.range (isRow8 64 (A k).pg), ha.2.2.2.1⟩
theorem pl_mod (pl : Int) : ∃ j : Nat, j < 8 ∧ bits .and .i64 pl 7 = (j : Int) := ⟨(pl % 8).toNat, by omega, by rw [i64_and7]; omega⟩
theorem wf_nat {j : Nat} (h : j ≤ 1000000) : (Lit.int .i64 (j : Int)).wf = true := WalkArith.wf_i64 (by omega)
theorem fld_a0 : FldO 39 0 0 := fldO Try.underlying39 rfl rfl (s := 1) (by kernel_rfl) (by omega)
theorem fld_a1 : FldO 39 1 1 := fldO Try.underlying39 rfl rfl (s := 1) (by kernel_rfl) (by omega)
theorem fld_a2 : FldO 39 2 2 := fldO Try.underlying39 rfl rfl (s := 64) (by kernel_rfl) (by omega)
theorem fld_a3 : FldO 39 3 66 := fldO Try.underlying39 rfl rfl (s := 1) (by kernel_rfl) (by omega)
theorem y_and {ops : Array Oper} {S : World → Prop} {a : Act} {oi : Oper} {t t' : TypeId} {y z : Operand} {m n r : Int} (hw : Region.wanted oi (yielded ops a.tmps) = true) (ho : oi.op = .binOp .and t y z t') (hy : a.eval y = .int .i64 m) (hz : a.eval z = .int .i64 n) (hr : bits .and .i64 m n = r) : YieldsIf Try.prog ops S oi (.int .i64 r) a :=
  y_run hw fun w => by
    unfold execOp
    simp only [ho, hy, hz]
    simp [go_sem, ← hr]
theorem y_neo {ops : Array Oper} {S : World → Prop} {a : Act} {oi : Oper} {t : TypeId} {y z : Operand} {m n : Int} {b : Bool} (hw : Region.wanted oi (yielded ops a.tmps) = true) (ho : oi.op = .binOp .neq 26 y z t) (hy : a.eval y = .int .i64 m) (hz : a.eval z = .int .i64 n) (hb : (m != n) = b) : YieldsIf Try.prog ops S oi (.bool b) a :=
  y_run hw fun w => by
    unfold execOp
    simp only [ho, hy, hz]
    simp [go_sem, ← hb]

/-- Eight pages in a block. -/
def Pgs (G : Nat → Prop) (w : World) (g : Nat) (F : Nat → Array Value) : Prop := G g ∧ Els w 0 52 64 (some ⟨g, 0, none⟩) 8 8 F ∧ ∀ j, j < 8 → Pag (F j)
theorem Pgs.kp {G : Nat → Prop} {w w' : World} {g : Nat} {F : Nat → Array Value} (h : Pgs G w g F) (k : Kp G w w') : Pgs G w' g F := ⟨h.1, k.els (fun k hk => by have : some g = some k := hk; injection this with this; exact this ▸ h.1) h.2.1, h.2.2⟩
theorem Pgs.sub {G H : Nat → Prop} {w : World} {g : Nat} {F : Nat → Array Value} (h : Pgs G w g F) (hH : ∀ k, G k → H k) : Pgs H w g F := ⟨hH _ h.1, h.2⟩
theorem Pgs.alloc {G : Nat → Prop} {w : World} {g : Nat} {F : Nat → Array Value} (h : Pgs G w g F) (o : Obj) : Pgs (Plus G w.heap.size) (w.alloc o) g F :=
  ⟨.inl h.1, h.2.1.below ((Below.refl _ _).alloc (Nat.le_refl _) o), h.2.2⟩
theorem Pgs.range {G : Nat → Prop} {w : World} {g : Nat} {F : Nat → Array Value} (h : Pgs G w g F) {j : Nat} (hj : j < 8) : w.rangeAt g (j * 64) (F j).toList := h.2.1.range hj
theorem Pgs.drew {G : Nat → Prop} {w : World} {g : Nat} {F : Nat → Array Value} (h : Pgs G w g F) : Pgs G w.drew g F := h
/-- A page stored among them. -/
theorem Pgs.stored {G : Nat → Prop} {w : World} {g : Nat} {F : Nat → Array Value} (h : Pgs G w g F) {j : Nat} (hj : j < 8) {P : Array Value} (hP : Pag P) :
    ∃ C, w.setCells g (j * 64) P.toList = w.setRow g C ∧ Pgs G (w.setRow g C) g (upd F j P) := by
  obtain ⟨C, h1, h2⟩ := h.2.1.stored hj ⟨hP.size, hP.one⟩
  refine ⟨C, h1, h.1, h2, fun i hi => ?_⟩
  unfold upd
  split
  · exact hP
  · exact h.2.2 i hi
theorem Pgs.there {G : Nat → Prop} {w : World} {g : Nat} {F : Nat → Array Value} (h : Pgs G w g F) {j : Nat} (hj : j < 8) : w.there g (j * 64) 64 := fun q hq => by
  have hr := h.range hj
  have hs := (h.2.2 j hj).size
  obtain ⟨v, hv⟩ : ∃ v, (F j).toList[q]? = some v := ⟨_, List.getElem?_eq_getElem (by rw [Array.length_toList, hs]; exact hq)⟩
  have hc := hr q v hv
  refine ⟨by rw [hc]; rfl, ?_⟩
  obtain ⟨_, _, ⟨e, _⟩ | ⟨g', cap, cur, e, _, h4, _⟩⟩ := h.2.1
  · cases e
  · simp only [Value.slice.injEq, Option.some.injEq, Addr.mk.injEq] at e
    obtain ⟨⟨rfl, _⟩, _⟩ := e
    exact frozen_of_row _ _ _ _ _ h4
/-- The eight pages that an array begins with. -/
def z8 : Array Value := (elL (fun _ => zP) 8).toArray
theorem zero_8 (w : World) : (zeroValue 52).run Try.prog w = .ok (.agg z8) w := by kernel_rfl
theorem wid_z (n : Nat) : Wid 64 (fun _ => zP) n := fun _ _ => ⟨pag_z.size, pag_z.one⟩
theorem Pgs.new {G : Nat → Prop} (w : World) : Pgs (Plus G w.heap.size) (w.alloc (.cells z8 52)) w.heap.size (fun _ => zP) := by
  refine ⟨.inr rfl, ⟨wid_z 8, elL_length (wid_z 8), .inr ⟨_, 8, z8, rfl, Nat.zero_le _, heap_alloc_new _ _, Nat.le_refl _, by unfold maxLen; omega, ?_, ?_⟩⟩, fun _ _ => pag_z⟩
  · unfold z8; rw [List.size_toArray, elL_length (wid_z 8)]
  · unfold z8
    rw [List.take_of_length_le (by rw [elL_length (wid_z 8)]; omega)]
theorem Pgs.ext {G : Nat → Prop} {w : World} {g : Nat} {F H : Nat → Array Value} (h : Pgs G w g F) (e : ∀ j, j < 8 → F j = H j) : Pgs G w g H := ⟨h.1, h.2.1.ext e, fun j hj => by rw [← e j hj]; exact h.2.2 j hj⟩
/-- The disk and eight pages beside it: F lies in the sectors, H in the pages. -/
def RdS (w : World) (b g N : Nat) (F H : Nat → Array Value) (w' : World) : Prop :=
  ∃ (G : Nat → Prop) (d : Dsk), DkL w b N d G w' ∧ Pgs G w' g H ∧ Gd allB d (-1) 0 F
/-- The first j of F's pages. -/
def upTo (F : Nat → Array Value) (j i : Nat) : Array Value := if i < j then F i else zP
theorem upd_upTo {F : Nat → Array Value} {j : Nat} : upd (upTo F j) j (F j) = upTo F (j + 1) := by
  funext i
  unfold upd upTo
  by_cases e : i = j
  · subst e; rw [if_pos rfl, if_pos (by omega)]
  · rw [if_neg e]
    by_cases h : i < j
    · rw [if_pos h, if_pos (by omega)]
    · rw [if_neg h, if_neg (by omega)]
theorem enter_write (args : Array Value) (w : World) : (callFunc 20 args).run Try.prog w = .ok (.enter 20 args) w := run_enter Try.func20 (by kernel_rfl) rfl args w
end Go.Proofs.Ytcahdjkmegnbfaa.Dk
