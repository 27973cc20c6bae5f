/- Texts of the walk, one behind the other. -/
import Derived.Test.YtfohinlldchdpaaGreatDoorEncPlaysM48
import Derived.Test.YtfohinlldchdpaaGreatDoorEncPlaysM35
import Derived.Test.YtfohinlldchdpaaGreatDoorEncPlaysM24
import Derived.Test.YtfohinlldchdpaaGreatDoorEncPlaysM44
import Derived.Test.YtfohinlldchdpaaGreatDoorEncPlaysM46
import Derived.Test.YtfohinlldchdpaaGreatDoorEncPlaysM26
import Derived.Test.YtfohinlldchdpaaGreatDoorEncPlaysM6
import Derived.Test.YtfohinlldchdpaaGreatDoorEncPlaysM9

section
/- The document's Parts (layer 13). -/
set_option maxRecDepth 100000
set_option linter.unusedVariables false
namespace Go.Proofs.YtfohinlldchdpaaGreatDoor.De
open Go.RowKit Go.Proofs.YtfohinlldchdpaaGreatDoor.Row Rg Sta
open List (setIfInBounds_toArray set_cons_zero set_cons_succ)
open Lib (hid)

def RetQ (w : World) (l u : Nat → Int) (e : Ending) (w' : World) : Prop := (∃ R U, e = .returned (.tuple #[.agg R, .agg U]) ∧ IsRow 4 l R ∧ IsRow 16 u U) ∧ Below w.heap.size w w'

def PrS (w : World) (R A Z : Array Value) (b6 : Nat) (D : Array Value) (w' : World) : Prop :=
  Below w.heap.size w w' ∧ At w' w.heap.size R 23 ∧ At w' (w.heap.size + 1) A 23 ∧ At w' (w.heap.size + 2) Z 22 ∧ At w' b6 D 179 ∧ w.heap.size + 2 < b6
theorem PrS.below {w w1 w2 : World} {R A Z D : Array Value} {b6 : Nat} (h : PrS w R A Z b6 D w1) (hb : Below w1.heap.size w1 w2) : PrS w R A Z b6 D w2 := by
  obtain ⟨h1, h2, h3, h4, h5, h6⟩ := h
  exact ⟨below_trans h1 hb h1.size, h2.below hb h2.lt, h3.below hb h3.lt, h4.below hb h4.lt, h5.below hb h5.lt, h6⟩
theorem PrS.setL {w w1 : World} {R A Z D : Array Value} {b6 : Nat} (h : PrS w R A Z b6 D w1) (i : Nat) (v : Value) : PrS w (R.setIfInBounds i v) A Z b6 D (w1.setCell ⟨w.heap.size, i, none⟩ v) := by
  obtain ⟨h1, h2, h3, h4, h5, h6⟩ := h
  exact ⟨h1.setCell (by dsimp only; omega) _, h2.setCell, h3.setCell_other (by dsimp only; omega), h4.setCell_other (by dsimp only; omega), h5.setCell_other (by dsimp only; omega), h6⟩
theorem PrS.other {w w1 : World} {R A Z D : Array Value} {b6 : Nat} (h : PrS w R A Z b6 D w1) {g : Nat} (hg : b6 < g) (i : Nat) (v : Value) : PrS w R A Z b6 D (w1.setCell ⟨g, i, none⟩ v) := by
  obtain ⟨h1, h2, h3, h4, h5, h6⟩ := h
  exact ⟨h1.setCell (by dsimp only; omega) _, h2.setCell_other (by dsimp only; omega), h3.setCell_other (by dsimp only; omega), h4.setCell_other (by dsimp only; omega), h5.setCell_other (by dsimp only; omega), h6⟩
theorem PrS.otherR {w w1 : World} {R A Z D : Array Value} {b6 : Nat} (h : PrS w R A Z b6 D w1) {g : Nat} (hg : b6 < g) (C : Array Value) : PrS w R A Z b6 D (w1.setRow g C) := by
  obtain ⟨h1, h2, h3, h4, h5, h6⟩ := h
  exact ⟨below_setRow' h1 (by omega) _, h2.setRow_other (by omega), h3.setRow_other (by omega), h4.setRow_other (by omega), h5.setRow_other (by omega), h6⟩
theorem PrS.setD {w w1 : World} {R A Z D : Array Value} {b6 : Nat} (h : PrS w R A Z b6 D w1) (C : Array Value) : PrS w R A Z b6 C (w1.setRow b6 C) := by
  obtain ⟨h1, h2, h3, h4, h5, h6⟩ := h
  exact ⟨below_setRow' h1 (by omega) _, h2.setRow_other (by omega), h3.setRow_other (by omega), h4.setRow_other (by omega), h5.setRow, h6⟩
theorem PrS.set1 {w w1 : World} {R A Z D : Array Value} {b6 : Nat} (h : PrS w R A Z b6 D w1) (C : Array Value) : PrS w R C Z b6 D (w1.setRow (w.heap.size + 1) C) := by
  obtain ⟨h1, h2, h3, h4, h5, h6⟩ := h
  exact ⟨below_setRow' h1 (by omega) _, h2.setRow_other (by omega), h3.setRow, h4.setRow_other (by omega), h5.setRow_other (by omega), h6⟩
theorem PrS.set2 {w w1 : World} {R A Z D : Array Value} {b6 : Nat} (h : PrS w R A Z b6 D w1) (C : Array Value) : PrS w R A C b6 D (w1.setRow (w.heap.size + 2) C) := by
  obtain ⟨h1, h2, h3, h4, h5, h6⟩ := h
  exact ⟨below_setRow' h1 (by omega) _, h2.setRow_other (by omega), h3.setRow_other (by omega), h4.setRow, h5.setRow_other (by omega), h6⟩
theorem PrS.drewN {w w1 : World} {R A Z D : Array Value} {b6 : Nat} (h : PrS w R A Z b6 D w1) (n : Nat) : PrS w R A Z b6 D (w1.drewN n) := ⟨below_drewN h.1 n, h.2⟩
theorem PrS.start {w w1 : World} (R A Z E D : Array Value) (h : Below (w.heap.size + 3) (((w.alloc (.cells R 23)).alloc (.cells A 23)).alloc (.cells Z 22)) w1) :
    PrS w R A Z w1.heap.size D ((w1.alloc (.cells E 179)).setRow w1.heap.size D) := by
  have a1 := At.new (w.alloc (.cells R 23)) A 23
  have a2 := At.new ((w.alloc (.cells R 23)).alloc (.cells A 23)) Z 22
  simp only [World.size_alloc] at a1 a2
  have hs := h.size
  simp only [World.size_alloc] at hs
  have b0 : Below w.heap.size w (((w.alloc (.cells R 23)).alloc (.cells A 23)).alloc (.cells Z 22)) := (((Below.refl _ _).alloc (Nat.le_refl _) _).alloc (by simp) _).alloc (by simp; omega) _
  have b1 : Below w.heap.size w w1 := b0.trans (h.mono (by omega))
  have c0 := ((((At.new w R 23).alloc (.cells A 23)).alloc (.cells Z 22)).below h (by omega)).alloc (.cells E 179)
  have c1 := ((a1.alloc (.cells Z 22)).below h (by omega)).alloc (.cells E 179)
  have c2 := (a2.below h (by omega)).alloc (.cells E 179)
  exact ⟨below_setRow' (b1.alloc b1.size _) (by omega) _, c0.setRow_other (by omega), c1.setRow_other (by omega), c2.setRow_other (by omega), (At.new w1 E _).setRow, by omega⟩

theorem run_loadR {t : TypeId} {w : World} {g : Nat} {d : TypeDesc} {t' : TypeId} {A : Array Value} (hu : Tryz.prog.underlying t = some d) (hd : d.isRow = true) (hA : At w g A t') (hi : (Tryz.prog.info? t).map (·.size) = some A.size) :
    (Instr.loadAt t (.pointer (some ⟨g, 0, none⟩))).run Tryz.prog w = .ok (.agg A) w := by
  simp only [Instr.loadAt, Instr.sureAddr, Sem.run_bind, Sem.run_pure, Result.andThen]
  exact run_loadVar_row w g t' t A (0, 0) _ hA hu (by cases d <;> first | rfl | cases hd) hi
theorem y_loadR {ops : Array Oper} {W : World} {oi : Oper} {a : Act} {t t' : TypeId} {x : Operand} {b : Nat} {d : TypeDesc} {A : Array Value} (hw : Region.wanted oi (yielded ops a.tmps) = true) (ho : oi.op = .load t x) (hx : a.eval x = .pointer (some ⟨b, 0, none⟩))
    (hA : At W b A t') (hu : Tryz.prog.underlying t = some d) (hd : d.isRow = true) (hi : (Tryz.prog.info? t).map (·.size) = some A.size) : YieldsIf Tryz.prog ops (SB W) oi (.agg A) a :=
  .inl ⟨hw, fun w hw' => by
    unfold execOp
    simp only [ho, hx, run_loadR hu hd (hA.below hw' hA.lt) hi, Sem.run_bind, Sem.run_pure, Result.andThen_ok]⟩
theorem enter_cell (args : Array Value) (w : World) : (callFunc 45 args).run Tryz.prog w = .ok (.enter 45 args) w := run_enter Tryz.func45 (by kernel_rfl) rfl args w
theorem enter_take (args : Array Value) (w : World) : (callFunc 148 args).run Tryz.prog w = .ok (.enter 148 args) w := run_enter Tryz.func148 (by kernel_rfl) rfl args w
theorem refPlace_at (B : ByteArray) (d : Dt) (t p : Nat) (T : Int) (w : World) (hT : (t : Int) = T) (hd : d.ok) (h1 : 1 ≤ t) (h2 : t ≤ 32768) (hp : d.place t = p) :
    Calls Tryz.prog 147 #[.agg (rdA B d), .int .i64 T] w fun e w' => e = .returned (.int .i64 p) ∧ Below w.heap.size w w' := by
  subst hT; exact refPlace_as B d t p w hd h1 h2 hp
theorem refTake_at (B : ByteArray) (s : List UInt8) (d : Dt) (C : Cl) (S V T : Int) (w : World) (hs : ⟨s.toArray⟩ = B) (hn : s.length ≤ 1000) (h1 : (C.s : Int) = S) (h2 : (C.w : Int) = V) (h3 : (C.t : Int) = T) (hd : d.ok) (hC : C.ok) (hg : d.g ≤ 1000) :
    Calls Tryz.prog 148 #[.agg (rdA B d), .agg #[.int .i64 S, .int .i64 V, .int .i64 T]] w fun e w' => e = .returned (.agg (rdA B (d.take (byteF s) C))) ∧ Below w.heap.size w w' := by
  subst h1 h2 h3; exact refTake_as B s d C w hs hn hd hC hg
theorem br_swap (x : Int) : min (max x 0) 20 = br x := by unfold br; omega

theorem bits_nextR {F : Nat → Nat} {f n x h y p m Y : Nat} {z E : Dt} (hh : h < n) (hn : n ≤ h + 8 * (f + 1)) (hm : min (n - h) 8 = m) (hp : z.place (2 ^ m) = p)
    (hZ : y + 2 ^ h * (decB F (f + 1) (n - h) z).1 = x ∧ (decB F (f + 1) (n - h) z).2 = E) (hY : y + p * 2 ^ h = Y) (hy : y < 2 ^ h) :
    n ≤ h + m + 8 * f ∧ Y < 2 ^ (h + m) ∧ h + m ≤ n ∧ (Y + 2 ^ (h + m) * (decB F f (n - (h + m)) (z.take F ⟨p, 1, 2 ^ m⟩)).1 = x ∧ (decB F f (n - (h + m)) (z.take F ⟨p, 1, 2 ^ m⟩)).2 = E) := by
  rw [decB, if_neg (by omega), hm, hp] at hZ
  have hpl : p < 2 ^ m := by rw [← hp]; exact place_lt z Nat.one_le_two_pow
  subst hY
  have e : 2 ^ (h + m) = 2 ^ h * 2 ^ m := Nat.pow_add 2 h m
  have e2 : n - h - m = n - (h + m) := by omega
  rw [e2] at hZ
  have hb : p * 2 ^ h + 2 ^ h ≤ 2 ^ h * 2 ^ m := by
    have := Nat.mul_le_mul_left (2 ^ h) (show p + 1 ≤ 2 ^ m by omega)
    rw [Nat.mul_add, Nat.mul_one, Nat.mul_comm (2 ^ h) p] at this
    exact this
  refine ⟨by omega, by rw [e]; omega, by omega, ?_, hZ.2⟩
  rw [← hZ.1]
  dsimp only
  by_cases c : m = 8
  · subst c
    rw [e, Nat.mul_add, Nat.mul_comm p, Nat.add_assoc, show 2 ^ h * 2 ^ 8 = 2 ^ h * 256 from rfl, Nat.mul_assoc]
  · rw [show n - (h + m) = 0 by omega, decB_zero]
    simp only [Nat.mul_zero, Nat.add_zero]
    rw [Nat.mul_comm p]
theorem over_next {f g : Nat → Int} {l j : Nat} (i : Nat) : (if i = l + j then g j else over f g l j i) = over f g l (j + 1) i := by
  unfold over
  by_cases c : i = l + j
  · rw [if_pos c, if_pos (by omega), c, Nat.add_sub_cancel_left]
  · rw [if_neg c]
    by_cases c2 : l ≤ i ∧ i < l + j
    · rw [if_pos c2, if_pos (by omega)]
    · rw [if_neg c2, if_neg (by omega)]
theorem refLen_q (r b : Nat) (w : World) (hr : r ≤ 4294967295) (h : Lib.bitLen r = b) :
    Calls Tryz.prog 97 #[.int .i64 r] w fun e w' => e = .returned (.int .i64 b) ∧ w' = w :=
  (Sp.refLength_as (r : Int) b w (by omega) (by omega) (by rw [Int.natAbs_natCast]; exact h)).mono fun _ _ h => ⟨h.1, h.2.symm⟩
theorem rm_max (n : Nat) (u : Int) (h1 : 10 ≤ n) (h2 : n ≤ 32) (hu : 0 ≤ u) : max (8 * (n : Int) - 40 - u) 0 = Sp.rm n u := by
  unfold Sp.rm
  split <;> omega

def PtS (w : World) (R A Z : Array Value) (b6 : Nat) (D : Array Value) (b11 : Nat) (K : Array Value) (U : Array Value) (w' : World) : Prop :=
  PrS w R A Z b6 D w' ∧ At w' b11 K 23 ∧ At w' (b11 + 1) U 22 ∧ b6 < b11
theorem PtS.start {w w1 : World} {R A Z D : Array Value} {b6 : Nat} (h : PrS w R A Z b6 D w1) (K Za : Array Value) : PtS w R A Z b6 D w1.heap.size K Za (((w1.alloc (.cells A 23)).setRow w1.heap.size K).alloc (.cells Za 22)) := by
  have h0 := h.below ((Below.refl _ _).alloc (Nat.le_refl _) (.cells A 23))
  have h1 := h0.otherR (g := w1.heap.size) h.2.2.2.2.1.lt K
  have a0 : At ((w1.alloc (.cells A 23)).setRow w1.heap.size K) w1.heap.size K 23 := (At.new w1 A _).setRow
  have a1 := At.new ((w1.alloc (.cells A 23)).setRow w1.heap.size K) Za 22
  rw [size_setRow, World.size_alloc] at a1
  exact ⟨h1.below ((Below.refl _ _).alloc (Nat.le_refl _) _), a0.alloc _, a1, h.2.2.2.2.1.lt⟩
theorem PtS.below {w w1 w2 : World} {R A Z D K U : Array Value} {b6 b11 : Nat} (h : PtS w R A Z b6 D b11 K U w1) (hb : Below w1.heap.size w1 w2) : PtS w R A Z b6 D b11 K U w2 :=
  ⟨h.1.below hb, h.2.1.below hb h.2.1.lt, h.2.2.1.below hb h.2.2.1.lt, h.2.2.2⟩
theorem PtS.setD {w w1 : World} {R A Z D K U : Array Value} {b6 b11 : Nat} (h : PtS w R A Z b6 D b11 K U w1) (C : Array Value) : PtS w R A Z b6 C b11 K U (w1.setRow b6 C) := by
  obtain ⟨h1, h2, h3, h4⟩ := h
  exact ⟨h1.setD C, h2.setRow_other (by omega), h3.setRow_other (by omega), h4⟩
theorem PtS.setU {w w1 : World} {R A Z D K U : Array Value} {b6 b11 : Nat} (h : PtS w R A Z b6 D b11 K U w1) (i : Nat) (v : Value) : PtS w R A Z b6 D b11 K (U.setIfInBounds i v) (w1.setCell ⟨b11 + 1, i, none⟩ v) := by
  obtain ⟨h1, h2, h3, h4⟩ := h
  exact ⟨h1.other (by omega) i v, h2.setCell_other (by dsimp only; omega), h3.setCell, h4⟩
theorem enter_count (args : Array Value) (w : World) : (callFunc 101 args).run Tryz.prog w = .ok (.enter 101 args) w := run_enter Tryz.func101 (by kernel_rfl) rfl args w
theorem enter_vector (args : Array Value) (w : World) : (callFunc 149 args).run Tryz.prog w = .ok (.enter 149 args) w := run_enter Tryz.func149 (by kernel_rfl) rfl args w

set_option maxHeartbeats 8000000 in
theorem refParts_as (TL : Array Value) (L : Nat → Int) (B : ByteArray) (s : List UInt8) (n : Nat) (w : World) (hR : IsRow 4 L TL) (hs : ⟨s.toArray⟩ = B) (hn : B.size = n) (h : 10 ≤ n ∧ n ≤ 32) (hL : Sp.okL L) :
    Calls Tryz.prog 103 #[.agg TL, .string B] w (RetQ w (lB (byteF s) L) (wW (byteF s) (lB (byteF s) L) (kS (byteF s) L n) (dL (byteF s) 4) 4)) := by
  obtain ⟨Z4, hZ4, _, hz4, hi4⟩ := zero_4
  obtain ⟨Za, hZa, _, hza, hia⟩ := zero_a
  have hsn : s.length = n := by rw [← hn, ← hs]; rfl
  have HND := hid (fun w => refNewDec_as B s w hs (by omega))
  have HTK := hid (fun d C S V T w h1 h2 h3 hd hC hg => refTake_at B s d C S V T w hs (by omega) h1 h2 h3 hd hC hg)
  have HI4 := hid hi4
  have HIA := hid hia
  have HZ4 := hid hZ4.1
  have HZA := hid hZa
  have HR0 := hid (hR.ext (g := mL (byteF s) L 0) fun i _ => (show L i = mL (byteF s) L 0 i by unfold mL; rw [if_neg (by omega)]))
  have HL := hid hL
  have n10 := h.1
  have n32 := h.2
  have HIR := hid (hi4 TL hR.1)
  clear hi4 hia hZ4 hZa hR hL hs hsn h
  go_enter Tryz.func103, Tryz.ntmps103
  go_wp2_with fail
  refine (HND.out _).mono ?_
  rintro e w1 ⟨rfl, hb⟩
  have HS := hid (PrS.start (w := w) TL Z4 Za #[.string ⟨#[]⟩, .int .i64 0, .int .i64 0, .int .i64 0] (rdA B (dL (byteF s) 0)) (by simpa using hb))
  clear hb
  go_wp2_with (refine wpList_store_row rfl 179 _ _ rfl w1.heap.size (rdA B (dL (byteF s) 0)) rfl rfl _ _ (At.new w1 _ _) (by kernel_rfl) rfl (one_dec _ _ _ _) ?_)
  revert HS
  generalize World.setRow _ _ _ = W0
  intro HS
  obtain ⟨b6, hb6⟩ : ∃ b6, w1.heap.size = b6 := ⟨_, rfl⟩
  rw [hb6] at HS ⊢
  clear hb6 HND w1
  go_loopw [7] (fun i w' => ∃ (k : Nat) (R : Array Value), k ≤ 4 ∧ i = .int .i64 k ∧ Hid (IsRow 4 (mL (byteF s) L k) R) ∧ Hid (PrS w R Z4 Za b6 (rdA B (dL (byteF s) k)) w')) (fun i _ => 4 - (intOf i).toNat)
  case atStart => exact ⟨0, TL, by omega, rfl, HR0, HS⟩
  case round =>
    obtain ⟨k, R, hk, rfl, HR, HS⟩ := hrel
    rename_i HS0
    clear HS0 HR0 HIR
    by_cases hlt : k < 4
    · have k1 : (k : Int) < 4 := by omega
      have k0 : (0 : Int) ≤ k := by omega
      obtain ⟨d1, d2⟩ := dL_ok (byteF s) k
      obtain ⟨v1, v2⟩ := Lp.lv_in (dL (byteF s) k)
      have HN := hid (show (dL (byteF s) k).take (byteF s) (Lp.cl (Lp.lv (dL (byteF s) k))) = dL (byteF s) (k + 1) from rfl)
      obtain ⟨y1, y2⟩ := HL.out k hlt
      have HB := hid (show lB (byteF s) L k = br (L k + Lp.lv (dL (byteF s) k)) from rfl)
      have c0 := HR.out.2.2 k hlt
      rw [mL_at] at c0
      have HVV := hid (show Lp.vI (Lp.fI ((dL (byteF s) k).place 32768)) = Lp.lv (dL (byteF s) k) from rfl)
      have hpl := Lp.place_in (dL (byteF s) k)
      obtain ⟨p, hp⟩ : ∃ p, (dL (byteF s) k).place 32768 = p := ⟨_, rfl⟩
      obtain ⟨x, hx⟩ : ∃ x, L k = x := ⟨_, rfl⟩
      obtain ⟨v, hv⟩ : ∃ v, Lp.lv (dL (byteF s) k) = v := ⟨_, rfl⟩
      rw [hx] at y1 y2 HB c0
      rw [hv] at v1 v2 HB HN HVV
      rw [hp] at HVV hpl
      have HPL := hid (fun w => refPlace_at B (dL (byteF s) k) 32768 p 32768 w rfl d1 (by omega) (by omega) hp)
      have HFI := hid (fun w => Lp.refFind_as (p : Int) v w (by omega) (by omega) (by rw [Int.toNat_natCast]; exact HVV.out))
      have HCE := hid (fun w => Lp.refCell_as v (Lp.cl v).s (Lp.cl v).w w ⟨v1, v2⟩ rfl rfl)
      have HTA := hid (fun w => HTK.out (dL (byteF s) k) (Lp.cl v) _ _ 32768 w rfl rfl rfl d1 (Lp.cl_ok v1 v2) (by omega))
      rw [HN.out] at HTA
      obtain ⟨m, hm⟩ : ∃ m, max (x + v) 0 = m := ⟨_, rfl⟩
      obtain ⟨u, hu⟩ : ∃ u, min m 20 = u := ⟨_, rfl⟩
      have HU := hid (show lB (byteF s) L k = u by rw [HB.out, ← br_swap, hm, hu])
      have rmx := Sp.run_max0 (x + v) m hm
      have rmn := run_min20 m u hu
      obtain ⟨cs, hcs⟩ : ∃ cs, (Lp.cl v).s = cs := ⟨_, rfl⟩
      obtain ⟨cw, hcw⟩ : ∃ cw, (Lp.cl v).w = cw := ⟨_, rfl⟩
      rw [hcs, hcw] at HCE HTA
      obtain ⟨D, hD⟩ : ∃ D, rdA B (dL (byteF s) k) = D := ⟨_, rfl⟩
      obtain ⟨D', hD'⟩ : ∃ D, rdA B (dL (byteF s) (k + 1)) = D := ⟨_, rfl⟩
      have hi1 : (Tryz.prog.info? 179).map (·.size) = some D.size := by rw [← hD]; kernel_rfl
      have hi2 : (Tryz.prog.info? 179).map (·.size) = some D'.size := by rw [← hD']; kernel_rfl
      have ho2 : D'.all (·.oneCell') = true := by rw [← hD']; exact one_dec _ _ _ _
      have hs2 : D.size = D'.size := by rw [← hD, ← hD']; rfl
      rw [hD] at HS HPL HTA
      rw [hD'] at HTA
      have HI1 := hid hi1
      have HI2 := hid hi2
      have HO2 := hid ho2
      have HS2 := hid hs2
      have HDD := hid hD'
      clear hx hv hp hm hu hcs hcw hD hD' HB HN HVV hi1 hi2 ho2 hs2 d1 d2
      go_wp2_with (refine wpList_load_row rfl 179 _ rfl b6 rfl _ _ (0, 0) _ HS.out.2.2.2.2.1 Tryz.underlying179 rfl HI1.out ?_)
      refine (HPL.out _).mono ?_
      rintro e w2 ⟨rfl, hb⟩
      have HS2' := hid (HS.out.below hb)
      clear hb HS HPL
      go_wp2_with fail
      refine (HFI.out _).mono ?_
      rintro e w3 ⟨rfl, rfl⟩
      clear HFI
      go_wp2_with fail
      refine mf_start (SB w2) (fun j => j == 4) (Below.refl _ _).drew fun hS => ?_
      refine mf_yield (i := 0) (d := 34) (.agg D) rfl rfl (by kernel_rfl) (by kernel_rfl) (by kernel_rfl) (by kernel_rfl) hS (y_loadR (by rfl) rfl rfl HS2'.out.2.2.2.2.1 Tryz.underlying179 rfl HI1.out) ?_
      simp only [Act.put, setIfInBounds_toArray, set_cons_zero, set_cons_succ]
      refine mf_yield (i := 1) (d := 35) (.int .i64 v) rfl rfl (by kernel_rfl) (by kernel_rfl) (by kernel_rfl) (by kernel_rfl) hS (y_run (by rfl) fun _ => by rfl) ?_
      simp only [Act.put, setIfInBounds_toArray, set_cons_zero, set_cons_succ]
      refine mf_ready [2] (by kernel_rfl) (by simp) (af_call (i := 2) (d := 36) (R := fun u w' => u = .agg #[.int .i64 cs, .int .i64 cw, .int .i64 32768] ∧ Below w2.drew.heap.size w2.drew w') #[.int .i64 v] rfl rfl (by rfl) rfl enter_cell (by kernel_rfl) ((HCE.out _).mono fun e w' h => ⟨_, h.1, rfl, h.2⟩) (fun u w' h => below_trans hS h.2 hS.size) ?_ AllReadyF.nil)
      rintro u' w4 ⟨rfl, hb4⟩ hS4
      simp only [Act.put, setIfInBounds_toArray, set_cons_zero, set_cons_succ]
      refine mf_ready [3] (by kernel_rfl) (by simp) (af_call (i := 3) (d := 37) (R := fun u w' => u = .agg D' ∧ Below w4.heap.size w4 w') #[.agg D, .agg #[.int .i64 cs, .int .i64 cw, .int .i64 32768]] rfl rfl (by rfl) rfl enter_take (by kernel_rfl) ((HTA.out _).mono fun e w' h => ⟨_, h.1, rfl, h.2⟩) (fun u w' h => below_trans hS4 h.2 hS4.size) ?_ AllReadyF.nil)
      rintro u' w5 ⟨rfl, hb5⟩ hS5
      simp only [Act.put, setIfInBounds_toArray, set_cons_zero, set_cons_succ]
      have HS5 := hid (HS2'.out.below hS5)
      clear hS hS4 hS5 hb4 hb5 HS2' HCE HTA
      refine mf_ready [4] (by kernel_rfl) (by simp) (af_store (i := 4) b6 D' D rfl rfl (by rfl) rfl rfl rfl rfl HS5.out.2.2.2.2.1 HS2.out HO2.out HI2.out ?_ AllReadyF.nil)
      refine mf_done (by kernel_rfl) ?_
      have HS6 := hid (HS5.out.setD D')
      clear HS5 HI1 HI2 HO2 HS2
      revert HS6
      generalize World.setRow _ _ _ = W6
      intro HS6
      have c1 : W6.cell? ⟨w.heap.size, k, none⟩ = some (.int .i64 x) := by rw [HS6.out.2.1.cell]; exact c0
      have f1 := HS6.out.2.1.frozen k
      go_wp2_with fail
      go_roundw
      case rel => exact ⟨k + 1, _, by omega, by go_num, hid ((HR.out.set u hlt).ext fun i _ => by rw [← HU.out]; exact mL_next _ _ _ _), hid (by rw [HDD.out]; exact HS6.out.setL k _)⟩
      case measure => simp [intOf]; omega
    · obtain rfl : k = 4 := by omega
      clear hk hlt
      obtain ⟨d1, d2⟩ := dL_ok (byteF s) 4
      obtain ⟨u1, u2⟩ := dt_used_bd d1 (by omega)
      obtain ⟨m1, m2⟩ := rmS_bd (byteF s) n
      have hbl := (bl_lt (x := (dL (byteF s) 4).r) (k := 32) (by have := d1.2.1; omega) (by omega)).2 (by have := d1.2.1; omega)
      have HUE := hid (show 8 * ((dL (byteF s) 4).g : Int) + 32 - (Lib.bitLen (dL (byteF s) 4).r : Nat) = (dL (byteF s) 4).used from rfl)
      have HME := hid (show Sp.rm n (dL (byteF s) 4).used = rmS (byteF s) n from rfl)
      have hr32 := d1.2.1
      have c3 : wr.drew.cell? ⟨b6, 3, none⟩ = some (.int .i64 ((4 + (dL (byteF s) 4).g : Nat) : Int)) := HS.out.2.2.2.2.1.cell 3
      have c2 : wr.drew.cell? ⟨b6, 2, none⟩ = some (.int .i64 (dL (byteF s) 4).r) := HS.out.2.2.2.2.1.cell 2
      have HRE := hid (HR.out.ext (g := lB (byteF s) L) fun i hi => by unfold mL; rw [if_pos hi])
      have HDO := hid d1
      have HDG := hid d2
      have HKS := hid (show ∀ i, Sp.given (lB (byteF s) L) (rmS (byteF s) n) i = kS (byteF s) L n i from fun _ => rfl)
      have HD4 := hid (show rdA B (dL (byteF s) 4) = rdA B (dW (byteF s) (kS (byteF s) L n) (dL (byteF s) 4) 0) from rfl)
      rw [HD4.out] at HS
      have hdk := kS_le (byteF s) L n
      obtain ⟨kk, hkk⟩ : ∃ kk, kS (byteF s) L n = kk := ⟨_, rfl⟩
      obtain ⟨d, hd⟩ : ∃ d, dL (byteF s) 4 = d := ⟨_, rfl⟩
      obtain ⟨l, hl⟩ : ∃ l, lB (byteF s) L = l := ⟨_, rfl⟩
      have HKK := hid hkk
      have HDD := hid hd
      have HLL := hid hl
      rw [hkk, hd] at HS
      rw [hkk] at hdk
      rw [hl, hkk] at HKS
      rw [hl] at HRE
      rw [hd] at HUE HME HDO HDG c2 c3 d1 d2 u1 u2 hbl hr32
      obtain ⟨m, hm⟩ : ∃ m, rmS (byteF s) n = m := ⟨_, rfl⟩
      rw [hm] at HME HKS m1 m2
      have HPU := hid (fun w' => Sp.refPulses_as R l m w' HRE.out ⟨by rw [← hl]; exact lB_ok _ _, m1, m2⟩)
      obtain ⟨r, hrr⟩ : ∃ r, d.r = r := ⟨_, rfl⟩
      obtain ⟨bl, hbb⟩ : ∃ bl, Lib.bitLen r = bl := ⟨_, rfl⟩
      obtain ⟨U, hU⟩ : ∃ U, d.used = U := ⟨_, rfl⟩
      obtain ⟨G, hG⟩ : ∃ G : Int, ((4 + d.g : Nat) : Int) = G := ⟨_, rfl⟩
      rw [hrr, hbb, hU] at HUE
      rw [hrr, hbb] at hbl
      rw [hU] at HME u1 u2
      rw [hG] at c3
      rw [hrr] at c2 hr32
      have HLN := hid (fun w => refLen_q r bl w hr32 hbb)
      have g1 : 4 ≤ G ∧ G ≤ 1004 := by omega
      obtain ⟨g2, g3⟩ := g1
      have x1 : 8 * (G - 4) + 32 - (bl : Int) = U := by have := HUE.out; omega
      have rmx := Sp.run_max0 (8 * (n : Int) - 40 - U) m (by rw [rm_max n U n10 n32 u1]; exact HME.out)
      have HM4 := hid (HI4.out R HR.out.1)
      have HKL := hid hdk
      have HLE := hid (show Sp.okL l by rw [← hl]; exact lB_ok _ _)
      clear hm hrr hbb hU hG HUE HME d1 d2 hdk m1 m2 HL HR hkk hd hl HD4
      have c3' : wr.cell? ⟨b6, 3, none⟩ = some (.int .i64 G) := c3
      have c2' : wr.cell? ⟨b6, 2, none⟩ = some (.int .i64 r) := c2
      go_wp2_with fail
      go_quiet ((go_at_call 97; exact Calls.quiet_of_same (HLN.out _)))
      have HSq := hid (fun k => HS.out.drewN k)
      clear HLN c2 c3 c2' c3' HS
      go_wp2_with (refine wpList_load_row rfl 23 _ rfl w.heap.size rfl _ _ (0, 0) _ (HSq.out _).2.1 Tryz.underlying23 rfl HM4.out ?_)
      refine (HPU.out _).mono ?_
      rintro e w5 ⟨⟨K, rfl, hK⟩, hb5⟩
      have HK := hid (hK.ext (g := fun i => (kk i : Int)) fun i _ => by rw [HKS.out])
      have HT := hid (PtS.start ((HSq.out nq).below hb5) K Za)
      have HIK := hid (HI4.out K hK.1)
      have HW0 := hid (show IsRow 16 (wW (byteF s) l kk d 0) Za from HZA.out)
      clear hK hb5 HPU HKS HSq rmx x1
      go_wp2_with (refine wpList_store_row rfl 23 _ _ rfl w5.heap.size K rfl rfl _ _ (At.new w5 _ _) HIK.out (by rw [HZ4.out, HK.out.1]) HK.out.2.1 ?_)
      revert HT
      generalize World.alloc _ _ = W7
      intro HT
      obtain ⟨b11, hb11⟩ : ∃ b, w5.heap.size = b := ⟨_, rfl⟩
      rw [hb11] at HT ⊢
      clear hb11 w5 HIK
      go_loopw [13] (fun i w' => ∃ (q : Nat) (U : Array Value), q ≤ 4 ∧ i = .int .i64 q ∧ Hid (IsRow 16 (wW (byteF s) l kk d q) U) ∧ Hid (PtS w R Z4 Za b6 (rdA B (dW (byteF s) kk d q)) b11 K U w')) (fun i _ => 4 - (intOf i).toNat)
      case atStart => exact ⟨0, Za, by omega, rfl, HW0, HT⟩
      case round =>
        obtain ⟨q, U, hq, rfl, HU, HS⟩ := hrel
        clear HT HW0
        by_cases hlt : q < 4
        · have q1 : (q : Int) < 4 := by omega
          have q0 : (0 : Int) ≤ q := by omega
          have HBN := hid (fun w => Sp.bounds_as q w hlt)
          obtain ⟨s1, s2, s3, s4⟩ := sB_fs q hlt
          have hfs := Sp.fs_size hlt
          have hck0 := HK.out.cell HS.out.2.1 q hlt
          have hk8 := HKL.out q
          by_cases h0 : kk q = 0
          · have HN := hid (wW_none (f := byteF s) (l := l) (d := d) h0)
            obtain ⟨kq, hkq⟩ : ∃ kq, kk q = kq := ⟨_, rfl⟩
            rw [hkq] at hck0 h0
            obtain ⟨fb, hfb⟩ : ∃ fb, Lv.fs q = fb := ⟨_, rfl⟩
            obtain ⟨fe, hfe⟩ : ∃ fe, Lv.fs (q + 1) = fe := ⟨_, rfl⟩
            rw [hfb, hfe] at HBN
            have HC0 := hid hck0
            have kz : ((kq : Int) == 0) = true := by simp; omega
            clear hkq h0 hck0 hfb hfe hfs s1 s2 s3 s4
            go_wp2_with fail
            refine (HBN.out _).mono ?_
            rintro e w8 ⟨rfl, hb⟩
            have HS8 := hid (HS.out.below hb)
            have hck := (Below.cell hb (block_lt_of_cell HC0.out)).trans HC0.out
            clear hb HS HC0
            go_wp2_with fail
            go_roundw
            case rel => exact ⟨q + 1, U, by omega, by go_num, by rw [HN.out.1]; exact HU, by rw [HN.out.2]; exact HS8⟩
            case measure => simp [intOf]; omega
          · have HN := hid (wW_some (f := byteF s) (l := l) (d := d) h0)
            have HY := hid (show yW (byteF s) kk d q = vF (Sp.sB q) (kk q) (nW (byteF s) kk d q) from rfl)
            have HNW := hid (show nW (byteF s) kk d q = (decB (byteF s) 3 (Sp.P q (kk q)) (dW (byteF s) kk d q)).1 % Ve.V (Sp.sB q) (kk q) from rfl)
            obtain ⟨g1, g2'⟩ := dW_ok (byteF s) kk HDO.out q
            have hm24 := P_24 q hlt (kk q) hk8
            have hv1 := V_pos q hlt (kk q) hk8
            have hv2 := Ve.V_le s3 hk8
            have hlv := HRE.out.cell HS.out.1.2.1 q hlt
            obtain ⟨l0, l2⟩ := HLE.out q hlt
            obtain ⟨kq, hkq⟩ : ∃ kq, kk q = kq := ⟨_, rfl⟩
            obtain ⟨nq, hnq⟩ : ∃ nq, Sp.sB q = nq := ⟨_, rfl⟩
            obtain ⟨nb, hnb⟩ : ∃ nb, Sp.P q kq = nb := ⟨_, rfl⟩
            obtain ⟨lq, hlq⟩ : ∃ lq, l q = lq := ⟨_, rfl⟩
            obtain ⟨dq, hdq⟩ : ∃ dq, dW (byteF s) kk d q = dq := ⟨_, rfl⟩
            obtain ⟨⟨x, d'⟩, hx⟩ : ∃ xd, decB (byteF s) 3 nb dq = xd := ⟨_, rfl⟩
            obtain ⟨c, hc⟩ : ∃ c, Ve.V nq kq = c := ⟨_, rfl⟩
            obtain ⟨I, hI⟩ : ∃ I, x % c = I := ⟨_, rfl⟩
            obtain ⟨fb, hfb⟩ : ∃ fb, Lv.fs q = fb := ⟨_, rfl⟩
            obtain ⟨fe, hfe⟩ : ∃ fe, Lv.fs (q + 1) = fe := ⟨_, rfl⟩
            rw [hkq] at hck0 h0 hk8
            rw [hkq, hnb] at hm24
            rw [hkq, hnq, hc] at hv1 hv2
            rw [hkq, hnq, hnb, hdq, hc, hx] at HNW
            rw [hkq, hnq] at HY
            rw [hkq, hnq, hnb, hdq, hx, hlq, hfb] at HN
            rw [hnq, hfb, hfe] at s1
            rw [hfe] at s4
            rw [hnq] at s2 s3 hfs
            rw [hfb, hfe] at hfs
            rw [hlq] at hlv l0 l2
            rw [hdq] at HS g1 g2'
            rw [hfb, hfe] at HBN
            have HYI := hid (show yW (byteF s) kk d q = vF nq kq I by rw [HY.out, HNW.out, ← hI])
            have HCO := hid (fun w => Sp.refCost_as q kq nb w hlt hk8 hnb)
            have HCN := hid (fun w => refCount_at nq kq nq kq c w rfl rfl s3 hk8 hc)
            have HVE := hid (fun w => refVector_as nq kq I w s3 hk8 (by rw [hc, ← hI]; exact Nat.mod_lt _ (by omega)))
            have hx1 := decB_lt (f := byteF s) 3 nb (d := dq) (by omega)
            have HXE := hid hx
            rw [hx] at hx1
            have hpw := Nat.pow_le_pow_right (n := 2) (by omega) hm24
            have x0 : x ≤ 16777216 := by dsimp only at hx1; omega
            have hrem : (x : Int).tmod (c : Int) = (I : Int) := by rw [Int.tmod_eq_emod_of_nonneg (by omega), ← hI]; exact (Int.natCast_emod x c).symm
            have hsb : IntKind.i64.wrap ((fe : Int) - (fb : Int)) = (nq : Int) := by rw [hfs]; exact IntWalk.i64_in _ (by omega)
            have kz : ((kq : Int) == 0) = false := by simp; omega
            have HC0 := hid hck0
            have HKQ := hid hkq
            have HLQ := hid hlq
            have HFS := hid (⟨s1, s2, s4⟩ : fb + nq = fe ∧ 1 ≤ nq ∧ fe ≤ 16)
            have HDG2 := hid (show dq.g ≤ 100 by have := HDG.out; omega)
            have HG1 := hid g1
            clear hkq hnq hnb hlq hdq hx hc hI hfb hfe HY HNW h0 hck0 hlv g1 g2' hx1 hpw s1 s2 s4 hfs hv2
            go_wp2_with fail
            refine (HBN.out _).mono ?_
            rintro e w8 ⟨rfl, hb⟩
            have HS8 := hid (HS.out.below hb)
            have hck := (Below.cell hb (block_lt_of_cell HC0.out)).trans HC0.out
            clear hb HS HC0 HBN
            go_wp2_with fail
            refine (HCO.out _).mono ?_
            rintro e w9 ⟨rfl, hb⟩
            have HS9 := hid (HS8.out.below hb)
            clear hb HS8 HCO hck
            go_wp2_with fail
            go_loopw [17, 18] (fun a c w' => ∃ (f' h y : Nat) (z : Dt), a = .int .i64 y ∧ c = .int .i64 h ∧ nb ≤ h + 8 * f' ∧ h ≤ nb ∧ y < 2 ^ h ∧ z.ok ∧ z.g + 2 * f' ≤ 1000 ∧ f' ≤ 3 ∧ Hid (y + 2 ^ h * (decB (byteF s) f' (nb - h) z).1 = x ∧ (decB (byteF s) f' (nb - h) z).2 = d') ∧ Hid (PtS w R Z4 Za b6 (rdA B z) b11 K U w')) (fun _ c _ => nb - (intOf c).toNat)
            case atStart => exact ⟨3, 0, 0, dq, rfl, rfl, by omega, by omega, by omega, HG1.out, by have := HDG2.out; omega, by omega, hid (by rw [Nat.sub_zero, HXE.out]; simp), HS9⟩
            case round =>
              obtain ⟨f', h, y, z, rfl, rfl, hf, hh, hy, hz, hzg, hf3, HZ, HS⟩ := hrel
              clear HS9
              by_cases h0 : h < nb
              · obtain ⟨f', rfl⟩ : ∃ f'', f' = f'' + 1 := ⟨f' - 1, by omega⟩
                obtain ⟨m, hm⟩ : ∃ m, min (nb - h) 8 = m := ⟨_, rfl⟩
                have hm8 : m ≤ 8 := by omega
                have hm1 : 1 ≤ m := by omega
                have rmm := run_min2 ((nb : Int) - h) 8 (m : Int) (by omega)
                obtain ⟨P, hP⟩ : ∃ P, 2 ^ m = P := ⟨_, rfl⟩
                have hP1 : 1 ≤ P := by rw [← hP]; exact Nat.one_le_two_pow
                have hP2 : P ≤ 256 := by rw [← hP]; exact Nat.le_trans (Nat.pow_le_pow_right (by omega) hm8) (by decide)
                obtain ⟨p, hp⟩ : ∃ p, z.place P = p := ⟨_, rfl⟩
                have hpP : p < P := by rw [← hp]; exact place_lt z hP1
                obtain ⟨Y, hY⟩ : ∃ Y, y + p * 2 ^ h = Y := ⟨_, rfl⟩
                have HNX := hid (bits_nextR (f := f') (x := x) (E := d') h0 hf hm (by rw [hP]; exact hp) HZ.out hY hy)
                rw [hP] at HNX
                have HPM := hid (fun w => Ref01.pow_as (m : Int) (P : Int) w (by omega) (by omega) (by rw [Int.toNat_natCast, ← hP, Int.natCast_pow]; rfl))
                obtain ⟨Q, hQ⟩ : ∃ Q, 2 ^ h = Q := ⟨_, rfl⟩
                have hQ1 : Q ≤ 16777216 := by rw [← hQ]; exact Nat.le_trans (Nat.pow_le_pow_right (by omega) (show h ≤ 24 by omega)) (by decide)
                have HPH := hid (fun w => Ref01.pow_as (h : Int) (Q : Int) w (by omega) (by omega) (by rw [Int.toNat_natCast, ← hQ, Int.natCast_pow]; rfl))
                rw [hQ] at hY hy
                obtain ⟨pQ, hpQ⟩ : ∃ pQ, p * Q = pQ := ⟨_, rfl⟩
                have hpQ2 : pQ ≤ 256 * 16777216 := by rw [← hpQ]; exact Nat.mul_le_mul (by omega) hQ1
                have hpQ3 : (p : Int) * (Q : Int) = (pQ : Int) := by rw [← hpQ, Int.natCast_mul]
                rw [hpQ] at hY
                have HYY := hid (show (Y : Int) = (y : Int) + (pQ : Int) by omega)
                have hCok : (Cl.mk p 1 P).ok := ⟨hP1, by show P ≤ 32768; omega, by show 1 ≤ 1; omega, by show p + 1 ≤ P; omega⟩
                have htg := take_g (f := byteF s) hz hCok
                have HTO := hid (take_dt (f := byteF s) hz hCok)
                have HPL := hid (fun w => refPlace_at B z P p (P : Int) w rfl hz hP1 (by omega) hp)
                have HTA := hid (fun w => HTK.out z ⟨p, 1, P⟩ (p : Int) 1 (P : Int) w rfl rfl rfl hz hCok (by omega))
                obtain ⟨z', hz'⟩ : ∃ z', z.take (byteF s) ⟨p, 1, P⟩ = z' := ⟨_, rfl⟩
                rw [hz'] at HNX htg HTO HTA
                have htg2 : z'.g + 2 * f' ≤ 1000 := by omega
                obtain ⟨Dz, hD⟩ : ∃ D, rdA B z = D := ⟨_, rfl⟩
                obtain ⟨Dz', hD'⟩ : ∃ D, rdA B z' = D := ⟨_, rfl⟩
                have HI1 := hid (show (Tryz.prog.info? 179).map (·.size) = some Dz.size by rw [← hD]; kernel_rfl)
                have HI2 := hid (show (Tryz.prog.info? 179).map (·.size) = some Dz'.size by rw [← hD']; kernel_rfl)
                have HO2 := hid (show Dz'.all (·.oneCell') = true by rw [← hD']; exact one_dec _ _ _ _)
                have HS2 := hid (show Dz.size = Dz'.size by rw [← hD, ← hD']; rfl)
                rw [hD] at HS HPL HTA
                rw [hD'] at HTA
                have HDD := hid hD'
                have h0i : (h : Int) < nb := by omega
                have hnbi : (nb : Int) ≤ 24 := by omega
                have hy2 : (y : Int) ≤ 16777216 := by omega
                have hpi : (p : Int) ≤ 256 := by omega
                have HF3 := hid (show f' ≤ 3 by omega)
                clear hP hp hQ hpQ hz' hD hD' hCok hm hf hz hzg hf3 HZ htg hy hY
                go_wp2_with fail
                refine (HPM.out _).mono ?_
                rintro e w2 ⟨rfl, rfl⟩
                go_wp2_with (refine wpList_load_row rfl 179 _ rfl b6 rfl _ _ (0, 0) _ HS.out.1.2.2.2.2.1 Tryz.underlying179 rfl HI1.out ?_)
                refine (HPL.out _).mono ?_
                rintro e w3 ⟨rfl, hb⟩
                have HS3 := hid (HS.out.below hb)
                clear hb HS HPL HPM
                go_wp2_with (refine wpList_load_row rfl 179 _ rfl b6 rfl _ _ (0, 0) _ HS3.out.1.2.2.2.2.1 Tryz.underlying179 rfl HI1.out ?_)
                refine (HTA.out _).mono ?_
                rintro e w4 ⟨rfl, hb⟩
                have HS4 := hid (HS3.out.below hb)
                clear hb HS3 HTA
                go_wp2_with (refine wpList_store_row rfl 179 _ _ rfl b6 Dz' rfl rfl _ _ HS4.out.1.2.2.2.2.1 HI2.out HS2.out HO2.out ?_)
                have HS5 := hid (HS4.out.setD Dz')
                clear HS4 HI1 HI2 HO2 HS2
                revert HS5
                generalize World.setRow _ _ _ = W6
                intro HS5
                refine (HPH.out _).mono ?_
                rintro e w5 ⟨rfl, rfl⟩
                go_wp2_with fail
                go_roundw
                case rel =>
                  obtain ⟨n1, n2, n3, n4⟩ := HNX.out
                  exact ⟨f', h + m, Y, z', congrArg (Value.int .i64) HYY.out.symm, by go_num, n1, n3, n2, HTO.out, htg2, HF3.out, hid n4, by rw [HDD.out]; exact HS5⟩
                case measure => simp [intOf]; omega
              · obtain rfl : h = nb := by omega
                have HQ := hid (show y = x ∧ z = d' by have := HZ.out; rw [Nat.sub_self, decB_zero] at this; exact ⟨by simpa using this.1, this.2⟩)
                obtain ⟨rfl, rfl⟩ := HQ.out
                have h1 : ¬ (h : Int) < h := by omega
                have hck : wr.cell? ⟨b11, q, none⟩ = some (.int .i64 (kq : Int)) := by rw [← HKQ.out]; exact HK.out.cell HS.out.2.1 q hlt
                have hc0 : (c : Int) ≠ 0 := by omega
                clear HQ HZ hf hh hy hz hzg hf3 h0 HTK HXE HG1 HDG2
                go_wp2_with fail
                refine mv_start fun hS => ?_
                refine mv_yield (i := 0) (d := 110) (.int .i64 (fe : Int)) rfl rfl (by kernel_rfl) (by kernel_rfl) (by kernel_rfl) hS (y_run (by rfl) fun _ => by rfl) ?_
                simp only [Act.put, setIfInBounds_toArray, set_cons_zero, set_cons_succ]
                refine mv_yield (i := 1) (d := 111) (.int .i64 (fb : Int)) rfl rfl (by kernel_rfl) (by kernel_rfl) (by kernel_rfl) hS (y_run (by rfl) fun _ => by rfl) ?_
                simp only [Act.put, setIfInBounds_toArray, set_cons_zero, set_cons_succ]
                refine mv_yield (i := 2) (d := 112) (.int .i64 (nq : Int)) rfl rfl (by kernel_rfl) (by kernel_rfl) (by kernel_rfl) hS (y_sub (by rfl) rfl rfl rfl hsb) ?_
                simp only [Act.put, setIfInBounds_toArray, set_cons_zero, set_cons_succ]
                refine mv_yield (i := 3) (d := 113) (.int .i64 q) rfl rfl (by kernel_rfl) (by kernel_rfl) (by kernel_rfl) hS (y_run (by rfl) fun _ => by rfl) ?_
                simp only [Act.put, setIfInBounds_toArray, set_cons_zero, set_cons_succ]
                refine mv_yield (i := 4) (d := 114) (.pointer (some ⟨b11, q, none⟩)) rfl rfl (by kernel_rfl) (by kernel_rfl) (by kernel_rfl) hS (y_at (by rfl) rfl rfl rfl Tryz.underlying23 rfl hlt) ?_
                simp only [Act.put, setIfInBounds_toArray, set_cons_zero, set_cons_succ]
                refine mv_yield (i := 5) (d := 115) (.int .i64 (kq : Int)) rfl rfl (by kernel_rfl) (by kernel_rfl) (by kernel_rfl) hS (y_cell (by rfl) rfl rfl hck) ?_
                simp only [Act.put, setIfInBounds_toArray, set_cons_zero, set_cons_succ]
                refine mv_yield (i := 6) (d := 116) (.int .i64 (y : Int)) rfl rfl (by kernel_rfl) (by kernel_rfl) (by kernel_rfl) hS (y_run (by rfl) fun _ => by rfl) ?_
                simp only [Act.put, setIfInBounds_toArray, set_cons_zero, set_cons_succ]
                refine mv_yield (i := 7) (d := 117) (.int .i64 (fe : Int)) rfl rfl (by kernel_rfl) (by kernel_rfl) (by kernel_rfl) hS (y_run (by rfl) fun _ => by rfl) ?_
                simp only [Act.put, setIfInBounds_toArray, set_cons_zero, set_cons_succ]
                refine mv_yield (i := 8) (d := 118) (.int .i64 (fb : Int)) rfl rfl (by kernel_rfl) (by kernel_rfl) (by kernel_rfl) hS (y_run (by rfl) fun _ => by rfl) ?_
                simp only [Act.put, setIfInBounds_toArray, set_cons_zero, set_cons_succ]
                refine mv_yield (i := 9) (d := 119) (.int .i64 (nq : Int)) rfl rfl (by kernel_rfl) (by kernel_rfl) (by kernel_rfl) hS (y_sub (by rfl) rfl rfl rfl hsb) ?_
                simp only [Act.put, setIfInBounds_toArray, set_cons_zero, set_cons_succ]
                refine mv_yield (i := 10) (d := 120) (.int .i64 q) rfl rfl (by kernel_rfl) (by kernel_rfl) (by kernel_rfl) hS (y_run (by rfl) fun _ => by rfl) ?_
                simp only [Act.put, setIfInBounds_toArray, set_cons_zero, set_cons_succ]
                refine mv_yield (i := 11) (d := 121) (.pointer (some ⟨b11, q, none⟩)) rfl rfl (by kernel_rfl) (by kernel_rfl) (by kernel_rfl) hS (y_at (by rfl) rfl rfl rfl Tryz.underlying23 rfl hlt) ?_
                simp only [Act.put, setIfInBounds_toArray, set_cons_zero, set_cons_succ]
                refine mv_yield (i := 12) (d := 122) (.int .i64 (kq : Int)) rfl rfl (by kernel_rfl) (by kernel_rfl) (by kernel_rfl) hS (y_cell (by rfl) rfl rfl hck) ?_
                simp only [Act.put, setIfInBounds_toArray, set_cons_zero, set_cons_succ]
                refine mv_ready [13] (by kernel_rfl) (by simp) (ar_callE (i := 13) (d := 123) (R := fun v w' => v = .int .i64 (c : Int) ∧ Below wr.drew.heap.size wr.drew w') #[.int .i64 (nq : Int), .int .i64 (kq : Int)] rfl rfl (by rfl) rfl enter_count (by kernel_rfl) ((HCN.out _).mono fun e w' h => ⟨_, h.1, rfl, h.2⟩) (fun v w' h => below_trans hS h.2 hS.size) ?_ AllReadyH.nil)
                rintro v w5 ⟨rfl, hb5⟩ hS5
                simp only [Act.put, setIfInBounds_toArray, set_cons_zero, set_cons_succ]
                refine mv_yield (i := 14) (d := 124) (.int .i64 (I : Int)) rfl rfl (by kernel_rfl) (by kernel_rfl) (by kernel_rfl) hS5 (y_rem (by rfl) rfl rfl rfl hc0 hrem) ?_
                simp only [Act.put, setIfInBounds_toArray, set_cons_zero, set_cons_succ]
                refine mv_ready [15] (by kernel_rfl) (by simp) (ar_callE (i := 15) (d := 125) (R := fun v w' => (∃ a c' f, v = .slice a nq c' ∧ Ve.sm f nq = kq ∧ Ve.num f nq kq = I ∧ Sl .i64 w' a nq c' f) ∧ Below w5.heap.size w5 w') #[.int .i64 (nq : Int), .int .i64 (kq : Int), .int .i64 (I : Int)] rfl rfl (by rfl) rfl enter_vector (by kernel_rfl)
                  ((HVE.out _).mono fun e w' ⟨a, c', f, he, h1, h2, h3, h4⟩ => ⟨_, he, ⟨a, c', f, rfl, h1, h2, h3⟩, h4⟩) (fun v w' h => below_trans hS5 h.2 hS5.size) ?_ AllReadyH.nil)
                rintro v w6 ⟨⟨a, c', fv, rfl, hf1, hf2, hSl⟩, hb6⟩ hS6
                simp only [Act.put, setIfInBounds_toArray, set_cons_zero, set_cons_succ]
                refine mv_yield (i := 16) (d := 22) (.slice a nq c') rfl rfl (by kernel_rfl) (by kernel_rfl) (by kernel_rfl) hS6 (y_run (by rfl) fun _ => by rfl) ?_
                simp only [Act.put, setIfInBounds_toArray, set_cons_zero, set_cons_succ]
                refine mv_done (by kernel_rfl) ?_
                have HS6 := hid (HS.out.below hS6)
                have HV := hid (vF_is hf1 hf2).2
                have hok : Lv.okY fv nq = true := (Lv.okY_iff _ _).2 fun i hi => by have := sm_at (f := fv) hi; omega
                have HFI := hid (Lv.refFill_any lq a nq c' fv w6 hSl s3 hok l0 l2)
                have hlv : w6.cell? ⟨w.heap.size, q, none⟩ = some (.int .i64 lq) := by rw [← HLQ.out]; exact HRE.out.cell HS6.out.1.2.1 q hlt
                clear hS hS5 hS6 hb5 hb6 hf1 hf2 hSl hok HS HCN HVE hck hrem hc0 hsb
                go_wp2_with fail
                refine HFI.out.mono ?_
                rintro e w7 ⟨gb, Uf, rfl, hgb, hUf, hAf, hb7⟩
                have HS7 := hid (HS6.out.below hb7)
                have HUf := hid hUf
                have HAf := hid hAf
                have HGB := hid (show b11 + 1 < gb from Nat.lt_of_lt_of_le HS6.out.2.2.1.lt hgb)
                obtain ⟨F1, F2, F3⟩ := HFS.out
                have HU0 := hid (show IsRow 16 (over (wW (byteF s) l kk d q) (Lv.fl lq fv nq) fb 0) U by rw [Lv.over_none]; exact HU.out)
                clear hgb hUf hAf hb7 HS6 HFI hlv HU
                go_wp2_with fail
                go_loopw [24] (fun i w' => ∃ (j : Nat) (U1 : Array Value), j ≤ nq ∧ i = .int .i64 ((fb + j : Nat) : Int) ∧ Hid (IsRow 16 (over (wW (byteF s) l kk d q) (Lv.fl lq fv nq) fb j) U1) ∧ Hid (PtS w R Z4 Za b6 (rdA B z) b11 K U1 w') ∧ Hid (At w' gb Uf 3)) (fun i _ => fe - (intOf i).toNat)
                case atStart => exact ⟨0, U, by omega, rfl, HU0, HS7, HAf⟩
                case round =>
                  obtain ⟨j, U1, hj, rfl, HU1, HS1, HA1⟩ := hrel
                  clear HU0 HS7 HAf
                  by_cases hjl : j < nq
                  · obtain ⟨i, hi⟩ : ∃ i, fb + j = i := ⟨_, rfl⟩
                    have HIJ := hid hi
                    have hif : (i : Int) < fe := by omega
                    have hi16 : i < 16 := by omega
                    have hi16' : (i : Int) < 16 := by omega
                    have hi0 : (0 : Int) ≤ (i : Int) := by omega
                    have hji : (i : Int) - (fb : Int) = (j : Int) := by omega
                    have hj0 : (0 : Int) ≤ (j : Int) := by omega
                    have hjn : (j : Int) < nq := by omega
                    have hcf := HUf.out.cell HA1.out j hjl
                    have HON := hid (over_next (f := wW (byteF s) l kk d q) (g := Lv.fl lq fv nq) (l := fb) (j := j))
                    rw [hi] at HON ⊢
                    obtain ⟨xv, hxv⟩ : ∃ xv, Lv.fl lq fv nq j = xv := ⟨_, rfl⟩
                    rw [hxv] at hcf HON
                    have hcu := HU1.out.cell HS1.out.2.2.1 i hi16
                    have hfu := HS1.out.2.2.1.frozen i
                    clear hi hxv
                    go_wp2_with fail
                    go_roundw
                    case rel => exact ⟨j + 1, _, by omega, by rw [← HIJ.out]; go_num, hid ((HU1.out.set xv hi16).ext fun i _ => HON.out i), hid (HS1.out.setU i _), hid (HA1.out.setCell_other (by dsimp only; have := HGB.out; omega))⟩
                    case measure => simp [intOf]; omega
                  · obtain rfl : j = nq := by omega
                    rw [F1]
                    have hff : ¬ (fe : Int) < fe := by omega
                    go_wp2_with fail
                    go_roundw
                    case rel =>
                      refine ⟨q + 1, U1, by omega, by go_num, hid (HU1.out.ext fun i _ => ?_), by rw [HN.out.2]; exact HS1⟩
                      rw [HN.out.1, HYI.out]
                      exact over_ext (fun j hj => fl_ext HV.out j hj) i
                    case measure => simp [intOf]; omega
        · obtain rfl : q = 4 := by omega
          have HIU := hid (HIA.out U HU.out.1)
          clear hq hlt HTK HK
          go_wp2_with fail
          refine mv_startS (fun w' => At w' w.heap.size R 23 ∧ At w' (b11 + 1) U 22) ⟨HS.out.1.2.1, HS.out.2.2.1⟩ fun hS => ?_
          refine mv_yield (i := 0) (d := 145) (.agg R) rfl rfl (by kernel_rfl) (by kernel_rfl) (by kernel_rfl) hS (y_load_part (l := 0) (by rfl) rfl rfl HRE.out (fun _ h => h.1) HRE.out (by omega) (fun i _ => by rw [Nat.zero_add]) Tryz.underlying23 rfl HM4.out) ?_
          simp only [Act.put, setIfInBounds_toArray, set_cons_zero, set_cons_succ]
          refine mv_yield (i := 1) (d := 146) (.agg U) rfl rfl (by kernel_rfl) (by kernel_rfl) (by kernel_rfl) hS (y_load_part (l := 0) (by rfl) rfl rfl HU.out (fun _ h => h.2) HU.out (by omega) (fun i _ => by rw [Nat.zero_add]) Tryz.underlying22 rfl HIU.out) ?_
          simp only [Act.put, setIfInBounds_toArray, set_cons_zero, set_cons_succ]
          have HS8 := hid (show PrS w R Z4 Za b6 (rdA B (dW (byteF s) kk d 4)) wr.drew from ⟨HS.out.1.1.drew, HS.out.1.2⟩)
          have hb1 : w.heap.size + 2 < b11 := by have := HS.out.2.2.2; have := HS.out.1.2.2.2.2.2; omega
          clear HS
          refine mv_ready [2] (by kernel_rfl) (by simp) (ar_store (i := 2) (w.heap.size + 1) R Z4 rfl rfl (by rfl) rfl rfl rfl HS8.out.2.2.1 (by rw [HZ4.out, HRE.out.1]) HRE.out.2.1 HM4.out ⟨hS.1.setRow_other (by omega), hS.2.setRow_other (by omega)⟩ (fun hS7 => ?_) AllReadyH.nil)
          have HS9 := hid (HS8.out.set1 R)
          clear HS8 hS
          refine mv_ready [3] (by kernel_rfl) (by simp) (ar_store (i := 3) (w.heap.size + 2) U Za rfl rfl (by rfl) rfl rfl rfl HS9.out.2.2.2.1 (by rw [HZA.out.1, HU.out.1]) HU.out.2.1 HIU.out ⟨hS7.1.setRow_other (by omega), hS7.2.setRow_other (by omega)⟩ (fun hS8 => ?_) AllReadyH.nil)
          have HS10 := hid (HS9.out.set2 U)
          clear HS9 hS7
          refine mv_done (by kernel_rfl) ?_
          clear hS8
          go_wp2
          exact bodyPost_ret (v := .tuple #[.agg R, .agg U]) (results_any_two rfl _ _ (w.heap.size + 1) (w.heap.size + 2) R U _ _ rfl rfl HS10.out.2.2.1 HS10.out.2.2.2.1 Tryz.underlying23 rfl HM4.out Tryz.underlying22 rfl HIU.out) rfl ⟨⟨R, U, rfl, by rw [HLL.out]; exact HRE.out, by rw [HLL.out, HKK.out, HDD.out]; exact HU.out⟩, HS10.out.1⟩
end Go.Proofs.YtfohinlldchdpaaGreatDoor.De
end

section
/- The document's Decode (layer 13); results as rows that are known. -/
set_option maxRecDepth 100000
set_option linter.unusedVariables false
namespace Go.Proofs.YtfohinlldchdpaaGreatDoor.De
open Go.RowKit Go.Proofs.YtfohinlldchdpaaGreatDoor.Row Rg Sta
open Lib (hid)

theorem as_Q {fn : FuncId} {args : Array Value} {R Q : Array Value} {h g : Nat → Int} {w : World} (H : Calls Tryz.prog fn args w (RetQ w h g)) (hR : IsRow 4 h R) (hQ : IsRow 16 g Q) :
    Calls Tryz.prog fn args w fun e w' => e = .returned (.tuple #[.agg R, .agg Q]) ∧ Below w.heap.size w w' := by
  refine H.mono ?_
  rintro e w' ⟨⟨R', Q', rfl, hR', hQ'⟩, hb⟩
  obtain rfl := hR'.eq hR fun _ _ => rfl
  obtain rfl := hQ'.eq hQ fun _ _ => rfl
  exact ⟨rfl, hb⟩
theorem as_N {fn : FuncId} {args : Array Value} {R Q : Array Value} {h g : Nat → Int} {w : World} (H : Calls Tryz.prog fn args w (RetNx w h g)) (hR : IsRow 16 h R) (hQ : IsRow 38 g Q) :
    Calls Tryz.prog fn args w fun e w' => e = .returned (.tuple #[.agg R, .agg Q]) ∧ Below w.heap.size w w' := by
  refine H.mono ?_
  rintro e w' ⟨⟨R', Q', rfl, hR', hQ'⟩, hb⟩
  obtain rfl := hR'.eq hR fun _ _ => rfl
  obtain rfl := hQ'.eq hQ fun _ _ => rfl
  exact ⟨rfl, hb⟩

def DsS (w : World) (T A B : Array Value) (w' : World) : Prop :=
  Below w.heap.size w w' ∧ At w' w.heap.size T 25 ∧ At w' (w.heap.size + 1) A 22 ∧ At w' (w.heap.size + 2) B 25
theorem DsS.start (w : World) (T A B : Array Value) : DsS w T A B (((w.alloc (.cells T 25)).alloc (.cells A 22)).alloc (.cells B 25)) := by
  have a1 := At.new (w.alloc (.cells T 25)) A 22
  have a2 := At.new ((w.alloc (.cells T 25)).alloc (.cells A 22)) B 25
  simp only [World.size_alloc] at a1 a2
  exact ⟨(((Below.refl _ _).alloc (Nat.le_refl _) _).alloc (by simp) _).alloc (by simp; omega) _, ((At.new w T 25).alloc _).alloc _, a1.alloc _, a2⟩
theorem DsS.below {w w1 w2 : World} {T A B : Array Value} (h : DsS w T A B w1) (hb : Below w1.heap.size w1 w2) : DsS w T A B w2 := by
  obtain ⟨h1, h2, h3, h4⟩ := h
  exact ⟨below_trans h1 hb h1.size, h2.below hb h2.lt, h3.below hb h3.lt, h4.below hb h4.lt⟩
theorem DsS.set1 {w w1 : World} {T A B : Array Value} (h : DsS w T A B w1) (C : Array Value) : DsS w T C B (w1.setRow (w.heap.size + 1) C) := by
  obtain ⟨h1, h2, h3, h4⟩ := h
  exact ⟨below_setRow' h1 (by omega) _, h2.setRow_other (by omega), h3.setRow, h4.setRow_other (by omega)⟩
theorem DsS.set2 {w w1 : World} {T A B : Array Value} (h : DsS w T A B w1) (C : Array Value) : DsS w T A C (w1.setRow (w.heap.size + 2) C) := by
  obtain ⟨h1, h2, h3, h4⟩ := h
  exact ⟨below_setRow' h1 (by omega) _, h2.setRow_other (by omega), h3.setRow_other (by omega), h4.setRow⟩

set_option maxHeartbeats 2000000 in
theorem refDecode_as (T : Array Value) (f : Nat → Int) (B : ByteArray) (s : List UInt8) (n : Nat) (w : World) (hR : IsRow 38 f T) (hs : ⟨s.toArray⟩ = B) (hn : B.size = n) (h : 10 ≤ n ∧ n ≤ 32) (hr : Rt f) :
    Calls Tryz.prog 53 #[.agg T, .string B] w (RetNx w (soD (byteF s) f n) (nxD (byteF s) f n)) := by
  obtain ⟨Zr, hZr, _, hzr, hir⟩ := zero_r
  obtain ⟨Za, hZa, _, hza, hia⟩ := zero_a
  obtain ⟨Z4, hZ4, _, hz4, hi4⟩ := zero_4
  have HS := hid (DsS.start w T Za Zr)
  have HIR := hid hir
  have HIA := hid hia
  have HI4 := hid hi4
  have HZR := hid hZr.1
  have HZA := hid hZa.1
  have HZ4 := hid hZ4.1
  have HR := hid hR
  have HV := hid (hR.sub (show 17 + 4 ≤ 38 by omega))
  obtain ⟨V, hV⟩ : ∃ M, T.extract 17 (17 + 4) = M := ⟨_, rfl⟩
  rw [hV] at HV
  obtain ⟨R, hR2⟩ : ∃ R, IsRow 4 (lB (byteF s) fun i => f (17 + i)) R := ⟨_, isRow _ _⟩
  obtain ⟨U, hU2⟩ : ∃ U, IsRow 16 (wB (byteF s) (fun i => f (17 + i)) n) U := ⟨_, isRow _ _⟩
  have HPA := hid (fun w' => as_Q (refParts_as V (fun i => f (17 + i)) B s n w' HV.out hs hn h hr.2.2.1) hR2 hU2)
  have HNX := hid (fun w' => refNext_as T R U f _ _ 0 hR hR2 hU2 hr (fun i _ => Md.ab_le (wB_le (byteF s) (fun i => f (17 + i)) n i).1 (wB_le (byteF s) (fun i => f (17 + i)) n i).2) w')
  have HR2 := hid hR2
  have HU2 := hid hU2
  clear hir hia hi4 hZr hZa hZ4 h hR hr hV hs hR2 hU2
  go_enter Tryz.func53, Tryz.ntmps53
  go_wp2_with (refine wpList_load_part (by rfl) 23 _ rfl w.heap.size 17 rfl HR.out HS.out.2.1 HV.out (by omega) (fun i _ => rfl) Tryz.underlying23 rfl (HI4.out _ HV.out.1) ?_)
  refine (HPA.out _).mono ?_
  rintro e w2 ⟨rfl, hb⟩
  replace HS := hid (HS.out.below hb)
  clear hb HPA
  have HU := hid (Duo.start (Below.refl w2.heap.size w2) Z4 Za 23 22)
  go_wp2_with (first
    | (refine wpList_store_row rfl 23 _ _ rfl w2.heap.size R rfl rfl _ _ HU.out.2.2.1 (HI4.out _ HR2.out.1) (by rw [HZ4.out, HR2.out.1]) HR2.out.2.1 ?_
       replace HU := hid (HU.out.set1 R)
       revert HU
       generalize World.setRow _ _ _ = W4
       intro HU)
    | (refine wpList_store_row rfl 22 _ _ rfl (w2.heap.size + 1) U rfl rfl _ _ HU.out.2.2.2 (HIA.out _ HU2.out.1) (by rw [HZA.out, HU2.out.1]) HU2.out.2.1 ?_
       replace HU := hid (HU.out.set2 U)
       have HS5 := hid (HS.out.below HU.out.1)
       clear HS
       revert HU HS5
       generalize World.setRow _ _ _ = W5
       intro HU HS5)
    | refine wpList_load_all (by rfl) 25 _ rfl w.heap.size rfl HR.out HS5.out.2.1 Tryz.underlying25 rfl HIR.out ?_
    | refine wpList_load_all (by rfl) 23 _ rfl w2.heap.size rfl HR2.out HU.out.2.2.1 Tryz.underlying23 rfl HI4.out ?_
    | refine wpList_load_all (by rfl) 22 _ rfl (w2.heap.size + 1) rfl HU2.out HU.out.2.2.2 Tryz.underlying22 rfl HIA.out ?_)
  refine (HNX.out _).mono ?_
  rintro e w6 ⟨⟨X, Y, rfl, hX, hY⟩, hb⟩
  have HX := hid hX
  have HY := hid hY
  have HS6 := hid (HS5.out.below hb)
  clear hX hY hb HU HS5 HNX HR2 HU2
  go_wp2_with (first
    | (refine wpList_store_row rfl 22 _ _ rfl (w.heap.size + 1) X rfl rfl _ _ HS6.out.2.2.1 (HIA.out _ HX.out.1) (by rw [HZA.out, HX.out.1]) HX.out.2.1 ?_
       have HS7 := hid (HS6.out.set1 X)
       clear HS6
       revert HS7
       generalize World.setRow _ _ _ = W7
       intro HS7)
    | (refine wpList_store_row rfl 25 _ _ rfl (w.heap.size + 2) Y rfl rfl _ _ HS7.out.2.2.2 (HIR.out _ HY.out.1) (by rw [HZR.out, HY.out.1]) HY.out.2.1 ?_
       have HS8 := hid (HS7.out.set2 Y)
       clear HS7
       revert HS8
       generalize World.setRow _ _ _ = W8
       intro HS8))
  exact bodyPost_ret (v := .tuple #[.agg X, .agg Y]) (results_any_two rfl _ _ (w.heap.size + 1) (w.heap.size + 2) X Y _ _ rfl rfl HS8.out.2.2.1 HS8.out.2.2.2 Tryz.underlying22 rfl (HIA.out _ HX.out.1) Tryz.underlying25 rfl (HIR.out _ HY.out.1)) rfl ⟨⟨X, Y, rfl, HX.out, HY.out⟩, HS8.out.1⟩

end Go.Proofs.YtfohinlldchdpaaGreatDoor.De
end
