/- Texts of the walk, one behind the other. -/
import Derived.Test.YtfohinlldchdpaaGreatDoorEncPlaysM18
import Derived.Test.YtfohinlldchdpaaGreatDoorEncPlaysM47
import Derived.Test.YtfohinlldchdpaaGreatDoorEncPlaysM2
import Derived.Test.YtfohinlldchdpaaGreatDoorEncPlaysM1

section
/- The document's decoder (layer 7): bytes, NewDec, Place, Take. -/
set_option maxRecDepth 100000
set_option linter.unusedVariables false
namespace Go.Proofs.YtfohinlldchdpaaGreatDoor.De
open Go.RowKit Go.Proofs.YtfohinlldchdpaaGreatDoor.Row Rg
open Lib (hid)

theorem refByte_as (B : ByteArray) (s : List UInt8) (i y : Nat) (w : World) (hs : ⟨s.toArray⟩ = B) (hi : i ≤ 1000000) (hn : s.length ≤ 1000000) (hy : byteF s i = y) :
    Calls Tryz.prog 190 #[.string B, .int .i64 i] w fun e w' => e = .returned (.int .i64 y) ∧ w = w' := by
  obtain ⟨n, hsz⟩ : ∃ n, B.size = n := ⟨_, rfl⟩
  have hl : s.length = n := by rw [← hsz, ← hs]; rfl
  by_cases h : i < n
  · have hc : ∃ c : UInt8, (∀ h, B[i]'h = c) ∧ c.toNat = y := by
      refine ⟨s[i]'(by omega), fun h => by subst hs; rfl, ?_⟩
      rw [← hy]
      unfold byteF
      rw [List.getD_eq_getElem?_getD, List.getElem?_eq_getElem (by omega)]
      rfl
    obtain ⟨c, hb, hcy⟩ := hc
    have hc2 : c.toNat ≤ 255 := by have := c.toNat_lt; omega
    have HCY := hid hcy
    have h1 : ¬ (n : Int) ≤ i := by omega
    have h0 : (0 : Int) ≤ i := by omega
    clear hs hy hcy
    go_enter Tryz.func190, Tryz.ntmps190
    go_wp2
    go_ret
    exact ⟨by rw [← HCY.out]; rfl, rfl⟩
  · have e : y = 0 := by
      rw [← hy]
      unfold byteF
      rw [List.getD_eq_getElem?_getD, List.getElem?_eq_none (by omega)]
      rfl
    subst e
    have h1 : (n : Int) ≤ i := by omega
    clear hs hy
    go_enter Tryz.func190, Tryz.ntmps190
    go_wp2
    go_ret
    exact ⟨rfl, rfl⟩

def rdA (B : ByteArray) (d : Dt) : Array Value := #[.string B, .int .i64 d.c, .int .i64 d.r, .int .i64 ((4 + d.g : Nat) : Int)]
theorem feed_small (f : Nat → Nat) (hf : ∀ i, f i ≤ 255) : ∀ k, k ≤ 4 → feed f 0 k 0 < 256 ^ k
  | 0, _ => by show 0 < 1; omega
  | k + 1, h => by
    have ih := feed_small f hf k (by omega)
    have := hf k
    rw [feed_snoc, Nat.zero_add, Nat.pow_succ]
    have : feed f 0 k 0 * 256 + f k < 256 ^ k * 256 := by omega
    exact Nat.lt_of_le_of_lt (Nat.mod_le _ _) this
theorem feed_four (f : Nat → Nat) (hf : ∀ i, f i ≤ 255) (k : Nat) (h : k < 4) : 256 * feed f 0 k 0 + f k = feed f 0 (k + 1) 0 := by
  have h1 := feed_small f hf k (by omega)
  have h2 := hf k
  have h3 : 256 ^ k ≤ 256 ^ 3 := Nat.pow_le_pow_right (by omega) (by omega)
  rw [feed_snoc, Nat.zero_add, Nat.mod_eq_of_lt (by omega)]
  omega
theorem results_dec {fn : Func} {p : Tmp} (h : fn.results = #[.cell p 179]) (tmps : Array Value) (w : World) (g : Nat) (v a b c : Value)
    (hp : tmps.getD p undef = .pointer (some ⟨g, 0, none⟩)) (hg : At w g #[v, a, b, c] 179) : (results fn tmps).run Tryz.prog w = .ok (.agg #[v, a, b, c]) w :=
  results_cell_row h tmps w g 179 #[v, a, b, c] (0, 0) _ hp hg Tryz.underlying179 rfl (by kernel_rfl)

theorem one_dec (B : ByteArray) (a b c : Int) : (#[Value.string B, Value.int .i64 a, Value.int .i64 b, Value.int .i64 c]).all (·.oneCell') = true := by simp [Value.oneCell']

theorem refNewDec_as (B : ByteArray) (s : List UInt8) (w : World) (hs : ⟨s.toArray⟩ = B) (hn : s.length ≤ 1000000) :
    Calls Tryz.prog 145 #[.string B] w fun e w' => e = .returned (.agg (rdA B (Dt.new (byteF s)))) ∧ Below w.heap.size w w' := by
  have HB := hid (fun i y w hi hy => refByte_as B s i y w hs hi hn hy)
  have HF := hid (feed_four (byteF s) (byteF_le s))
  have HS := hid (feed_small (byteF s) (byteF_le s))
  have HY := hid (byteF_le s)
  clear hs
  have HA := hid (At.new w #[.string ⟨#[]⟩, .int .i64 0, .int .i64 0, .int .i64 0] 179)
  have HBB := hid ((Below.refl w.heap.size w).alloc (Nat.le_refl _) (.cells #[.string ⟨#[]⟩, .int .i64 0, .int .i64 0, .int .i64 0] 179))
  go_enter Tryz.func145, Tryz.ntmps145
  go_wp2_with fail
  revert HA HBB
  generalize World.alloc _ _ = W
  intro HA HBB
  go_loopw [3, 4] (fun a i wx => ∃ k : Nat, k ≤ 4 ∧ a = .int .i64 (feed (byteF s) 0 k 0 : Nat) ∧ i = .int .i64 k ∧ wx = W) (fun _ i _ => 4 - (intOf i).toNat)
  case atStart => exact ⟨0, by omega, rfl, rfl, rfl⟩
  case round =>
    obtain ⟨k, hk, rfl, rfl, rfl⟩ := hrel
    by_cases hlt : k < 4
    · have k1 : (k : Int) < 4 := by omega
      have HN := hid (HF.out k hlt)
      have hx1 := HS.out k hk
      have hx2 : 256 ^ k ≤ 256 ^ 4 := Nat.pow_le_pow_right (by omega) hk
      have hy1 := HY.out k
      obtain ⟨x, hx⟩ : ∃ x, feed (byteF s) 0 k 0 = x := ⟨_, rfl⟩
      obtain ⟨y, hy⟩ : ∃ y, byteF s k = y := ⟨_, rfl⟩
      rw [hx] at HN hx1 ⊢
      rw [hy] at HN hy1
      have x3 : x ≤ 4294967296 := by omega
      have HYK := hid hy
      clear hx hy hx1 hx2
      go_wp2_with fail
      refine (HB.out k y _ (by omega) HYK.out).mono ?_
      rintro e w' ⟨rfl, rfl⟩
      go_wp2_with fail
      go_roundw
      case rel => exact ⟨k + 1, by omega, by rw [← HN.out]; go_num, by go_num, trivial⟩
      case measure => simp [intOf]; omega
    · obtain rfl : k = 4 := by omega
      have HD := hid (show (Dt.new (byteF s)).c = feed (byteF s) 0 4 0 from rfl)
      obtain ⟨x, hx⟩ : ∃ x, feed (byteF s) 0 4 0 = x := ⟨_, rfl⟩
      rw [hx] at HD ⊢
      clear hx hlt hk
      go_wp2_with (first
        | refine wpList_store_row rfl 179 _ _ rfl w.heap.size #[.string B, .int .i64 x, .int .i64 4294967295, .int .i64 4] rfl rfl _ _ HA.out (by kernel_rfl) rfl (one_dec _ _ _ _) ?_)
      refine bodyPost_ret (v := .agg #[.string B, .int .i64 x, .int .i64 4294967295, .int .i64 4]) (results_dec rfl _ _ w.heap.size _ _ _ _ rfl HA.out.setRow) rfl ⟨?_, below_setRow' HBB.out (Nat.le_refl _) _⟩
      unfold rdA
      rw [HD.out]
      rfl

theorem run_min2 (x y u : Int) (h : min x y = u) (w : World) :
    (Builtin.min_ #[3, 3] 3 #[.int .i64 x, .int .i64 y]).run Tryz.prog w = .ok (.int .i64 u) w := by
  have e : (if y < x then y else x) = u := by rw [← h]; split <;> omega
  rw [← e]
  simp [Builtin.min_, Builtin.min2]

theorem refPlace_as (B : ByteArray) (d : Dt) (t p : Nat) (w : World) (hd : d.ok) (h1 : 1 ≤ t) (h2 : t ≤ 32768) (hp : d.place t = p) :
    Calls Tryz.prog 147 #[.agg (rdA B d), .int .i64 t] w fun e w' => e = .returned (.int .i64 p) ∧ Below w.heap.size w w' := by
  obtain ⟨r1, r2, r3⟩ := hd
  unfold rdA
  obtain ⟨G, hG⟩ : ∃ G : Int, ((4 + d.g : Nat) : Int) = G := ⟨_, rfl⟩
  rw [hG]
  clear hG
  unfold Dt.place at hp
  have u1 : 512 ≤ d.r / t := by rw [Nat.le_div_iff_mul_le h1]; omega
  have u2 := Nat.div_le_self d.r t
  obtain ⟨u, hu⟩ : ∃ u, d.r / t = u := ⟨_, rfl⟩
  rw [hu] at hp u1 u2
  have q2 := Nat.div_le_self d.c u
  obtain ⟨q, hq⟩ : ∃ q, d.c / u = q := ⟨_, rfl⟩
  rw [hq] at hp q2
  have HU := hid hu
  have HQ := hid hq
  obtain ⟨r, hr⟩ : ∃ r, d.r = r := ⟨_, rfl⟩
  obtain ⟨c, hc⟩ : ∃ c, d.c = c := ⟨_, rfl⟩
  rw [hr] at hu r1 r2 u2 ⊢
  rw [hc] at hq r3 q2 ⊢
  have t0 : ¬ (t : Int) = 0 := by omega
  have u0 : ¬ (u : Int) = 0 := by omega
  have e1 : (r : Int).tdiv t = u := by rw [Int.tdiv_eq_ediv_of_nonneg (by omega), ← hu]; exact (Int.natCast_ediv r t).symm
  have e2 : (c : Int).tdiv u = q := by rw [Int.tdiv_eq_ediv_of_nonneg (by omega), ← hq]; exact (Int.natCast_ediv c u).symm
  have e3 : (r : Int) / t = u := by rw [← hu]; exact (Int.natCast_ediv r t).symm
  have e4 : (c : Int) / u = q := by rw [← hq]; exact (Int.natCast_ediv c u).symm
  have rm := run_min2 (q : Int) ((t : Int) - 1) (p : Int) (by omega)
  have c1 : (w.alloc (.cells #[.string B, .int .i64 c, .int .i64 r, .int .i64 G] 179)).drew.cell? ⟨w.heap.size, 1, none⟩ = some (.int .i64 c) := (At.new w #[.string B, .int .i64 c, .int .i64 r, .int .i64 G] 179).cell 1
  have c2 : (w.alloc (.cells #[.string B, .int .i64 c, .int .i64 r, .int .i64 G] 179)).drew.cell? ⟨w.heap.size, 2, none⟩ = some (.int .i64 r) := (At.new w #[.string B, .int .i64 c, .int .i64 r, .int .i64 G] 179).cell 2
  have HB := hid ((Below.refl w.heap.size w).alloc (Nat.le_refl _) (.cells #[.string B, .int .i64 c, .int .i64 r, .int .i64 G] 179))
  clear hu hq hr hc hp
  go_enter Tryz.func147, Tryz.ntmps147
  go_wp2_with fail
  go_quiet (fail)
  go_wp2
  go_ret
  exact ⟨rfl, below_drewN HB.out _⟩
end Go.Proofs.YtfohinlldchdpaaGreatDoor.De
end

section
/- The document's decoder (layer 7): Take. Written by g34.py. -/
set_option maxRecDepth 100000
set_option linter.unusedVariables false
namespace Go.Proofs.YtfohinlldchdpaaGreatDoor.De
open Go.RowKit Go.Proofs.YtfohinlldchdpaaGreatDoor.Row Rg Sta
open List (setIfInBounds_toArray set_cons_zero set_cons_succ)
open Lib (hid)

theorem fld_d0 : FldAt 179 0 0 := fun b w => by
  unfold Instr.fieldAt
  simp [Sem.run_bind, run_underlying Tryz.underlying179, Instr.sureAddr, go_sem, Addr.add]
theorem fld_d1 : FldAt 179 1 1 := fun b w => by
  unfold Instr.fieldAt
  simp [Sem.run_bind, run_underlying Tryz.underlying179, Instr.sureAddr, go_sem, Addr.add]
theorem fld_d3 : FldAt 179 3 3 := fun b w => by
  unfold Instr.fieldAt
  simp [Sem.run_bind, run_underlying Tryz.underlying179, Instr.sureAddr, go_sem, Addr.add]
section
variable {ops : Array Oper} {S : World → Prop} {a : Act} {oi : Oper}
theorem y_rem {t t' : TypeId} {y z : Operand} {m n r : Int} (hw : Region.wanted oi (yielded ops a.tmps) = true) (ho : oi.op = .binOp .rem t y z t') (hy : a.eval y = .int .i64 m) (hz : a.eval z = .int .i64 n) (hn : n ≠ 0) (hr : m.tmod n = r) : YieldsIf Tryz.prog ops S oi (.int .i64 r) a :=
  y_run hw fun w => by
    unfold execOp
    simp only [ho, hy, hz]
    simp [go_sem, hn, hr]
end

theorem enter_byte (args : Array Value) (w : World) : (callFunc 190 args).run Tryz.prog w = .ok (.enter 190 args) w := run_enter Tryz.func190 (by kernel_rfl) rfl args w

def TkS (w : World) (B : ByteArray) (c r a : Int) (Z : Array Value) (w' : World) : Prop :=
  Below w.heap.size w w' ∧ At w' w.heap.size #[.string B, .int .i64 c, .int .i64 r, .int .i64 a] 179 ∧ At w' (w.heap.size + 2) Z 179
theorem TkS.set1 {w w1 : World} {B : ByteArray} {c r a : Int} {Z : Array Value} (h : TkS w B c r a Z w1) (x : Int) : TkS w B x r a Z (w1.setCell ⟨w.heap.size, 1, none⟩ (.int .i64 x)) :=
  ⟨h.1.setCell (by dsimp only; omega) _, h.2.1.setCell, h.2.2.setCell_other (by dsimp only; omega)⟩
theorem TkS.set2 {w w1 : World} {B : ByteArray} {c r a : Int} {Z : Array Value} (h : TkS w B c r a Z w1) (x : Int) : TkS w B c x a Z (w1.setCell ⟨w.heap.size, 2, none⟩ (.int .i64 x)) :=
  ⟨h.1.setCell (by dsimp only; omega) _, h.2.1.setCell, h.2.2.setCell_other (by dsimp only; omega)⟩
theorem TkS.set3 {w w1 : World} {B : ByteArray} {c r a : Int} {Z : Array Value} (h : TkS w B c r a Z w1) (x : Int) : TkS w B c r x Z (w1.setCell ⟨w.heap.size, 3, none⟩ (.int .i64 x)) :=
  ⟨h.1.setCell (by dsimp only; omega) _, h.2.1.setCell, h.2.2.setCell_other (by dsimp only; omega)⟩
theorem TkS.drew {w w1 : World} {B : ByteArray} {c r a : Int} {Z : Array Value} (h : TkS w B c r a Z w1) : TkS w B c r a Z w1.drew := ⟨h.1.drew, h.2⟩
theorem TkS.c0 {w w1 : World} {B : ByteArray} {c r a : Int} {Z : Array Value} (h : TkS w B c r a Z w1) : w1.cell? ⟨w.heap.size, 0, none⟩ = some (.string B) := h.2.1.cell 0
theorem TkS.c1 {w w1 : World} {B : ByteArray} {c r a : Int} {Z : Array Value} (h : TkS w B c r a Z w1) : w1.cell? ⟨w.heap.size, 1, none⟩ = some (.int .i64 c) := h.2.1.cell 1
theorem TkS.c2 {w w1 : World} {B : ByteArray} {c r a : Int} {Z : Array Value} (h : TkS w B c r a Z w1) : w1.cell? ⟨w.heap.size, 2, none⟩ = some (.int .i64 r) := h.2.1.cell 2
theorem TkS.c3 {w w1 : World} {B : ByteArray} {c r a : Int} {Z : Array Value} (h : TkS w B c r a Z w1) : w1.cell? ⟨w.heap.size, 3, none⟩ = some (.int .i64 a) := h.2.1.cell 3
theorem tk_boxes (w : World) (B : ByteArray) (c r a : Int) (K Z : Array Value) : ∀ W1, ((w.alloc (.cells #[.string B, .int .i64 c, .int .i64 r, .int .i64 a] 179)).alloc (.cells K 92)).alloc (.cells Z 179) = W1 →
    TkS w B c r a Z W1 ∧ At W1 (w.heap.size + 1) K 92 := by
  rintro W1 rfl
  have a1 := At.new (w.alloc (.cells #[.string B, .int .i64 c, .int .i64 r, .int .i64 a] 179)) K 92
  have a2 := At.new ((w.alloc (.cells #[.string B, .int .i64 c, .int .i64 r, .int .i64 a] 179)).alloc (.cells K 92)) Z 179
  simp only [World.size_alloc] at a1 a2
  exact ⟨⟨(((Below.refl _ _).alloc (Nat.le_refl _) _).alloc (by simp) _).alloc (by simp; omega) _, ((At.new w _ _).alloc _).alloc _, a2⟩, a1.alloc _⟩

def cut (c A : Nat) : Nat := (c + 4294967296 - A) % 4294967296
theorem take_eq (f : Nat → Nat) (d : Dt) (C : Cl) {u A q N : Nat} (hu : d.r / C.t = u) (hA : u * C.s = A) (hq : u * C.w = q) (hN : sh q = N) : d.take f C = ⟨feed f (4 + d.g) N (cut d.c A), q * 256 ^ N, d.g + N⟩ := by
  subst hu hA hq hN; rfl
theorem cut_le (c A : Nat) : cut c A ≤ 4294967295 := by unfold cut; omega

set_option maxHeartbeats 4000000 in
theorem refTake_as (B : ByteArray) (s : List UInt8) (d : Dt) (C : Cl) (w : World) (hs : ⟨s.toArray⟩ = B) (hn : s.length ≤ 1000) (hd : d.ok) (hC : C.ok) (hg : d.g ≤ 1000) :
    Calls Tryz.prog 148 #[.agg (rdA B d), .agg #[.int .i64 C.s, .int .i64 C.w, .int .i64 C.t]] w fun e w' => e = .returned (.agg (rdA B (d.take (byteF s) C))) ∧ Below w.heap.size w w' := by
  obtain ⟨r1, r2, r3⟩ := hd
  obtain ⟨q1, q2, q3, q4⟩ := step_dt r1 r2 hC
  obtain ⟨t1, t2, t3, t4⟩ := id hC
  obtain ⟨u, hu⟩ : ∃ u, d.r / C.t = u := ⟨_, rfl⟩
  rw [hu] at q1 q2 q3 q4
  obtain ⟨A, hA⟩ : ∃ A, u * C.s = A := ⟨_, rfl⟩
  obtain ⟨q, hq⟩ : ∃ q, u * C.w = q := ⟨_, rfl⟩
  rw [hA, hq] at q2
  rw [hq] at q3 q4
  obtain ⟨N, hN⟩ : ∃ N, sh q = N := ⟨_, rfl⟩
  rw [take_eq (byteF s) d C hu hA hq hN]
  have hN3 : N ≤ 3 := by rw [← hN]; exact sh_le q
  have HSH := hid (fun j (h : j < N) => sh_lt (q := q) (k := j) (by rw [hN]; exact h))
  have HSP := hid (hN ▸ sh_spec q3 q4)
  have hcl := cut_le d.c A
  have HCUT := hid (show (A ≤ d.c → (cut d.c A : Int) = (d.c : Int) - A) ∧ (d.c < A → (cut d.c A : Int) = (d.c : Int) - A + 4294967296) by unfold cut; omega)
  have HU := hid (show (d.r : Int) / (C.t : Int) = (u : Int) by rw [← hu]; exact (Int.natCast_ediv d.r C.t).symm)
  have HA := hid (show (u : Int) * (C.s : Int) = (A : Int) by rw [← hA, Int.natCast_mul])
  have HQ := hid (show (u : Int) * (C.w : Int) = (q : Int) by rw [← hq, Int.natCast_mul])
  have HBY := hid (fun i y w hi hy => refByte_as B s i y w hs hi (by omega) hy)
  have hub := Nat.div_le_self d.r C.t
  rw [hu] at hub
  unfold rdA
  dsimp only
  obtain ⟨g, hgg⟩ : ∃ g, d.g = g := ⟨_, rfl⟩
  rw [hgg] at hg ⊢
  obtain ⟨c1, hc1⟩ : ∃ c1, cut d.c A = c1 := ⟨_, rfl⟩
  rw [hc1] at HCUT hcl ⊢
  obtain ⟨c, hc⟩ : ∃ c, d.c = c := ⟨_, rfl⟩
  rw [hc] at HCUT r3 ⊢
  obtain ⟨S, hS⟩ : ∃ S : Int, (C.s : Int) = S := ⟨_, rfl⟩
  obtain ⟨V, hV⟩ : ∃ V : Int, (C.w : Int) = V := ⟨_, rfl⟩
  obtain ⟨T, hT⟩ : ∃ T : Int, (C.t : Int) = T := ⟨_, rfl⟩
  obtain ⟨R, hRr⟩ : ∃ R : Int, (d.r : Int) = R := ⟨_, rfl⟩
  rw [hS] at HA ⊢
  rw [hV] at HQ ⊢
  rw [hT, hRr] at HU
  rw [hT, hRr]
  have T1 : 1 ≤ T ∧ T ≤ 32768 := by omega
  have R1 : 16777216 ≤ R ∧ R ≤ 4294967295 := by omega
  have T0 : ¬ T = 0 := by omega
  have S1 : 0 ≤ S ∧ S ≤ 32768 := by omega
  have V1 : 1 ≤ V ∧ V ≤ 32768 := by omega
  have A1 : (A : Int) ≤ 4294967295 := by omega
  have Q1 : (q : Int) ≤ 4294967295 := by omega
  have U1 : (u : Int) ≤ 4294967295 := by omega
  have C1 : (c : Int) ≤ 4294967295 := by omega
  have e1 : R.tdiv T = u := by rw [Int.tdiv_eq_ediv_of_nonneg (by omega)]; exact HU.out
  have e2 := HU.out
  have e3 := HA.out
  have e4 := HQ.out
  obtain ⟨X, hX⟩ : ∃ X : Int, (c : Int) - A = X := ⟨_, rfl⟩
  rw [hX] at HCUT
  have X1 : -4294967295 ≤ X ∧ X ≤ 4294967295 := by omega
  obtain ⟨x1, x2⟩ := X1
  obtain ⟨t1, t2⟩ := T1
  obtain ⟨v1, v2⟩ := V1
  obtain ⟨s1, s2⟩ := S1
  obtain ⟨rr1, rr2⟩ := R1
  have HXS := hid (show A ≤ c ↔ ¬ X < 0 by omega)
  obtain ⟨G, hG⟩ : ∃ G : Int, ((4 + g : Nat) : Int) = G := ⟨_, rfl⟩
  have HG := hid hG
  rw [hG]
  clear hu hA hq hN hS hV hT hRr hc hc1 hgg hs r1 r2 r3 q1 q2 t3 t4 hub HU HA HQ hG hC
  rename_i hcut
  go_enter Tryz.func148, Tryz.ntmps148
  go_upto_region 1 with fail
  obtain ⟨W1, hW1⟩ : ∃ W1, ((w.alloc (.cells #[.string B, .int .i64 c, .int .i64 R, .int .i64 G] 179)).alloc (.cells #[.int .i64 S, .int .i64 V, .int .i64 T] 92)).alloc (.cells #[.string ⟨#[]⟩, .int .i64 0, .int .i64 0, .int .i64 0] 179) = W1 := ⟨_, rfl⟩
  obtain ⟨hTK, hK⟩ := tk_boxes w B c R G _ _ W1 hW1
  rw [hW1]
  have HTK := hid hTK
  have a1 := hTK.c1
  have a2 := hTK.c2
  have k0 := hK.cell 0
  have k1 := hK.cell 1
  have k2 := hK.cell 2
  have f1 := hTK.2.1.frozen 1
  have HK := hid hK
  clear hW1 hTK hK
  by_cases hca : A ≤ c
  · have hx0 := HXS.out.1 hca
    have HC1 := hid (HCUT.out.1 hca)
    have HT2 := hid (HTK.out.set1 X)
    have d1 := HT2.out.c1
    have f3 := HT2.out.2.1.frozen 2
    have k1' : World.cell? (W1.setCell ⟨w.heap.size, 1, none⟩ (.int .i64 X)) ⟨w.heap.size + 1, 1, none⟩ = some (.int .i64 V) := by
      rw [cell_set_other _ _ _ _ (by dsimp only; omega)]
      exact k1
    have HT3 := hid (HT2.out.set2 (q : Int))
    clear HT2 HTK HCUT HXS hca
    go_wp2_with fail
    clear HK a1 a2 k0 k1 k2 k1' f1 f3 d1 hx0
    revert HT3
    generalize World.setCell _ _ _ = W3
    intro HT3
    rw [← HC1.out, ← HG.out] at HT3
    clear HC1
    go_loopg [] 4 (fun n w' => ∃ k : Nat, k + n = 4 ∧ k ≤ N ∧ Hid (TkS w B ((feed (byteF s) (4 + g) k c1 : Nat) : Int) ((q * 256 ^ k : Nat) : Int) ((4 + g + k : Nat) : Int) #[.string ⟨#[]⟩, .int .i64 0, .int .i64 0, .int .i64 0] w'))
    case atStart => exact ⟨0, by omega, by omega, hid (by rw [Nat.pow_zero, Nat.mul_one]; exact HT3.out)⟩
    case round =>
      obtain ⟨k, hkn, hk, HS⟩ := hrel
      obtain ⟨m, hm⟩ : ∃ m, m = gk := ⟨_, rfl⟩
      subst hm
      clear HT3
      by_cases hlt : k < N
      · have hl := HSH.out k hlt
        have HXX := hid (show q * 256 ^ (k + 1) = 256 * (q * 256 ^ k) by rw [Nat.pow_succ, Nat.mul_comm, Nat.mul_comm (256 ^ k), Nat.mul_comm (q), Nat.mul_assoc])
        have hpos : 1 ≤ q * 256 ^ k := Nat.mul_pos q3 (Nat.pow_pos (by omega))
        have hx := feed_le (byteF s) k (4 + g) c1 hcl
        have HFS := hid (feed_snoc (byteF s) k (4 + g) c1)
        have hyb := byteF_le s (4 + g + k)
        obtain ⟨yb, hy⟩ : ∃ yb, byteF s (4 + g + k) = yb := ⟨_, rfl⟩
        have HBK := hid (fun w => HBY.out (4 + g + k) yb w (by omega) hy)
        have HAK := hid (show ((4 + g + (k + 1) : Nat) : Int) = ((4 + g + k : Nat) : Int) + 1 by omega)
        have ha2 : ((4 + g + k : Nat) : Int) ≤ 2000 := by omega
        have ha1 : (0 : Int) ≤ ((4 + g + k : Nat) : Int) := by omega
        rw [hy] at HFS hyb
        obtain ⟨y, hyy⟩ : ∃ y, q * 256 ^ k = y := ⟨_, rfl⟩
        obtain ⟨x, hxx⟩ : ∃ x, feed (byteF s) (4 + g) k c1 = x := ⟨_, rfl⟩
        obtain ⟨a, haa⟩ : ∃ a : Int, ((4 + g + k : Nat) : Int) = a := ⟨_, rfl⟩
        rw [hyy] at hl HXX hpos HS
        rw [hxx] at hx HFS HS
        rw [haa] at HBK HAK HS ha1 ha2
        obtain ⟨Y, hY⟩ : ∃ Y : Int, (y : Int) = Y := ⟨_, rfl⟩
        obtain ⟨Y2, hY2⟩ : ∃ Y2 : Int, 256 * Y = Y2 := ⟨_, rfl⟩
        have HYY := hid (show ((256 * y : Nat) : Int) = Y2 by omega)
        have l1 : Y < 16777216 := by omega
        have l2 : 1 ≤ Y := by omega
        have hM2 : IntKind.i64.wrap (256 * (x : Int)) = 256 * (x : Int) := IntWalk.i64_in _ (by omega)
        have hM3 : IntKind.i64.wrap (256 * (x : Int) + (yb : Int)) = 256 * (x : Int) + (yb : Int) := IntWalk.i64_in _ (by omega)
        obtain ⟨x', hx'⟩ : ∃ x', (x * 256 + yb) % 4294967296 = x' := ⟨_, rfl⟩
        rw [hx'] at HFS
        have hM4 : (256 * (x : Int) + (yb : Int)).tmod 4294967296 = (x' : Int) := by rw [Int.tmod_eq_emod_of_nonneg (by omega), ← hx']; omega
        rw [hY] at HS
        have c2 := HS.out.c2
        have f2 := HS.out.2.1.frozen 2
        have HT7 := hid (HS.out.set2 Y2)
        have HLT := hid hlt
        clear hy hyy hxx haa hx' hl hpos HS hlt
        go_wp2_with fail
        revert HT7
        generalize World.setCell _ _ _ = W7
        intro HT7
        clear c2 f2
        refine mf_start (SB W7) (fun j => j == 11) (Below.refl _ _).drew fun hS => ?_
        refine mf_yield (i := 0) (d := 38) (.pointer (some ⟨w.heap.size, 1, none⟩)) rfl rfl (by kernel_rfl) (by kernel_rfl) (by kernel_rfl) (by kernel_rfl) hS (y_field (by rfl) rfl rfl fld_d1) ?_
        simp only [Act.put, setIfInBounds_toArray, set_cons_zero, set_cons_succ]
        refine mf_yield (i := 1) (d := 39) (.int .i64 x) rfl rfl (by kernel_rfl) (by kernel_rfl) (by kernel_rfl) (by kernel_rfl) hS (y_cell (by rfl) rfl rfl HT7.out.c1) ?_
        simp only [Act.put, setIfInBounds_toArray, set_cons_zero, set_cons_succ]
        refine mf_yield (i := 2) (d := 40) (.int .i64 (256 * (x : Int))) rfl rfl (by kernel_rfl) (by kernel_rfl) (by kernel_rfl) (by kernel_rfl) hS (y_mul (by rfl) rfl rfl rfl hM2) ?_
        simp only [Act.put, setIfInBounds_toArray, set_cons_zero, set_cons_succ]
        refine mf_yield (i := 3) (d := 41) (.pointer (some ⟨w.heap.size, 0, none⟩)) rfl rfl (by kernel_rfl) (by kernel_rfl) (by kernel_rfl) (by kernel_rfl) hS (y_field (by rfl) rfl rfl fld_d0) ?_
        simp only [Act.put, setIfInBounds_toArray, set_cons_zero, set_cons_succ]
        refine mf_yield (i := 4) (d := 42) (.string B) rfl rfl (by kernel_rfl) (by kernel_rfl) (by kernel_rfl) (by kernel_rfl) hS (y_cellV (by rfl) rfl rfl Tryz.underlying9 rfl (fun w' h => (Below.cell h (block_lt_of_cell HT7.out.c0)).trans HT7.out.c0)) ?_
        simp only [Act.put, setIfInBounds_toArray, set_cons_zero, set_cons_succ]
        refine mf_yield (i := 5) (d := 43) (.pointer (some ⟨w.heap.size, 3, none⟩)) rfl rfl (by kernel_rfl) (by kernel_rfl) (by kernel_rfl) (by kernel_rfl) hS (y_field (by rfl) rfl rfl fld_d3) ?_
        simp only [Act.put, setIfInBounds_toArray, set_cons_zero, set_cons_succ]
        refine mf_yield (i := 6) (d := 44) (.int .i64 a) rfl rfl (by kernel_rfl) (by kernel_rfl) (by kernel_rfl) (by kernel_rfl) hS (y_cell (by rfl) rfl rfl HT7.out.c3) ?_
        simp only [Act.put, setIfInBounds_toArray, set_cons_zero, set_cons_succ]
        refine mf_ready [7] (by kernel_rfl) (by simp) (af_call (i := 7) (d := 45) (R := fun v w' => v = .int .i64 yb ∧ W7.drew = w') #[.string B, .int .i64 a] rfl rfl (by rfl) rfl enter_byte (by kernel_rfl) ((HBK.out _).mono fun e w' h => ⟨_, h.1, rfl, h.2⟩) (fun v w' h => h.2 ▸ hS) ?_ AllReadyF.nil)
        rintro v w' ⟨rfl, rfl⟩ hS
        simp only [Act.put, setIfInBounds_toArray, set_cons_zero, set_cons_succ]
        refine mf_yield (i := 8) (d := 46) (.int .i64 (256 * (x : Int) + (yb : Int))) rfl rfl (by kernel_rfl) (by kernel_rfl) (by kernel_rfl) (by kernel_rfl) hS (y_add (by rfl) rfl rfl rfl hM3) ?_
        simp only [Act.put, setIfInBounds_toArray, set_cons_zero, set_cons_succ]
        refine mf_yield (i := 9) (d := 47) (.int .i64 x') rfl rfl (by kernel_rfl) (by kernel_rfl) (by kernel_rfl) (by kernel_rfl) hS (y_rem (by rfl) rfl rfl rfl (by omega) hM4) ?_
        simp only [Act.put, setIfInBounds_toArray, set_cons_zero, set_cons_succ]
        refine mf_yield (i := 10) (d := 48) (.pointer (some ⟨w.heap.size, 1, none⟩)) rfl rfl (by kernel_rfl) (by kernel_rfl) (by kernel_rfl) (by kernel_rfl) hS (y_field (by rfl) rfl rfl fld_d1) ?_
        simp only [Act.put, setIfInBounds_toArray, set_cons_zero, set_cons_succ]
        refine mf_ready [11] (by kernel_rfl) (by simp) (af_cell (i := 11) ⟨w.heap.size, 1, none⟩ (x' : Int) rfl rfl (by rfl) rfl rfl rfl rfl HT7.out.drew.c1 (HT7.out.drew.2.1.frozen 1) ?_ AllReadyF.nil)
        refine mf_done (by kernel_rfl) ?_
        have HT8 := hid (HT7.out.drew.set1 (x' : Int))
        clear hS HT7
        revert HT8
        generalize World.setCell _ _ _ = W8
        intro HT8
        have c3 := HT8.out.c3
        have f3 := HT8.out.2.1.frozen 3
        have HT9 := hid (HT8.out.set3 (a + 1))
        clear HT8 hM2 hM3 hM4
        go_wp2_with fail
        go_roundg (m - 1)
        case measure => omega
        case rel => exact ⟨k + 1, by omega, HLT.out, hid (by rw [HFS.out, HXX.out, HYY.out, HAK.out]; exact HT9.out)⟩
      · obtain rfl : k = N := by omega
        obtain ⟨s1', s2'⟩ := HSP.out
        have HG2 := hid (show 4 + g + k = 4 + (g + k) by omega)
        rw [HG2.out] at HS
        obtain ⟨y, hyy⟩ : ∃ y, q * 256 ^ k = y := ⟨_, rfl⟩
        obtain ⟨x, hxx⟩ : ∃ x, feed (byteF s) (4 + g) k c1 = x := ⟨_, rfl⟩
        obtain ⟨a, haa⟩ : ∃ a : Int, ((4 + (g + k) : Nat) : Int) = a := ⟨_, rfl⟩
        have HXE := hid hxx
        have HAE := hid haa
        rw [hyy] at HS s1'
        rw [hxx] at HS
        rw [haa] at HS
        obtain ⟨Y, hY⟩ : ∃ Y : Int, (y : Int) = Y := ⟨_, rfl⟩
        have HYE := hid (show ((q * 256 ^ k : Nat) : Int) = Y by rw [hyy, hY])
        rw [hY] at HS
        have l1 : ¬ Y < 16777216 := by omega
        have c2 := HS.out.c2
        clear hyy hxx haa hlt hk HSP hY s1' s2'
        go_wp2_with (first
          | refine wpList_load_row rfl 179 _ rfl w.heap.size rfl _ _ (0, 0) _ HS.out.2.1 Tryz.underlying179 rfl (by kernel_rfl) ?_
          | refine wpList_store_row rfl 179 _ _ rfl (w.heap.size + 2) #[.string B, .int .i64 x, .int .i64 Y, .int .i64 a] rfl rfl _ _ HS.out.2.2 (by kernel_rfl) rfl (one_dec _ _ _ _) ?_)
        refine bodyPost_ret (v := .agg #[.string B, .int .i64 x, .int .i64 Y, .int .i64 a]) (results_dec rfl _ _ (w.heap.size + 2) _ _ _ _ rfl HS.out.2.2.setRow) rfl ⟨by rw [HXE.out, show (q : Int) * 256 ^ k = Y by rw [← HYE.out, Int.natCast_mul, Int.natCast_pow]; rfl, show 4 + ((g : Int) + (k : Int)) = a by have := HAE.out; omega], below_setRow' HS.out.1 (by omega) _⟩
  · have hx0 : X < 0 := by
      by_cases h : X < 0
      · exact h
      · exact absurd (HXS.out.2 h) hca
    have HC1 := hid (HCUT.out.2 (by omega))
    have HT1 := hid (HTK.out.set1 X)
    have b1 := HT1.out.c1
    have f2 := HT1.out.2.1.frozen 1
    obtain ⟨X', hX'⟩ : ∃ X' : Int, X + 4294967296 = X' := ⟨_, rfl⟩
    rw [hX'] at HC1
    have HT2 := hid (HT1.out.set1 X')
    have d1 := HT2.out.c1
    have f3 := HT2.out.2.1.frozen 2
    have k1' : World.cell? ((W1.setCell ⟨w.heap.size, 1, none⟩ (.int .i64 X)).setCell ⟨w.heap.size, 1, none⟩ (.int .i64 X')) ⟨w.heap.size + 1, 1, none⟩ = some (.int .i64 V) := by
      rw [cell_set_other _ _ _ _ (by dsimp only; omega), cell_set_other _ _ _ _ (by dsimp only; omega)]
      exact k1
    have HT3 := hid (HT2.out.set2 (q : Int))
    clear HT2 HTK HCUT HXS hca HT1
    go_wp2_with fail
    clear HK a1 a2 k0 k1 k2 k1' f1 f3 d1 hx0 b1 f2
    revert HT3
    generalize World.setCell _ _ _ = W3
    intro HT3
    rw [← HC1.out, ← HG.out] at HT3
    clear HC1
    go_loopg [] 4 (fun n w' => ∃ k : Nat, k + n = 4 ∧ k ≤ N ∧ Hid (TkS w B ((feed (byteF s) (4 + g) k c1 : Nat) : Int) ((q * 256 ^ k : Nat) : Int) ((4 + g + k : Nat) : Int) #[.string ⟨#[]⟩, .int .i64 0, .int .i64 0, .int .i64 0] w'))
    case atStart => exact ⟨0, by omega, by omega, hid (by rw [Nat.pow_zero, Nat.mul_one]; exact HT3.out)⟩
    case round =>
      obtain ⟨k, hkn, hk, HS⟩ := hrel
      obtain ⟨m, hm⟩ : ∃ m, m = gk := ⟨_, rfl⟩
      subst hm
      clear HT3
      by_cases hlt : k < N
      · have hl := HSH.out k hlt
        have HXX := hid (show q * 256 ^ (k + 1) = 256 * (q * 256 ^ k) by rw [Nat.pow_succ, Nat.mul_comm, Nat.mul_comm (256 ^ k), Nat.mul_comm (q), Nat.mul_assoc])
        have hpos : 1 ≤ q * 256 ^ k := Nat.mul_pos q3 (Nat.pow_pos (by omega))
        have hx := feed_le (byteF s) k (4 + g) c1 hcl
        have HFS := hid (feed_snoc (byteF s) k (4 + g) c1)
        have hyb := byteF_le s (4 + g + k)
        obtain ⟨yb, hy⟩ : ∃ yb, byteF s (4 + g + k) = yb := ⟨_, rfl⟩
        have HBK := hid (fun w => HBY.out (4 + g + k) yb w (by omega) hy)
        have HAK := hid (show ((4 + g + (k + 1) : Nat) : Int) = ((4 + g + k : Nat) : Int) + 1 by omega)
        have ha2 : ((4 + g + k : Nat) : Int) ≤ 2000 := by omega
        have ha1 : (0 : Int) ≤ ((4 + g + k : Nat) : Int) := by omega
        rw [hy] at HFS hyb
        obtain ⟨y, hyy⟩ : ∃ y, q * 256 ^ k = y := ⟨_, rfl⟩
        obtain ⟨x, hxx⟩ : ∃ x, feed (byteF s) (4 + g) k c1 = x := ⟨_, rfl⟩
        obtain ⟨a, haa⟩ : ∃ a : Int, ((4 + g + k : Nat) : Int) = a := ⟨_, rfl⟩
        rw [hyy] at hl HXX hpos HS
        rw [hxx] at hx HFS HS
        rw [haa] at HBK HAK HS ha1 ha2
        obtain ⟨Y, hY⟩ : ∃ Y : Int, (y : Int) = Y := ⟨_, rfl⟩
        obtain ⟨Y2, hY2⟩ : ∃ Y2 : Int, 256 * Y = Y2 := ⟨_, rfl⟩
        have HYY := hid (show ((256 * y : Nat) : Int) = Y2 by omega)
        have l1 : Y < 16777216 := by omega
        have l2 : 1 ≤ Y := by omega
        have hM2 : IntKind.i64.wrap (256 * (x : Int)) = 256 * (x : Int) := IntWalk.i64_in _ (by omega)
        have hM3 : IntKind.i64.wrap (256 * (x : Int) + (yb : Int)) = 256 * (x : Int) + (yb : Int) := IntWalk.i64_in _ (by omega)
        obtain ⟨x', hx'⟩ : ∃ x', (x * 256 + yb) % 4294967296 = x' := ⟨_, rfl⟩
        rw [hx'] at HFS
        have hM4 : (256 * (x : Int) + (yb : Int)).tmod 4294967296 = (x' : Int) := by rw [Int.tmod_eq_emod_of_nonneg (by omega), ← hx']; omega
        rw [hY] at HS
        have c2 := HS.out.c2
        have f2 := HS.out.2.1.frozen 2
        have HT7 := hid (HS.out.set2 Y2)
        have HLT := hid hlt
        clear hy hyy hxx haa hx' hl hpos HS hlt
        go_wp2_with fail
        revert HT7
        generalize World.setCell _ _ _ = W7
        intro HT7
        clear c2 f2
        refine mf_start (SB W7) (fun j => j == 11) (Below.refl _ _).drew fun hS => ?_
        refine mf_yield (i := 0) (d := 38) (.pointer (some ⟨w.heap.size, 1, none⟩)) rfl rfl (by kernel_rfl) (by kernel_rfl) (by kernel_rfl) (by kernel_rfl) hS (y_field (by rfl) rfl rfl fld_d1) ?_
        simp only [Act.put, setIfInBounds_toArray, set_cons_zero, set_cons_succ]
        refine mf_yield (i := 1) (d := 39) (.int .i64 x) rfl rfl (by kernel_rfl) (by kernel_rfl) (by kernel_rfl) (by kernel_rfl) hS (y_cell (by rfl) rfl rfl HT7.out.c1) ?_
        simp only [Act.put, setIfInBounds_toArray, set_cons_zero, set_cons_succ]
        refine mf_yield (i := 2) (d := 40) (.int .i64 (256 * (x : Int))) rfl rfl (by kernel_rfl) (by kernel_rfl) (by kernel_rfl) (by kernel_rfl) hS (y_mul (by rfl) rfl rfl rfl hM2) ?_
        simp only [Act.put, setIfInBounds_toArray, set_cons_zero, set_cons_succ]
        refine mf_yield (i := 3) (d := 41) (.pointer (some ⟨w.heap.size, 0, none⟩)) rfl rfl (by kernel_rfl) (by kernel_rfl) (by kernel_rfl) (by kernel_rfl) hS (y_field (by rfl) rfl rfl fld_d0) ?_
        simp only [Act.put, setIfInBounds_toArray, set_cons_zero, set_cons_succ]
        refine mf_yield (i := 4) (d := 42) (.string B) rfl rfl (by kernel_rfl) (by kernel_rfl) (by kernel_rfl) (by kernel_rfl) hS (y_cellV (by rfl) rfl rfl Tryz.underlying9 rfl (fun w' h => (Below.cell h (block_lt_of_cell HT7.out.c0)).trans HT7.out.c0)) ?_
        simp only [Act.put, setIfInBounds_toArray, set_cons_zero, set_cons_succ]
        refine mf_yield (i := 5) (d := 43) (.pointer (some ⟨w.heap.size, 3, none⟩)) rfl rfl (by kernel_rfl) (by kernel_rfl) (by kernel_rfl) (by kernel_rfl) hS (y_field (by rfl) rfl rfl fld_d3) ?_
        simp only [Act.put, setIfInBounds_toArray, set_cons_zero, set_cons_succ]
        refine mf_yield (i := 6) (d := 44) (.int .i64 a) rfl rfl (by kernel_rfl) (by kernel_rfl) (by kernel_rfl) (by kernel_rfl) hS (y_cell (by rfl) rfl rfl HT7.out.c3) ?_
        simp only [Act.put, setIfInBounds_toArray, set_cons_zero, set_cons_succ]
        refine mf_ready [7] (by kernel_rfl) (by simp) (af_call (i := 7) (d := 45) (R := fun v w' => v = .int .i64 yb ∧ W7.drew = w') #[.string B, .int .i64 a] rfl rfl (by rfl) rfl enter_byte (by kernel_rfl) ((HBK.out _).mono fun e w' h => ⟨_, h.1, rfl, h.2⟩) (fun v w' h => h.2 ▸ hS) ?_ AllReadyF.nil)
        rintro v w' ⟨rfl, rfl⟩ hS
        simp only [Act.put, setIfInBounds_toArray, set_cons_zero, set_cons_succ]
        refine mf_yield (i := 8) (d := 46) (.int .i64 (256 * (x : Int) + (yb : Int))) rfl rfl (by kernel_rfl) (by kernel_rfl) (by kernel_rfl) (by kernel_rfl) hS (y_add (by rfl) rfl rfl rfl hM3) ?_
        simp only [Act.put, setIfInBounds_toArray, set_cons_zero, set_cons_succ]
        refine mf_yield (i := 9) (d := 47) (.int .i64 x') rfl rfl (by kernel_rfl) (by kernel_rfl) (by kernel_rfl) (by kernel_rfl) hS (y_rem (by rfl) rfl rfl rfl (by omega) hM4) ?_
        simp only [Act.put, setIfInBounds_toArray, set_cons_zero, set_cons_succ]
        refine mf_yield (i := 10) (d := 48) (.pointer (some ⟨w.heap.size, 1, none⟩)) rfl rfl (by kernel_rfl) (by kernel_rfl) (by kernel_rfl) (by kernel_rfl) hS (y_field (by rfl) rfl rfl fld_d1) ?_
        simp only [Act.put, setIfInBounds_toArray, set_cons_zero, set_cons_succ]
        refine mf_ready [11] (by kernel_rfl) (by simp) (af_cell (i := 11) ⟨w.heap.size, 1, none⟩ (x' : Int) rfl rfl (by rfl) rfl rfl rfl rfl HT7.out.drew.c1 (HT7.out.drew.2.1.frozen 1) ?_ AllReadyF.nil)
        refine mf_done (by kernel_rfl) ?_
        have HT8 := hid (HT7.out.drew.set1 (x' : Int))
        clear hS HT7
        revert HT8
        generalize World.setCell _ _ _ = W8
        intro HT8
        have c3 := HT8.out.c3
        have f3 := HT8.out.2.1.frozen 3
        have HT9 := hid (HT8.out.set3 (a + 1))
        clear HT8 hM2 hM3 hM4
        go_wp2_with fail
        go_roundg (m - 1)
        case measure => omega
        case rel => exact ⟨k + 1, by omega, HLT.out, hid (by rw [HFS.out, HXX.out, HYY.out, HAK.out]; exact HT9.out)⟩
      · obtain rfl : k = N := by omega
        obtain ⟨s1', s2'⟩ := HSP.out
        have HG2 := hid (show 4 + g + k = 4 + (g + k) by omega)
        rw [HG2.out] at HS
        obtain ⟨y, hyy⟩ : ∃ y, q * 256 ^ k = y := ⟨_, rfl⟩
        obtain ⟨x, hxx⟩ : ∃ x, feed (byteF s) (4 + g) k c1 = x := ⟨_, rfl⟩
        obtain ⟨a, haa⟩ : ∃ a : Int, ((4 + (g + k) : Nat) : Int) = a := ⟨_, rfl⟩
        have HXE := hid hxx
        have HAE := hid haa
        rw [hyy] at HS s1'
        rw [hxx] at HS
        rw [haa] at HS
        obtain ⟨Y, hY⟩ : ∃ Y : Int, (y : Int) = Y := ⟨_, rfl⟩
        have HYE := hid (show ((q * 256 ^ k : Nat) : Int) = Y by rw [hyy, hY])
        rw [hY] at HS
        have l1 : ¬ Y < 16777216 := by omega
        have c2 := HS.out.c2
        clear hyy hxx haa hlt hk HSP hY s1' s2'
        go_wp2_with (first
          | refine wpList_load_row rfl 179 _ rfl w.heap.size rfl _ _ (0, 0) _ HS.out.2.1 Tryz.underlying179 rfl (by kernel_rfl) ?_
          | refine wpList_store_row rfl 179 _ _ rfl (w.heap.size + 2) #[.string B, .int .i64 x, .int .i64 Y, .int .i64 a] rfl rfl _ _ HS.out.2.2 (by kernel_rfl) rfl (one_dec _ _ _ _) ?_)
        refine bodyPost_ret (v := .agg #[.string B, .int .i64 x, .int .i64 Y, .int .i64 a]) (results_dec rfl _ _ (w.heap.size + 2) _ _ _ _ rfl HS.out.2.2.setRow) rfl ⟨by rw [HXE.out, show (q : Int) * 256 ^ k = Y by rw [← HYE.out, Int.natCast_mul, Int.natCast_pow]; rfl, show 4 + ((g : Int) + (k : Int)) = a by have := HAE.out; omega], below_setRow' HS.out.1 (by omega) _⟩
end Go.Proofs.YtfohinlldchdpaaGreatDoor.De
end
