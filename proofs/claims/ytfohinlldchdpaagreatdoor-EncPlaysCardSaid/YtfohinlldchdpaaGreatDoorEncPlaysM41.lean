/- Texts of the walk, one behind the other. -/
import Derived.Test.YtfohinlldchdpaaGreatDoorEncPlaysM31
import Derived.Test.YtfohinlldchdpaaGreatDoorEncPlaysM11
import Derived.Test.YtfohinlldchdpaaGreatDoorEncPlaysM40
import Derived.Test.YtfohinlldchdpaaGreatDoorEncPlaysM2
import Derived.Test.YtfohinlldchdpaaGreatDoorEncPlaysM29
import Derived.Test.YtfohinlldchdpaaGreatDoorEncPlaysM18
import Derived.Test.YtfohinlldchdpaaGreatDoorEncPlaysM1

section
/- Contracts of the document's coder: NewEnc, Used, Is. -/
set_option maxRecDepth 100000
set_option linter.unusedVariables false
namespace Go.Proofs.YtfohinlldchdpaaGreatDoor.Rg
open Go.RowKit Go.Proofs.YtfohinlldchdpaaGreatDoor.Row

/-- The document's coder, low's bytes at block g. -/
structure RefAt (w : World) (g n c : Nat) (x : St) : Prop where
  n_eq : n = 4 + x.g
  n_le : n ≤ c
  c_le : c ≤ maxLen
  cell : ∀ i, i < n → w.cell? ⟨g, i, none⟩ = some (.int .i64 (dg x.L n i : Nat))
theorem RefAt.below {w w' : World} {g n c : Nat} {x : St} (h : RefAt w g n c x) (hb : Below w.heap.size w w') : RefAt w' g n c x :=
  ⟨h.n_eq, h.n_le, h.c_le, fun i hi => (Below.cell hb (block_lt_of_cell (h.cell i hi))).trans (h.cell i hi)⟩
theorem RefAt.keep {w w' : World} {g n c : Nat} {x : St} {A : Nat → Prop} (h : RefAt w g n c x) (hk : Keeps A w w') (hA : A g) : RefAt w' g n c x :=
  ⟨h.n_eq, h.n_le, h.c_le, fun i hi => hk.cell hA (h.cell i hi)⟩
theorem RefAt.fr {w w' : World} {g n c : Nat} {x : St} {T : Nat → Prop} (h : RefAt w g n c x) (hF : Fr T w w') (hT : ¬ T g) : RefAt w' g n c x :=
  ⟨h.n_eq, h.n_le, h.c_le, fun i hi => hF.cell (h.cell i hi) hT⟩
/-- The document's coder as a value. -/
def refV (g n c : Nat) (r : Int) : Value := .agg #[.slice (some ⟨g, 0, none⟩) n c, .int .i64 r]
/-- It is handed back, its bytes at a new block. -/
def RetRef (w : World) (x : St) (e : Ending) (w' : World) : Prop := ∃ g n c, e = .returned (refV g n c x.r) ∧ w.heap.size ≤ g ∧ RefAt w' g n c x ∧ Below w.heap.size w w'

theorem dg_zero (n i : Nat) : dg 0 n i = 0 := by unfold dg; simp

theorem results_ref {fn : Func} {p : Tmp} (h : fn.results = #[.cell p 85]) (tmps : Array Value) (w : World) (g : Nat) (v u : Value)
    (hp : tmps.getD p undef = .pointer (some ⟨g, 0, none⟩)) (hg : At w g #[v, u] 85) : (results fn tmps).run Tryz.prog w = .ok (.agg #[v, u]) w :=
  results_cell_row h tmps w g 85 #[v, u] (0, 0) _ hp hg Tryz.underlying85 rfl (by kernel_rfl)

theorem refNew_as (w : World) :
    Calls Tryz.prog 41 #[] w fun e w' => RetRef w St.new e w' := by
  go_enter Tryz.func41, Tryz.ntmps41
  go_wp2
  have H0 := (At.new w #[.slice (some ⟨w.heap.size + 1, 0, none⟩) 4 4, .int .i64 4294967295] 85).alloc (.cells #[.int .i64 0, .int .i64 0, .int .i64 0, .int .i64 0] 3)
  have H1 : At ((w.alloc (.cells #[.slice (some ⟨w.heap.size + 1, 0, none⟩) 4 4, .int .i64 4294967295] 85)).alloc (.cells #[.int .i64 0, .int .i64 0, .int .i64 0, .int .i64 0] 3)) (w.heap.size + 1) #[.int .i64 0, .int .i64 0, .int .i64 0, .int .i64 0] 3 := by
    have := At.new (w.alloc (.cells #[.slice (some ⟨w.heap.size + 1, 0, none⟩) 4 4, .int .i64 4294967295] 85)) #[.int .i64 0, .int .i64 0, .int .i64 0, .int .i64 0] 3
    simpa using this
  refine bodyPost_ret (v := refV (w.heap.size + 1) 4 4 4294967295) (results_ref rfl _ _ w.heap.size _ _ rfl H0) rfl ⟨_, _, _, rfl, by omega, ⟨rfl, Nat.le_refl _, by decide, fun i hi => ?_⟩, ((Below.refl _ _).alloc (Nat.le_refl _) _).alloc (by simp) _⟩
  show World.cell? _ _ = some (.int .i64 (dg 0 4 i : Nat))
  rw [dg_zero, H1.cell i]
  match i, hi with
  | 0, _ => rfl
  | 1, _ => rfl
  | 2, _ => rfl
  | 3, _ => rfl

theorem refLen_still (r : Nat) (w : World) (hr : r ≤ 4294967295) :
    Calls Tryz.prog 97 #[.int .i64 r] w fun e w' => e = .returned (.int .i64 (Lib.bitLen r : Nat)) ∧ w' = w :=
  (Ref01.length_any (r : Int) w (by omega) (by omega)).mono fun _ _ h => ⟨h.1, h.2.symm⟩

theorem refUsed_as (a : Option Addr) (n c r : Nat) (u : Int) (w : World) (hn : n ≤ 1000000) (hr : r ≤ 4294967295) (hu : 8 * ((n : Int) - 4) + 32 - (Lib.bitLen r : Nat) = u) :
    Calls Tryz.prog 47 #[.agg #[.slice a n c, .int .i64 r]] w fun e w' => e = .returned (.int .i64 u) ∧ Below w.heap.size w w' := by
  have hl := Lib.bitLen_le r 64 (by omega) (by omega)
  go_enter Tryz.func47, Tryz.ntmps47
  go_wp2_with fail
  have c0 : (w.alloc (.cells #[.slice a n c, .int .i64 r] 85)).drew.cell? ⟨w.heap.size, 0, none⟩ = some (.slice a n c) := (At.new w #[.slice a n c, .int .i64 r] 85).cell 0
  have c1 : (w.alloc (.cells #[.slice a n c, .int .i64 r] 85)).drew.cell? ⟨w.heap.size, 1, none⟩ = some (.int .i64 r) := (At.new w #[.slice a n c, .int .i64 r] 85).cell 1
  have HB := Lib.hid ((Below.refl w.heap.size w).alloc (Nat.le_refl _) (.cells #[.slice a n c, .int .i64 r] 85))
  go_quiet ((go_at_call 97; exact Calls.quiet_of_same (refLen_still r _ hr)))
  go_wp2
  go_ret
  exact ⟨by first | exact ret_int (by rw [← hu]) | exact ret_int (by rw [← hu]; omega), below_drewN HB.out _⟩

end Go.Proofs.YtfohinlldchdpaaGreatDoor.Rg
end

section
/- Contract of the document's coder: Put. -/
set_option maxRecDepth 100000
set_option linter.unusedVariables false
namespace Go.Proofs.YtfohinlldchdpaaGreatDoor.Rg
open Go.RowKit Go.Proofs.YtfohinlldchdpaaGreatDoor.Row

theorem OwnG.put {w : World} {B g c n : Nat} {f f' : Nat → Int} (h : OwnG w B g c n f) (i : Nat) (z : Int) (e : ∀ j, j < n → f' j = if j = i then z else f j) (hi : i < n) : OwnG (w.setCell ⟨g, i, none⟩ (.int .i64 z)) B g c n f' := by
  obtain ⟨h1, h2, h3, cur, hA, h4, h5⟩ := h
  refine ⟨h1, h2, h3, cur.setIfInBounds i (.int .i64 z), hA.setCell, by rw [Array.size_setIfInBounds]; exact h4, fun j hj => ?_⟩
  rw [e j hj]
  by_cases hj' : i = j
  · subst hj'
    rw [if_pos rfl, Array.getElem?_setIfInBounds_self_of_lt (by omega)]
  · rw [if_neg (by omega), Array.getElem?_setIfInBounds_ne hj']
    exact h5 j hj

theorem OwnG.row_other {w : World} {B g c n b : Nat} {f : Nat → Int} {A : Array Value} (h : OwnG w B g c n f) (hb : g ≠ b) : OwnG (w.setRow b A) B g c n f := by
  obtain ⟨h1, h2, h3, cur, hA, h4, h5⟩ := h
  exact ⟨h1, h2, h3, cur, hA.setRow_other hb, h4, h5⟩

/-- 'append([]int{}, q..)': a copy. -/
theorem wpList_append_copy {ops : Array Oper} {rest : List Oper} {o : Oper} {a : Act} {w : World} {Q : Exit → Act → World → Prop} (hgd : o.guard = none) (s x : Operand)
    (ho : o.op = .call { callee := .builtin .append, args := #[s, x], argTypes := #[68, 68] })
    (B : Nat) (f : Nat → Int) (k : Nat) (hs : a.eval s = .slice (some ⟨k, 0, none⟩) 0 0) (hk : B ≤ k) (hK : At w k #[] 3) (b n c : Nat) (hx : a.eval x = .slice (some ⟨b, 0, none⟩) n c) (hnew : ∀ i, i < n → w.cell? ⟨b, i, none⟩ = some (.int .i64 (f i)))
    (hn : 0 < n) (hn2 : n ≤ 1000000000) (hB : B ≤ w.heap.size)
    (h : ∀ g c' w', OwnG w' B g c' n f → Below B w w' → wpList Tryz.prog ops Q rest (a.put o.dst (.slice (some ⟨g, 0, none⟩) n c')) w') : wpList Tryz.prog ops Q (o :: rest) a w := by
  obtain ⟨i, hi, hz, hsz, hby⟩ := info_int3
  have hown : OwnS w B (some ⟨k, 0, none⟩) 0 0 f := .inr ⟨k, rfl, hk, Nat.le_refl _, Nat.zero_le _, #[], hK, rfl, fun i hi => absurd hi (Nat.not_lt_zero i)⟩
  refine wpList_append_own_at w hgd s x 68 ho B 3 i (.int .i64 0) 1 8 Tryz.underlying68 hi hz hsz hby rfl (by decide) (.slice (some ⟨k, 0, none⟩) 0 0) 0 (intsL f 0) hs hown.owns ⟨b, 0, none⟩ n c (intsL f n) hx (by rw [intsL_length]; omega) ?_ ?_ (by unfold maxLen; omega) (by omega) hB ?_
  · intro j u hj
    by_cases hjn : j < n
    · rw [intsL_get f n j hjn] at hj
      injection hj with hj
      subst hj
      have := hnew j hjn
      unfold Addr.add
      split
      · subst j; exact this
      · simpa using this
    · rw [List.getElem?_eq_none (by rw [intsL_length]; omega)] at hj
      cases hj
  · intro u hu
    unfold intsL at hu
    obtain ⟨j, _, rfl⟩ := List.mem_map.1 hu
    rfl
  · intro v' w' hown' hg _ hat
    have e0 : intsL f 0 ++ intsL f n = intsL f n := by unfold intsL; simp
    rw [e0, Nat.zero_add] at hown'
    obtain ⟨g, c', rfl, hG⟩ := own_of hown' hn
    exact h g c' w' hG ((Below.refl B w).grown hg hB fun j hj => own_block_ge hown j hj)

/-- low's bytes while a number is added: the k lowest are done. -/
def addF (L a n k i : Nat) : Int := if i < n - k then (dg L n i : Nat) else (dg (L + a) n i : Nat)
theorem addF_zero (L a n i : Nat) (hi : i < n) : addF L a n 0 i = (dg L n i : Nat) := by unfold addF; rw [if_pos (by omega)]
theorem addF_next (L a n k : Nat) (hk : k < n) (z : Int) (hz : z = (dg (L + a) n (n - 1 - k) : Nat)) (j : Nat) (hj : j < n) : addF L a n (k + 1) j = if j = n - 1 - k then z else addF L a n k j := by
  unfold addF
  by_cases h1 : j = n - 1 - k
  · rw [if_pos h1, if_neg (by omega), hz, h1]
  · rw [if_neg h1]
    by_cases h2 : j < n - k
    · rw [if_pos h2, if_pos (by omega)]
    · rw [if_neg h2, if_neg (by omega)]

/-- One byte of the sum. -/
theorem add_step {L a n k c d : Nat} (hk : k < n) (h : c + d = cr L a k) :
    (c + dg L n (n - 1 - k) + d % 256) / 256 + d / 256 = cr L a (k + 1) ∧ (c + dg L n (n - 1 - k) + d % 256) % 256 = dg (L + a) n (n - 1 - k) := by
  have h1 := cr_next L a k
  have h2 := cr_digit L a k
  have e : dg L n (n - 1 - k) = L / 256 ^ k % 256 := by unfold dg; rw [show n - 1 - (n - 1 - k) = k by omega]
  have e2 : dg (L + a) n (n - 1 - k) = (L + a) / 256 ^ k % 256 := by unfold dg; rw [show n - 1 - (n - 1 - k) = k by omega]
  rw [h1, e, e2, ← h2, ← h]
  have := Nat.mod_lt (L / 256 ^ k) (show 256 > 0 by omega)
  generalize L / 256 ^ k % 256 = b at *
  omega

/-- low's bytes behind zeros. -/
theorem put_dg {x : St} {C : Cl} {n j : Nat} (hn : n = 4 + x.g) (hj : j = sh (x.r / C.t * C.w)) (i : Nat) (hi : i < n + j) :
    (if i < n then (dg (x.L + x.r / C.t * C.s) n i : Nat) else 0) = dg (x.put C).L (n + j) i := by
  have e : (x.put C).L = (x.L + x.r / C.t * C.s) * 256 ^ j := by rw [hj]; rfl
  rw [e, dg_shift hi]

/-- low's bytes, with zeros behind. -/
def endF (L n i : Nat) : Int := if i < n then (dg L n i : Nat) else 0
theorem new_zero (w : World) (z : Int) (h : z = 0) : (w.alloc (.cells #[.int .i64 0] 3)).cell? ⟨w.heap.size, 0, none⟩ = some (.int .i64 z) := by
  rw [h, (At.new w #[.int .i64 0] 3).cell 0]
  rfl

/-- What stands while the document puts a cell: low's new bytes are its own. -/
def PutW (W : World) (g c n : Nat) (f : Nat → Int) (w' : World) : Prop := OwnG w' W.heap.size g c n f ∧ Below W.heap.size W w'

theorem one_ref (a : Option Addr) (n c : Nat) (z : Int) : (#[Value.slice a n c, Value.int .i64 z]).all (·.oneCell') = true := by simp [Value.oneCell']
theorem put_boxes (w : World) (v : Value) (R S V T : Int) : ∀ W1, ((w.alloc (.cells #[v, .int .i64 R] 85)).alloc (.cells #[.int .i64 S, .int .i64 V, .int .i64 T] 92)).alloc (.cells #[.slice none 0 0, .int .i64 0] 85) = W1 →
    W1.heap.size = w.heap.size + 3 ∧ W1.cell? ⟨w.heap.size, 0, none⟩ = some v ∧ W1.cell? ⟨w.heap.size + 1, 1, none⟩ = some (.int .i64 V) ∧ At W1 (w.heap.size + 1 + 1) #[.slice none 0 0, .int .i64 0] 85 ∧ Below w.heap.size w W1 := by
  rintro W1 rfl
  have h0 := ((At.new w #[v, .int .i64 R] 85).alloc (.cells #[.int .i64 S, .int .i64 V, .int .i64 T] 92)).alloc (.cells #[.slice none 0 0, .int .i64 0] 85)
  have h1 := (At.new (w.alloc (.cells #[v, .int .i64 R] 85)) #[.int .i64 S, .int .i64 V, .int .i64 T] 92).alloc (.cells #[.slice none 0 0, .int .i64 0] 85)
  have h2 := At.new ((w.alloc (.cells #[v, .int .i64 R] 85)).alloc (.cells #[.int .i64 S, .int .i64 V, .int .i64 T] 92)) #[.slice none 0 0, .int .i64 0] 85
  simp only [World.size_alloc] at h1 h2
  exact ⟨by simp, h0.cell 0, h1.cell 1, h2, (((Below.refl _ _).alloc (Nat.le_refl _) _).alloc (by simp) _).alloc (by simp; omega) _⟩

set_option maxHeartbeats 2000000 in
theorem refPut_as (g n c : Nat) (x : St) (C : Cl) (w : World) (hR : RefAt w g n c x) (hx : x.ok) (hC : C.ok) (hg : x.g ≤ 100000) :
    Calls Tryz.prog 44 #[refV g n c x.r, .agg #[.int .i64 C.s, .int .i64 C.w, .int .i64 C.t]] w fun e w' => RetRef w (x.put C) e w' := by
  obtain ⟨q1, q2, q3, q4⟩ := step_bd hx hC
  obtain ⟨t1, t2, t3, t4⟩ := id hC
  obtain ⟨x1, x2, x3⟩ := id hx
  have hn := hR.n_eq
  have HPD := Lib.hid (fun j hj i hi => put_dg (C := C) (j := j) hn hj i hi)
  have HRR := Lib.hid (show (x.put C).r = x.r / C.t * C.w * 256 ^ sh (x.r / C.t * C.w) from rfl)
  have HGG := Lib.hid (show (x.put C).g = x.g + sh (x.r / C.t * C.w) from rfl)
  have HSP := Lib.hid (sh_spec q3 q4)
  obtain ⟨u, hu⟩ : ∃ u, x.r / C.t = u := ⟨_, rfl⟩
  rw [hu] at HPD HRR HGG HSP q1 q2 q3 q4
  obtain ⟨A, hA⟩ : ∃ A, u * C.s = A := ⟨_, rfl⟩
  obtain ⟨q, hq⟩ : ∃ q, u * C.w = q := ⟨_, rfl⟩
  rw [hA] at HPD q2
  rw [hq] at HPD HRR HGG HSP q2 q3 q4
  have HEND := Lib.hid (cr_end (L := x.L) (a := A) (n := n) (by rw [hn, Nat.pow_add]; have : 256 ^ 4 = 4294967296 := rfl; rw [this]; omega))
  have HU := Lib.hid (show (x.r : Int) / (C.t : Int) = (u : Int) by rw [← hu]; exact (Int.natCast_ediv x.r C.t).symm)
  have HA := Lib.hid (show (u : Int) * (C.s : Int) = (A : Int) by rw [← hA, Int.natCast_mul])
  have HQ := Lib.hid (show (u : Int) * (C.w : Int) = (q : Int) by rw [← hq, Int.natCast_mul])
  have HR := Lib.hid hR
  have HC := Lib.hid hC
  have HX := Lib.hid hx
  have hn4 : 4 ≤ n := by omega
  have hnb : n ≤ 100004 := by omega
  have hub : (u : Int) ≤ 4294967295 := by
    have := Nat.div_le_self x.r C.t
    omega
  have hA2 : (A : Int) ≤ 4294967295 := by omega
  have hq2 : (q : Int) ≤ 4294967295 := by omega
  obtain ⟨S, hS⟩ : ∃ S : Int, (C.s : Int) = S := ⟨_, rfl⟩
  obtain ⟨V, hV⟩ : ∃ V : Int, (C.w : Int) = V := ⟨_, rfl⟩
  obtain ⟨T, hT⟩ : ∃ T : Int, (C.t : Int) = T := ⟨_, rfl⟩
  obtain ⟨R, hRr⟩ : ∃ R : Int, (x.r : Int) = R := ⟨_, rfl⟩
  rw [hS] at HA
  rw [hV] at HQ
  rw [hT, hRr] at HU
  have T1 : 1 ≤ T ∧ T ≤ 32768 := by omega
  have R1 : 16777216 ≤ R ∧ R ≤ 4294967295 := by omega
  have T0 : ¬ T = 0 := by omega
  have e1 : R.tdiv T = u := by rw [Int.tdiv_eq_ediv_of_nonneg (by omega)]; exact HU.out
  have e2 := HU.out
  have e3 := HA.out
  have e4 := HQ.out
  unfold refV
  rw [hS, hV, hT, hRr]
  have HN := Lib.hid hn
  clear hn hu hA hq hR hC hx q1 q2 t1 t2 t3 t4 x1 x2 x3 hS hV hT
  go_enter Tryz.func44, Tryz.ntmps44
  go_upto_region 3 with fail
  obtain ⟨W1, hW1⟩ : ∃ W1, ((w.alloc (.cells #[.slice (some ⟨g, 0, none⟩) n c, .int .i64 R] 85)).alloc (.cells #[.int .i64 S, .int .i64 V, .int .i64 T] 92)).alloc (.cells #[.slice none 0 0, .int .i64 0] 85) = W1 := ⟨_, rfl⟩
  obtain ⟨z1, c0, c1, hRes, hB1⟩ := put_boxes w _ R S V T W1 hW1
  rw [hW1]
  have HR1 := Lib.hid (HR.out.below hB1)
  have HRes := Lib.hid hRes
  have HB1 := Lib.hid hB1
  have C0 := Lib.hid c0
  have Z1 := Lib.hid z1
  have c0' := (Below.cell ((Below.refl _ _).alloc (Nat.le_refl _) (.cells #[] 3)) (block_lt_of_cell c0)).trans c0
  clear hW1 hRes hB1 HR z1
  go_wp2_with (at_builtin; refine wpList_append_copy rfl _ _ rfl W1.heap.size (fun i => (dg x.L n i : Nat)) W1.heap.size rfl (Nat.le_refl _) (At.new W1 _ _) g n c rfl (HR1.out.below ((Below.refl _ _).alloc (Nat.le_refl _) _)).cell (by omega) (by omega) (by simp) ?_)
  intro g2 c2 w2 hO hB2
  have P2 : Hid (PutW W1 g2 c2 n (addF x.L A n 0) w2) := ⟨hO.ext fun i hi => (addF_zero x.L A n i hi).symm, ((Below.refl _ _).alloc (Nat.le_refl _) _).trans hB2⟩
  clear hO hB2 HR1
  go_wp2
  go_loopw [6, 8, 9] (fun a s i wr => ∃ k d e : Nat, k ≤ n ∧ a = .int .i64 d ∧ s = .int .i64 e ∧ i = .int .i64 ((n : Int) - 1 - k) ∧ Hid (e + d = cr x.L A k) ∧ PutW W1 g2 c2 n (addF x.L A n k) wr) (fun _ _ i _ => (intOf i + 1).toNat)
  case atStart => exact ⟨0, A, 0, Nat.zero_le _, rfl, rfl, by simp, Lib.hid (by rw [cr_zero, Nat.zero_add]), P2.out⟩
  case round =>
    obtain ⟨k, d, e, hk, rfl, rfl, rfl, HE, hP⟩ := hrel
    have HP := Lib.hid hP
    clear hP P2
    by_cases hlt : k < n
    · have hcr := cr_le x.L A k
      have hed := HE.out
      have hm : (n : Int) - 1 - k = ((n - 1 - k : Nat) : Int) := by omega
      have HS := Lib.hid (add_step hlt HE.out)
      have HPUT := Lib.hid (fun z (hz : z = ((dg (x.L + A) n (n - 1 - k) : Nat) : Int)) => (⟨OwnG.put HP.out.1 (n - 1 - k) z (addF_next x.L A n k hlt z hz) (by omega), HP.out.2.setCell HP.out.1.1 _⟩ : PutW W1 g2 c2 n (addF x.L A n (k + 1)) (wr.setCell ⟨g2, n - 1 - k, none⟩ (.int .i64 z))))
      have hc := HP.out.1.cell (n - 1 - k) (by omega)
      have hf := HP.out.1.frozen (n - 1 - k)
      have hv : addF x.L A n k (n - 1 - k) = (dg x.L n (n - 1 - k) : Nat) := by unfold addF; rw [if_pos (by omega)]
      rw [hv] at hc
      have hD := dg_lt x.L n (n - 1 - k)
      have HM := Lib.hid (show ((n - 1 - k : Nat) : Int) - 1 = (n : Int) - 1 - ((k + 1 : Nat) : Int) by omega)
      rw [hm]
      obtain ⟨m, hmm⟩ : ∃ m, n - 1 - k = m := ⟨_, rfl⟩
      have hmn : m < n := by omega
      have hnc := HP.out.1.2.1
      rw [hmm] at hc hf hD HS HPUT HM ⊢
      obtain ⟨D, hDD⟩ : ∃ D, dg x.L n m = D := ⟨_, rfl⟩
      rw [hDD] at hc hD HS
      have hd : d ≤ 4294967295 := by omega
      have he : e ≤ 4294967295 := by omega
      have HB := Lib.hid hlt
      clear hcr hed hv hmm hDD hm hlt hk
      go_wp2
      go_roundw
      case rel =>
        refine ⟨k + 1, d / 256, (e + D + d % 256) / 256, HB.out, by go_num, by go_num, by rw [HM.out], Lib.hid HS.out.1, ?_⟩
        exact HPUT.out _ (by rw [← HS.out.2]; go_num)
      case measure => simp [intOf]
    · obtain rfl : k = n := by omega
      have c1' := (Below.cell HP.out.2 (block_lt_of_cell c1)).trans c1
      have P3 : Hid (PutW W1 g2 c2 (k + 0) (endF (x.L + A) k) wr) := ⟨HP.out.1.ext fun i hi => by unfold addF endF; rw [if_neg (by omega), if_pos (by omega)], HP.out.2⟩
      obtain ⟨N, hN⟩ : ∃ N, sh q = N := ⟨_, rfl⟩
      have HSH := Lib.hid (fun j (h : j < N) => sh_lt (q := q) (k := j) (by rw [hN]; exact h))
      have HNN := Lib.hid hN
      have hN3 : N ≤ 3 := by rw [← hN]; exact sh_le q
      rw [hN] at HRR HGG HSP
      clear hN HP HE hlt hk HEND
      go_wp2
      go_loopw [7, 10] (fun s r wr => ∃ j g3 c3 : Nat, j ≤ N ∧ s = .slice (some ⟨g3, 0, none⟩) (k + j) c3 ∧ r = .int .i64 ((q * 256 ^ j : Nat) : Int) ∧ PutW W1 g3 c3 (k + j) (endF (x.L + A) k) wr) (fun _ r _ => (4294967296 - intOf r).toNat)
      case atStart => exact ⟨0, g2, c2, Nat.zero_le _, rfl, by rw [Nat.pow_zero, Nat.mul_one], P3.out⟩
      case round =>
        obtain ⟨j, g3, c3, hj, rfl, rfl, hP⟩ := hrel
        have HP := Lib.hid hP
        clear hP P3
        by_cases hlt : j < N
        · have hl := HSH.out j hlt
          have HXX := Lib.hid (show q * 256 ^ (j + 1) = q * 256 ^ j * 256 by rw [Nat.pow_succ, Nat.mul_assoc])
          have hpos : 1 ≤ q * 256 ^ j := Nat.mul_pos q3 (Nat.pow_pos (by omega))
          obtain ⟨y, hy⟩ : ∃ y, q * 256 ^ j = y := ⟨_, rfl⟩
          rw [hy] at hl hpos HXX ⊢
          obtain ⟨Z, hZ⟩ : ∃ Z : Int, (y : Int) = Z := ⟨_, rfl⟩
          have hl2 : Z < 16777216 := by omega
          have hl3 : 1 ≤ Z := by omega
          have HZ := Lib.hid hZ
          rw [hZ]
          have HLT := Lib.hid hlt
          have hj3 : j ≤ 3 := by omega
          clear hy hl hlt hj hZ hpos
          go_wp2_with (at_builtin; refine wpList_append_one rfl _ _ rfl W1.heap.size (endF (x.L + A) k) (some ⟨g3, 0, none⟩) (k + j) c3 rfl (.inr ⟨g3, rfl, HP.out.1.below ((Below.refl _ _).alloc (Nat.le_refl _) _)⟩) wr.heap.size rfl (new_zero wr _ (by unfold endF; rw [if_neg (by omega)])) (by omega) (by have := HP.out.2.size; simp; omega) ?_)
          intro g4 c4 w4 hO hB _ _
          have HP4 := Lib.hid (show PutW W1 g4 c4 (k + (j + 1)) (endF (x.L + A) k) w4 from ⟨hO, (HP.out.2.alloc HP.out.2.size _).trans hB⟩)
          clear hO hB
          go_wp2
          go_roundw
          case rel => exact ⟨j + 1, g4, c4, HLT.out, rfl, by rw [HXX.out, ← HZ.out]; go_num, HP4.out⟩
          case measure => simp [intOf]; omega
        · obtain rfl : j = N := by omega
          obtain ⟨s1, s2⟩ := HSP.out
          have HR2 := Lib.hid (HRes.out.below HP.out.2 HRes.out.lt)
          rw [← HRR.out]
          obtain ⟨y, hy⟩ : ∃ y, (x.put C).r = y := ⟨_, rfl⟩
          have HY := Lib.hid hy
          rw [← HRR.out, hy] at s1 s2
          rw [hy]
          obtain ⟨Z, hZ⟩ : ∃ Z : Int, (y : Int) = Z := ⟨_, rfl⟩
          have hs1 : (16777216 : Int) ≤ Z := by omega
          have HZ := Lib.hid hZ
          rw [hZ]
          clear hy s1 s2 hlt hj hZ
          go_wp2_with (refine wpList_store_row rfl 85 _ _ rfl (w.heap.size + 1 + 1) #[.slice (some ⟨g3, 0, none⟩) (k + j) c3, .int .i64 Z] rfl rfl _ _ HR2.out (by kernel_rfl) rfl (one_ref _ _ _ _) ?_)
          have HF : Hid (RetRef w (x.put C) (.returned (refV g3 (k + j) c3 Z)) (wr.setRow (w.heap.size + 1 + 1) #[.slice (some ⟨g3, 0, none⟩) (k + j) c3, .int .i64 Z])) := by
            have hg3 : w.heap.size + 3 ≤ g3 := by rw [← Z1.out]; exact HP.out.1.1
            have hO := HP.out.1
            refine ⟨g3, k + j, c3, by rw [HY.out, HZ.out], by omega, ⟨by rw [HGG.out, HN.out]; omega, hO.2.1, hO.2.2.1, fun i hi => ?_⟩, ?_⟩
            · have h1 := OwnG.cell (w := wr.setRow (w.heap.size + 1 + 1) #[.slice (some ⟨g3, 0, none⟩) (k + j) c3, .int .i64 Z]) (f := endF (x.L + A) k) (OwnG.row_other hO (by omega)) i hi
              rw [h1, ← HPD.out j HNN.out.symm i hi]
              unfold endF
              split <;> rfl
            · refine below_setRow' ((HB1.out).trans (HP.out.2.mono ?_)) (by omega) _
              rw [Z1.out]; omega
          go_wp2
          refine bodyPost_ret (v := refV g3 (k + j) c3 Z) (results_ref rfl _ _ (w.heap.size + 1 + 1) _ _ rfl HR2.out.setRow) rfl HF.out
end Go.Proofs.YtfohinlldchdpaaGreatDoor.Rg
end

section
/- The document's cells of a number. -/
set_option maxRecDepth 100000
set_option linter.unusedVariables false
namespace Go.Proofs.YtfohinlldchdpaaGreatDoor.Rg
open Go.RowKit Go.Proofs.YtfohinlldchdpaaGreatDoor.Row

theorem one_cell (w : World) (C : Cl) (s t : Int) (h : (C.s : Int) = s ∧ C.w = 1 ∧ (C.t : Int) = t) :
    At (w.alloc (.cells #[.int .i64 s, .int .i64 1, .int .i64 t] 92)) w.heap.size #[.int .i64 C.s, .int .i64 C.w, .int .i64 C.t] 92 := by
  obtain ⟨rfl, h1, rfl⟩ := h
  rw [h1]
  exact At.new w #[.int .i64 C.s, .int .i64 1, .int .i64 C.t] 92

set_option maxHeartbeats 2000000 in
theorem refBits_as (x n : Nat) (w : World) (hn : n ≤ 24) (hx : x < 2 ^ 24) :
    Calls Tryz.prog 48 #[.int .i64 x, .int .i64 n] w fun e w' => RetCls w (bitsC 3 x n) e w' := by
  go_enter Tryz.func48, Tryz.ntmps48
  go_wp2
  go_loopw [0, 1, 5] (fun a c v w' => ∃ (f x' n' k : Nat) (P : List Cl) (ao : Option Addr) (cc : Nat), a = .int .i64 x' ∧ c = .int .i64 n' ∧ n' ≤ 8 * f ∧ n' ≤ 24 ∧ x' < 2 ^ 24 ∧ k + f ≤ 3 ∧ Hid (P ++ bitsC f x' n' = bitsC 3 x n) ∧ v = .slice ao k cc ∧ Cls w' w.heap.size ao k cc P ∧ Below w.heap.size w w') (fun _ c _ _ => (intOf c).toNat)
  case atStart => exact ⟨3, x, n, 0, [], none, 0, rfl, rfl, by omega, hn, hx, by omega, Lib.hid rfl, rfl, Cls.nil _ _, Below.refl _ _⟩
  case round =>
    obtain ⟨f, x', n', k, P, ao, cc, rfl, rfl, hnf, hn24, hx24, hkf, HZ, rfl, hC, hB⟩ := hrel
    have HC0 := Lib.hid hC
    have HB0 := Lib.hid hB
    clear hC hB hn hx
    by_cases h0 : 0 < n'
    · obtain ⟨f, rfl⟩ : ∃ f', f = f' + 1 := ⟨f - 1, by omega⟩
      have HB := Lib.hid (show bitsC (f + 1) x' n' = ⟨x' % 2 ^ min n' 8, 1, 2 ^ min n' 8⟩ :: bitsC f (x' / 2 ^ min n' 8) (n' - min n' 8) by rw [bitsC, if_neg (by omega)])
      obtain ⟨q1, q2⟩ := pow8 n'
      have hdiv := Nat.div_le_self x' (2 ^ min n' 8)
      obtain ⟨m, hm⟩ : ∃ m, min n' 8 = m := ⟨_, rfl⟩
      have hmin : ∀ W, (Builtin.min_ #[3, 3] 3 #[.int .i64 n', .int .i64 8]).run Tryz.prog W = .ok (.int .i64 m) W := fun W => by
        rw [← hm]
        simp [Builtin.min_, Builtin.min2]
        split <;> omega
      have hm8 : m ≤ 8 := by omega
      have hm1 : 1 ≤ m := by omega
      have hmn : m ≤ n' := by omega
      have hnm : n' - m ≤ 8 * f := by omega
      rw [hm] at HB q1 q2 hdiv
      obtain ⟨Q, hQ⟩ : ∃ Q : Int, (2 : Int) ^ m = Q := ⟨_, rfl⟩
      have hQn : ((2 ^ m : Nat) : Int) = Q := by rw [← hQ]; exact Int.natCast_pow 2 m
      have P1 : 1 ≤ Q := by omega
      have P0 : ¬ Q = 0 := by omega
      have P00 : (Q == 0) = false := by rw [beq_eq_false_iff_ne]; exact P0
      have hrem : (x' : Int).tmod Q = (x' : Int) % Q := Int.tmod_eq_emod_of_nonneg (by omega)
      obtain ⟨Z, hZq⟩ : ∃ Z : Int, (x' : Int) / Q = Z := ⟨_, rfl⟩
      have hquo : (x' : Int).tdiv Q = Z := by rw [← hZq]; exact Int.tdiv_eq_ediv_of_nonneg (by omega)
      have P2 : Q ≤ 256 := by omega
      have HE1 := Lib.hid (show ((x' % 2 ^ m : Nat) : Int) = (x' : Int) % Q by rw [← hQn]; exact Int.natCast_emod _ _)
      have he2 : ((x' / 2 ^ m : Nat) : Int) = Z := by rw [← hZq, ← hQn]; exact Int.natCast_ediv _ _
      have z1 : 0 ≤ Z := he2 ▸ Int.natCast_nonneg _
      have z2 : Z ≤ x' := by rw [← he2]; exact Int.ofNat_le.2 hdiv
      have HE2 := Lib.hid he2
      have HQn := Lib.hid hQn
      have HQ := Lib.hid (show (2 : Int) ^ (m : Int).toNat = Q by rw [Int.toNat_natCast]; exact hQ)
      have HD := Lib.hid (show x' / 2 ^ m < 2 ^ 24 by omega)
      have hx63 : (x' : Int) ≤ 16777216 := by omega
      clear hm hQn hQ hdiv q1 q2 he2 hZq
      go_wp2_with (first
        | (go_at_call 99; (with_reducible refine (Ref01.pow_as (m : Int) Q _ (by omega) (by omega) HQ.out).mono ?_); rintro e w' ⟨rfl, rfl⟩)
        | (at_builtin; refine wpList_append_cell rfl _ _ rfl w.heap.size P ⟨x' % 2 ^ m, 1, 2 ^ m⟩ ao k cc rfl (HC0.out.below ((Below.refl _ _).alloc (Nat.le_refl _) _)) wr.heap.size rfl (one_cell _ _ _ _ ⟨HE1.out, rfl, HQn.out⟩) (by omega) (by have := HB0.out.size; simp; omega) ?_))
      intro a9 c9 w9 hC2 hB2 _
      have HC2 := Lib.hid hC2
      have HB2 := Lib.hid ((below_trans HB0.out ((Below.refl _ _).alloc (Nat.le_refl _) (.cells #[.int .i64 ((x' : Int) % Q), .int .i64 1, .int .i64 Q] 92)) HB0.out.size).trans hB2)
      clear hC2 hB2
      go_wp2
      go_roundw
      case rel =>
        refine ⟨f, x' / 2 ^ m, n' - m, k + 1, P ++ [⟨x' % 2 ^ m, 1, 2 ^ m⟩], a9, c9, by rw [HE2.out], by rw [Int.natCast_sub hmn], by omega, by omega, HD.out, by omega, ?_, rfl, HC2.out, HB2.out⟩
        exact Lib.hid (by rw [← HZ.out, HB.out, List.append_assoc]; rfl)
      case measure => simp [intOf]; omega
    · obtain rfl : n' = 0 := by omega
      have HQ := Lib.hid (show P = bitsC 3 x n by rw [← HZ.out, bitsC_zero, List.append_nil])
      have HR : Hid (RetCls w (bitsC 3 x n) (.returned (.slice ao k cc)) wr) := by
        have e : (bitsC 3 x n).length = k := by rw [← HQ.out]; exact HC0.out.1
        exact ⟨ao, cc, by rw [e], by rw [e, ← HQ.out]; exact HC0.out, HB0.out⟩
      go_wp2
      go_ret
      exact HR
end Go.Proofs.YtfohinlldchdpaaGreatDoor.Rg
end
