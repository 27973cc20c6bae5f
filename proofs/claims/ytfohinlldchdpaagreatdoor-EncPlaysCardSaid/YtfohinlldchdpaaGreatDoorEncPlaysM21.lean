/- Texts of the walk, one behind the other. -/
import Derived.Test.YtfohinlldchdpaaGreatDoorEncPlaysM10
import Derived.Test.YtfohinlldchdpaaGreatDoorEncPlaysM14
import Derived.Maps.OwnSet
import Derived.WideKeyPair

section
/- The map of counts: what stands in it, its look-up, its store; contracts of the counts' function and of the number without its sign. -/
set_option maxRecDepth 100000
set_option linter.unusedVariables false
namespace Go.Proofs.YtfohinlldchdpaaGreatDoor.Ve
open Go.RowKit Go.Proofs.YtfohinlldchdpaaGreatDoor.Row Go.Maps Go.WideMaps

theorem arrK : ArrKey Tryz.prog 225 3 2 := ⟨Tryz.underlying225, by kernel_rfl, by kernel_rfl, by kernel_rfl⟩
theorem lawK : Keyed Tryz.prog 225 := Keyed.of_law arrK.law
theorem typesK : ∃ m, Tryz.prog.types.size = m + 1 := ⟨Tryz.prog.types.size - 1, by kernel_rfl⟩
theorem zeroK (w : World) : (zeroValue 3).run Tryz.prog w = .ok (.int .i64 0) w := by kernel_rfl

/-- What the key of n and k reads as. -/
def kL (n k : Int) : Lit := .string (keyBytes [.int .i64 n, .int .i64 k])
theorem wf_of {n : Int} (h0 : 0 ≤ n) (h : n ≤ 6975757441) : (Lit.int .i64 n).wf = true := WalkArith.wf_i64 (by omega)
theorem key_of {n k : Int} (hn : 0 ≤ n) (hn8 : n ≤ 8) (hk : 0 ≤ k) (hk8 : k ≤ 8) : keyOf Tryz.prog 225 (.agg #[.int .i64 n, .int .i64 k]) = some (kL n k) :=
  keyOf_pair arrK Tryz.underlying3 typesK (wf_of hn (by omega)) (wf_of hk (by omega))
theorem kL_inj {n k m j : Int} (hn : 0 ≤ n) (hn8 : n ≤ 8) (hk : 0 ≤ k) (hk8 : k ≤ 8) (hm : 0 ≤ m) (hm8 : m ≤ 8) (hj : 0 ≤ j) (hj8 : j ≤ 8) (e : kL n k = kL m j) : n = m ∧ k = j := by
  have := lawK.inj (key_of hn hn8 hk hk8) (e ▸ key_of hm hm8 hj hj8)
  simpa using this

/-- All entries are counts. -/
def Good {H : Type} (D : DataW H) : Prop := ∃ es, D = .map es ∧ ∀ p ∈ es, ∃ n k : Nat, n ≤ 8 ∧ k ≤ 8 ∧ p = (kL n k, .lit (.int .i64 (V n k)))

theorem nodup_le {α : Type} [DecidableEq α] : ∀ (l m : List α), l.Nodup → (∀ x ∈ l, x ∈ m) → l.length ≤ m.length
  | [], _, _, _ => Nat.zero_le _
  | a :: r, m, hd, hs => by
    obtain ⟨h1, h2⟩ := List.nodup_cons.1 hd
    have ha : a ∈ m := hs a (by simp)
    have := nodup_le r (m.erase a) h2 fun x hx => (List.mem_erase_of_ne (fun e => h1 (by rw [← e]; exact hx))).2 (hs x (by simp [hx]))
    rw [List.length_erase_of_mem ha] at this
    have : 0 < m.length := List.length_pos_of_mem ha
    simp only [List.length_cons]; omega

/-- No more than 81 keys there are. -/
theorem Good.size {H : Type} {D : DataW H} (h : Good D) (ht : Tidy D) : Maps.size D ≤ 81 := by
  obtain ⟨es, rfl, hg⟩ := h
  obtain ⟨es', e, hp⟩ := ht
  obtain rfl : es = es' := by injection e
  show es.length ≤ 81
  have hnd : (es.map (·.1)).Nodup := by
    unfold List.Nodup
    rw [List.pairwise_map]
    exact hp
  let all : List Lit := (List.range 81).map fun i => kL ((i / 9 : Nat) : Int) ((i % 9 : Nat) : Int)
  have := @nodup_le Lit (Classical.typeDecidableEq _) (es.map (·.1)) all hnd fun x hx => by
    obtain ⟨p, hp, rfl⟩ := List.mem_map.1 hx
    obtain ⟨n, k, hn, hk, rfl⟩ := hg p hp
    refine List.mem_map.2 ⟨9 * n + k, List.mem_range.2 (by omega), ?_⟩
    show kL _ _ = kL _ _
    rw [show (9 * n + k) / 9 = n by omega, show (9 * n + k) % 9 = k by omega]
  rw [List.length_map, List.length_map, List.length_range] at this
  exact this

/-- Block b is a map of counts, and reads as D. -/
def CnR (w : World) (b : Nat) (D : DataW Unit) : Prop := w.ownsMap Tryz.prog 225 (plainElem Tryz.prog 3) b 81 D ∧ Good D
def Cn (w : World) (b : Nat) : Prop := ∃ D, CnR w b D

theorem CnR.fr {T : Nat → Prop} {w w' : World} {b : Nat} {D : DataW Unit} (h : CnR w b D) (hf : Fr T w w') (hT : ¬ T b) : CnR w' b D := by
  obtain ⟨h, hg⟩ := h
  have hlt := h.lt
  obtain ⟨es, clock, hb, r⟩ := h
  exact ⟨⟨es, clock, (hf.block b hlt hT).trans hb, r⟩, hg⟩
theorem CnR.below {w w' : World} {b : Nat} {D : DataW Unit} (h : CnR w b D) (hb : Below w.heap.size w w') : CnR w' b D := h.fr (T := fun _ => False) (.of_below hb) id
theorem Cn.below {w w' : World} {b : Nat} (h : Cn w b) (hb : Below w.heap.size w w') : Cn w' b := let ⟨D, h⟩ := h; ⟨D, h.below hb⟩
theorem CnR.lt {w : World} {b : Nat} {D : DataW Unit} (h : CnR w b D) : b < w.heap.size := h.1.lt
theorem Cn.lt {w : World} {b : Nat} (h : Cn w b) : b < w.heap.size := let ⟨_, h⟩ := h; h.lt
theorem cn_made (w : World) : Cn (w.alloc (.map #[] 0)) w.heap.size := ⟨.map [], (World.ownsMap_made w _ _ _).mono (Nat.zero_le _), [], rfl, fun p hp => by cases hp⟩

theorem Good.at {D : DataW Unit} (h : Good D) {n k : Int} (hn : 0 ≤ n) (hn8 : n ≤ 8) (hk : 0 ≤ k) (hk8 : k ≤ 8) (hr : Maps.has D (kL n k) = true) (z : DataW Unit) : D.atKey (kL n k) z = .lit (.int .i64 (cI n k)) := by
  obtain ⟨es, rfl, hg⟩ := h
  obtain ⟨p, hp, hpk⟩ := List.any_eq_true.1 hr
  obtain ⟨x, hx⟩ := Option.isSome_iff_exists.1 (List.find?_isSome.2 ⟨p, hp, hpk⟩ : (es.find? fun q => q.1.sameKey (kL n k)).isSome = true)
  have hxs := WideAt.sameKey_eq (List.find?_some (p := fun q : Lit × DataW Unit => q.1.sameKey (kL n k)) hx)
  obtain ⟨m, j, hm, hj, rfl⟩ := hg x (List.mem_of_find?_eq_some hx)
  obtain ⟨rfl, rfl⟩ := kL_inj hn hn8 hk hk8 (by omega) (by omega) (by omega) (by omega) hxs.symm
  rw [cI_nat hm hj]
  simp only [DataW.atKey, hx]

theorem Good.put {D : DataW Unit} (h : Good D) {n k : Int} (hn : 0 ≤ n) (hn8 : n ≤ 8) (hk : 0 ≤ k) (hk8 : k ≤ 8) : Good (D.put (kL n k) (.lit (.int .i64 (cI n k)))) := by
  obtain ⟨es, rfl, hg⟩ := h
  refine ⟨_, rfl, fun p hp => ?_⟩
  rcases ChangeMaps.mem_insert_iff.1 hp with rfl | hp
  · obtain ⟨m, rfl⟩ := Int.eq_ofNat_of_zero_le hn
    obtain ⟨j, rfl⟩ := Int.eq_ofNat_of_zero_le hk
    exact ⟨m, j, by omega, by omega, by rw [cI_nat (by omega) (by omega)]⟩
  · exact hg p (List.mem_filter.1 hp).1

/-- 'kept, ok := c[key]': the key is there. -/
theorem run_look_yes {w : World} {b : Nat} {D : DataW Unit} {n k : Int} (h : CnR w b D) (hn : 0 ≤ n) (hn8 : n ≤ 8) (hk : 0 ≤ k) (hk8 : k ≤ 8) (hr : Maps.has D (kL n k) = true) :
    (Instr.lookup 199 (.map (some b)) (.agg #[.int .i64 n, .int .i64 k]) true).run Tryz.prog w = .ok (.tuple #[.int .i64 (cI n k), .bool true]) w := by
  obtain ⟨v, ps, hrun, hv⟩ := h.1.look_ok lawK Tryz.underlying199 (zeroK _) (plainElem_int Tryz.underlying3 (by decide)) (key_of hn hn8 hk hk8)
  rw [h.2.at hn hn8 hk hk8 hr] at hv
  obtain ⟨c, rfl, hc, _⟩ := plainElem_int_inv Tryz.underlying3 hv
  simp only [Prod.mk.injEq, DataW.lit.injEq, Lit.int.injEq, true_and] at hc
  rw [hrun, hr, ← hc.1]
/-- .. it is not. -/
theorem run_look_no {w : World} {b : Nat} {D : DataW Unit} {n k : Int} (h : CnR w b D) (hn : 0 ≤ n) (hn8 : n ≤ 8) (hk : 0 ≤ k) (hk8 : k ≤ 8) (hr : Maps.has D (kL n k) = false) :
    (Instr.lookup 199 (.map (some b)) (.agg #[.int .i64 n, .int .i64 k]) true).run Tryz.prog w = .ok (.tuple #[.int .i64 0, .bool false]) w := by
  obtain ⟨v, ps, hrun, hv⟩ := h.1.look_ok lawK Tryz.underlying199 (zeroK _) (plainElem_int Tryz.underlying3 (by decide)) (key_of hn hn8 hk hk8)
  rw [atKey_of_not_has hr] at hv
  obtain ⟨c, rfl, hc, _⟩ := plainElem_int_inv Tryz.underlying3 hv
  simp only [Prod.mk.injEq, DataW.lit.injEq, Lit.int.injEq, true_and] at hc
  rw [hrun, hr, ← hc.1]

section
variable {ops : Array Oper} {rest : List Oper} {o : Oper} {a : Act} {w : World} {Q : Exit → Act → World → Prop}

/-- 'c[key] = all'. -/
theorem wpList_put_count (hg : o.guard = none) (m x v : Operand) (hop : o.op = Op.mapUpdate 199 m x v) (b : Nat) (n k : Int) (hn : 0 ≤ n) (hn8 : n ≤ 8) (hk : 0 ≤ k) (hk8 : k ≤ 8)
    (hm : a.eval m = .map (some b)) (h : Cn w b) (hx : a.eval x = .agg #[.int .i64 n, .int .i64 k]) (hv : a.eval v = .int .i64 (cI n k))
    (hK : ∀ w', Cn w' b → w.grownBy w' (some b) → wpList Tryz.prog ops Q rest (a.put o.dst undef) w') : wpList Tryz.prog ops Q (o :: rest) a w := by
  obtain ⟨D, h, hgd⟩ := h
  refine wpList_mapUpdate_own w hg m x v 199 hop 225 3 lawK Tryz.underlying199 _ b 81 D hm h (by unfold maxLen; omega) _ _ (kL n k) hx hv (key_of hn hn8 hk hk8) (.lit (.int .i64 (cI n k))) [] (plainElem_int Tryz.underlying3 (wf_of (by omega) (by have := cI_le n k; omega))) ?_
  intro w' h' hgr
  refine hK w' ⟨_, ?_, hgd.put hn hn8 hk hk8⟩ hgr
  have hs := (hgd.put hn hn8 hk hk8).size (h'.tidy lawK)
  obtain ⟨es, clock, hb, F, _, hD⟩ := h'
  refine ⟨es, clock, hb, F, ?_, hD⟩
  rw [hD] at hs
  simpa [Maps.size, length_sorted] using hs
end

end Go.Proofs.YtfohinlldchdpaaGreatDoor.Ve
end

section
/- Contract of the counts' function. -/
set_option maxRecDepth 100000
set_option linter.unusedVariables false
namespace Go.Proofs.YtfohinlldchdpaaGreatDoor.Ve
open Go.RowKit Go.Proofs.YtfohinlldchdpaaGreatDoor.Row Go.Maps Go.WideMaps

theorem cI_rec {n k : Int} (hn : 1 ≤ n) (hn8 : n ≤ 8) (hk : 1 ≤ k) (hk8 : k ≤ 8) : cI n k = cI (n - 1) k + cI n (k - 1) + cI (n - 1) (k - 1) := by
  obtain ⟨m, rfl⟩ : ∃ m : Nat, n = m + 1 := ⟨(n - 1).toNat, by omega⟩
  obtain ⟨j, rfl⟩ : ∃ j : Nat, k = j + 1 := ⟨(k - 1).toNat, by omega⟩
  have e1 : ((m : Int) + 1 - 1) = (m : Nat) := by omega
  have e2 : ((j : Int) + 1 - 1) = (j : Nat) := by omega
  rw [e1, e2, show ((m : Int) + 1) = ((m + 1 : Nat) : Int) by omega, show ((j : Int) + 1) = ((j + 1 : Nat) : Int) by omega, cI_nat (by omega) (by omega), cI_nat (by omega) (by omega), cI_nat (by omega) (by omega), cI_nat (by omega) (by omega), V_rec]
theorem cI_zero {n : Int} (hn : 0 ≤ n) (hn8 : n ≤ 8) : cI n 0 = 1 := by
  obtain ⟨m, rfl⟩ := Int.eq_ofNat_of_zero_le hn
  have := cI_nat (n := m) (k := 0) (by omega) (by omega)
  rw [V_one] at this
  exact this
theorem cI_none {k : Int} (hk : 1 ≤ k) : cI 0 k = 0 := by
  unfold cI
  split
  · obtain ⟨j, rfl⟩ : ∃ j : Nat, k = j + 1 := ⟨(k - 1).toNat, by omega⟩
    rw [show ((j : Int) + 1).toNat = j + 1 by omega]
    rfl
  · rfl
theorem cI_out {n k : Int} (h : n < 0 ∨ 8 < n ∨ k < 0 ∨ 8 < k) : cI n k = 0 := by
  unfold cI; rw [if_neg (by omega)]

/-- What the counts' function leaves: the map of counts, all else as it was. -/
def Ofs (w : World) (b : Nat) (w' : World) : Prop := Cn w' b ∧ Fr (Just b) w w'

theorem of_end (w : World) (b : Nat) (n k : Int) (h : Cn w b) (c : (n < 0 ∨ 8 < n ∨ k < 0 ∨ 8 < k) ∨ (0 ≤ n ∧ n ≤ 8 ∧ k = 0) ∨ (n = 0 ∧ 1 ≤ k ∧ k ≤ 8)) :
    Calls Tryz.prog 169 #[.map (some b), .int .i64 n, .int .i64 k] w fun e w' => e = .returned (.int .i64 (cI n k)) ∧ Ofs w b w' := by
  have HO := Lib.hid (show Ofs w b w from ⟨h, Fr.refl _ _⟩)
  have go : ∀ r : Int, r = cI n k → Ending.returned (.int .i64 r) = Ending.returned (.int .i64 (cI n k)) ∧ Ofs w b w := fun r e => ⟨by rw [e], HO.out⟩
  rcases c with (c | c | c | c) | ⟨c1, c2, rfl⟩ | ⟨rfl, c1, c2⟩
  · have e := cI_out (n := n) (k := k) (.inl c)
    go_enter Tryz.func169, Tryz.ntmps169
    go_wp2_with fail
    go_ret
    exact go 0 (by rw [e]; rfl)
  · have e := cI_out (n := n) (k := k) (.inr (.inl c))
    have c' : 0 ≤ n := by omega
    go_enter Tryz.func169, Tryz.ntmps169
    go_wp2_with fail
    go_ret
    exact go 0 (by rw [e]; rfl)
  · have e := cI_out (n := n) (k := k) (.inr (.inr (.inl c)))
    by_cases n0 : n < 0
    · go_enter Tryz.func169, Tryz.ntmps169
      go_wp2_with fail
      go_ret
      exact go 0 (by rw [e]; rfl)
    by_cases n8 : 8 < n
    · go_enter Tryz.func169, Tryz.ntmps169
      go_wp2_with fail
      go_ret
      exact go 0 (by rw [e]; rfl)
    go_enter Tryz.func169, Tryz.ntmps169
    go_wp2_with fail
    go_ret
    exact go 0 (by rw [e]; rfl)
  · have e := cI_out (n := n) (k := k) (.inr (.inr (.inr c)))
    have c' : 0 ≤ k := by omega
    by_cases n0 : n < 0
    · go_enter Tryz.func169, Tryz.ntmps169
      go_wp2_with fail
      go_ret
      exact go 0 (by rw [e]; rfl)
    by_cases n8 : 8 < n
    · go_enter Tryz.func169, Tryz.ntmps169
      go_wp2_with fail
      go_ret
      exact go 0 (by rw [e]; rfl)
    go_enter Tryz.func169, Tryz.ntmps169
    go_wp2_with fail
    go_ret
    exact go 0 (by rw [e]; rfl)
  · have e := cI_zero c1 c2
    go_enter Tryz.func169, Tryz.ntmps169
    go_wp2_with fail
    go_ret
    exact go 1 (by rw [e]; rfl)
  · have e := cI_none c1
    have c3 : 0 ≤ k := by omega
    have c4 : ¬ k = 0 := by omega
    go_enter Tryz.func169, Tryz.ntmps169
    go_wp2_with fail
    go_ret
    exact go 0 (by rw [e]; rfl)

/-- What stands while it works: the map, the key's block. -/
def OfS (w : World) (b : Nat) (n k : Int) (w' : World) : Prop := Cn w' b ∧ Fr (Just b) w w' ∧ b ≠ w.heap.size ∧ At w' w.heap.size #[.int .i64 n, .int .i64 k] 225
theorem OfS.start {w : World} {b : Nat} (h : Cn w b) (n k : Int) : OfS w b n k (w.alloc (.cells #[.int .i64 n, .int .i64 k] 225)) :=
  ⟨h.below ((Below.refl _ _).alloc (Nat.le_refl _) _), (Fr.refl _ _).alloc _, by have := h.lt; omega, At.new _ _ _⟩
theorem OfS.next {w w1 w2 : World} {b : Nat} {n k : Int} (h : OfS w b n k w1) (h2 : Ofs w1 b w2) : OfS w b n k w2 :=
  ⟨h2.1, h.2.1.same h2.2, h.2.2.1, h.2.2.2.fr h2.2 fun e => h.2.2.1 e.symm⟩
theorem OfS.put {w w1 w2 : World} {b : Nat} {n k : Int} (h : OfS w b n k w1) (h2 : Cn w2 b) (hg : w1.grownBy w2 (some b)) : Ofs w b w2 :=
  ⟨h2, h.2.1.grown hg fun k hk => .inl (by cases hk; rfl)⟩
theorem size_key : (Tryz.prog.info? 225).map (·.size) = some 2 := by kernel_rfl

set_option maxHeartbeats 400000 in
theorem of_in (b : Nat) (d : Nat) : ∀ (n k : Int) (w : World), n + k ≤ d → 0 ≤ n → n ≤ 8 → 0 ≤ k → k ≤ 8 → Cn w b →
    Calls Tryz.prog 169 #[.map (some b), .int .i64 n, .int .i64 k] w fun e w' => e = .returned (.int .i64 (cI n k)) ∧ Ofs w b w' := by
  induction d with
  | zero => intro n k w hd h0 h8 k0 k8 h; exact of_end w b n k h (.inr (.inl ⟨h0, h8, by omega⟩))
  | succ d ih =>
    intro n k w hd h0 h8 k0 k8 h
    by_cases ck : k = 0
    · exact of_end w b n k h (.inr (.inl ⟨h0, h8, ck⟩))
    by_cases cn : n = 0
    · exact of_end w b n k h (.inr (.inr ⟨cn, by omega, k8⟩))
    have HS := Lib.hid (OfS.start h n k)
    obtain ⟨D, hD⟩ := h
    have hA := hD.below ((Below.refl _ _).alloc (Nat.le_refl _) (.cells #[.int .i64 n, .int .i64 k] 225))
    have l1 := cI_le (n - 1) k
    have l2 := cI_le n (k - 1)
    have l3 := cI_le (n - 1) (k - 1)
    have hsum := cI_rec (n := n) (k := k) (by omega) h8 (by omega) k8
    have HK := Lib.hid hsum
    clear hsum
    rcases hr : Maps.has D (kL n k) with _ | _
    · have hl := run_look_no hA h0 h8 k0 k8 hr
      clear hA hD hr
      go_enter Tryz.func169, Tryz.ntmps169
      go_wp2_with fail
      refine (ih (n - 1) k _ (by omega) (by omega) (by omega) (by omega) (by omega) HS.out.1).mono ?_
      rintro e w1 ⟨rfl, h1⟩
      have HS1 := Lib.hid (HS.out.next h1)
      clear HS h1
      go_wp2_with fail
      refine (ih n (k - 1) _ (by omega) (by omega) (by omega) (by omega) (by omega) HS1.out.1).mono ?_
      rintro e w2 ⟨rfl, h2⟩
      have HS2 := Lib.hid (HS1.out.next h2)
      clear HS1 h2
      go_wp2_with fail
      refine (ih (n - 1) (k - 1) _ (by omega) (by omega) (by omega) (by omega) (by omega) HS2.out.1).mono ?_
      rintro e w3 ⟨rfl, h3⟩
      have HS3 := Lib.hid (HS2.out.next h3)
      clear HS2 h3
      go_wp2_with (first
        | (refine wpList_load_wanted (by rfl) 225 _ rfl w.heap.size rfl _ _ _ _ HS3.out.2.2.2 Tryz.underlying225 size_key ?_)
        | (at_mapUpdate; refine wpList_put_count rfl _ _ _ rfl b n k h0 h8 k0 k8 rfl HS3.out.1 rfl ?_ ?_))
      · have e : (cI (n - 1) k : Int) + cI n (k - 1) + cI (n - 1) (k - 1) = cI n k := by have := HK.out; omega
        rw [← e]
        rfl
      · intro w4 h4 hg4
        go_wp2_with fail
        go_ret
        exact ⟨ret_int (by have := HK.out; omega), HS3.out.put h4 hg4⟩
    · have hl := run_look_yes hA h0 h8 k0 k8 hr
      clear hA hD hr
      go_enter Tryz.func169, Tryz.ntmps169
      go_wp2_with fail
      go_ret
      exact ⟨rfl, HS.out.1, HS.out.2.1⟩

end Go.Proofs.YtfohinlldchdpaaGreatDoor.Ve
end
