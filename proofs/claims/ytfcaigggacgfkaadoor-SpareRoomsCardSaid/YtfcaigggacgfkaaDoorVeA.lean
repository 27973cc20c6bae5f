/- The map of counts: what stands in it, its look-up, its store; contracts of the counts' function and of the number without its sign. -/
import Derived.Test.YtfcaigggacgfkaaDoorVeMath
import Derived.Test.YtfcaigggacgfkaaDoorFr
import Derived.Maps.OwnSet
import Derived.WideKeyPair
set_option maxRecDepth 100000
set_option linter.unusedVariables false
namespace Go.Proofs.YtfcaigggacgfkaaDoor.Ve
open Go.RowKit Go.Proofs.YtfcaigggacgfkaaDoor.Row Go.Maps Go.WideMaps

theorem arrK : ArrKey Tryd.prog 58 3 2 := ⟨Tryd.underlying58, by kernel_rfl, by kernel_rfl, by kernel_rfl⟩
theorem lawK : Keyed Tryd.prog 58 := Keyed.of_law arrK.law
theorem typesK : ∃ m, Tryd.prog.types.size = m + 1 := ⟨Tryd.prog.types.size - 1, by kernel_rfl⟩
theorem zeroK (w : World) : (zeroValue 3).run Tryd.prog w = .ok (.int .i64 0) w := by kernel_rfl

/-- What the key of n and k reads as. -/
def kL (n k : Int) : Lit := .string (keyBytes [.int .i64 n, .int .i64 k])
theorem wf_of {n : Int} (h0 : 0 ≤ n) (h : n ≤ 6975757441) : (Lit.int .i64 n).wf = true := WalkArith.wf_i64 (by omega)
theorem key_of {n k : Int} (hn : 0 ≤ n) (hn8 : n ≤ 8) (hk : 0 ≤ k) (hk8 : k ≤ 8) : keyOf Tryd.prog 58 (.agg #[.int .i64 n, .int .i64 k]) = some (kL n k) :=
  keyOf_pair arrK Tryd.underlying3 typesK (wf_of hn (by omega)) (wf_of hk (by omega))
theorem kL_inj {n k m j : Int} (hn : 0 ≤ n) (hn8 : n ≤ 8) (hk : 0 ≤ k) (hk8 : k ≤ 8) (hm : 0 ≤ m) (hm8 : m ≤ 8) (hj : 0 ≤ j) (hj8 : j ≤ 8) (e : kL n k = kL m j) : n = m ∧ k = j := by
  have := lawK.inj (key_of hn hn8 hk hk8) (e ▸ key_of hm hm8 hj hj8)
  simpa using this

/-- All entries are counts. -/
def Good {H : Type} (D : DataW H) : Prop := ∃ es, D = .map es ∧ ∀ p ∈ es, ∃ n k : Nat, n ≤ 8 ∧ k ≤ 8 ∧ p = (kL n k, .lit (.int .i64 (V n k)))

theorem nodup_le {α : Type} [DecidableEq α] : ∀ (l m : List α), l.Nodup → (∀ x ∈ l, x ∈ m) → l.length ≤ m.length
  | [], _, _, _ => Nat.zero_le _
  | a :: r, m, hd, hs => by
    obtain ⟨h1, h2⟩ := List.nodup_cons.1 hd
    have ha : a ∈ m := hs a (by simp)
    have := nodup_le r (m.erase a) h2 fun x hx => (List.mem_erase_of_ne (fun e => h1 (by rw [← e]; exact hx))).2 (hs x (by simp [hx]))
    rw [List.length_erase_of_mem ha] at this
    have : 0 < m.length := List.length_pos_of_mem ha
    simp only [List.length_cons]; omega

/-- No more than 81 keys there are. -/
theorem Good.size {H : Type} {D : DataW H} (h : Good D) (ht : Tidy D) : Maps.size D ≤ 81 := by
  obtain ⟨es, rfl, hg⟩ := h
  obtain ⟨es', e, hp⟩ := ht
  obtain rfl : es = es' := by injection e
  show es.length ≤ 81
  have hnd : (es.map (·.1)).Nodup := by
    unfold List.Nodup
    rw [List.pairwise_map]
    exact hp
  let all : List Lit := (List.range 81).map fun i => kL ((i / 9 : Nat) : Int) ((i % 9 : Nat) : Int)
  have := @nodup_le Lit (Classical.typeDecidableEq _) (es.map (·.1)) all hnd fun x hx => by
    obtain ⟨p, hp, rfl⟩ := List.mem_map.1 hx
    obtain ⟨n, k, hn, hk, rfl⟩ := hg p hp
    refine List.mem_map.2 ⟨9 * n + k, List.mem_range.2 (by omega), ?_⟩
    show kL _ _ = kL _ _
    rw [show (9 * n + k) / 9 = n by omega, show (9 * n + k) % 9 = k by omega]
  rw [List.length_map, List.length_map, List.length_range] at this
  exact this

/-- Block b is a map of counts, and reads as D. -/
def CnR (w : World) (b : Nat) (D : DataW Unit) : Prop := w.ownsMap Tryd.prog 58 (plainElem Tryd.prog 3) b 81 D ∧ Good D
def Cn (w : World) (b : Nat) : Prop := ∃ D, CnR w b D

theorem CnR.fr {T : Nat → Prop} {w w' : World} {b : Nat} {D : DataW Unit} (h : CnR w b D) (hf : Fr T w w') (hT : ¬ T b) : CnR w' b D := by
  obtain ⟨h, hg⟩ := h
  have hlt := h.lt
  obtain ⟨es, clock, hb, r⟩ := h
  exact ⟨⟨es, clock, (hf.block b hlt hT).trans hb, r⟩, hg⟩
theorem CnR.below {w w' : World} {b : Nat} {D : DataW Unit} (h : CnR w b D) (hb : Below w.heap.size w w') : CnR w' b D := h.fr (T := fun _ => False) (.of_below hb) id
theorem Cn.below {w w' : World} {b : Nat} (h : Cn w b) (hb : Below w.heap.size w w') : Cn w' b := let ⟨D, h⟩ := h; ⟨D, h.below hb⟩
theorem CnR.lt {w : World} {b : Nat} {D : DataW Unit} (h : CnR w b D) : b < w.heap.size := h.1.lt
theorem Cn.lt {w : World} {b : Nat} (h : Cn w b) : b < w.heap.size := let ⟨_, h⟩ := h; h.lt
theorem cn_made (w : World) : Cn (w.alloc (.map #[] 0)) w.heap.size := ⟨.map [], (World.ownsMap_made w _ _ _).mono (Nat.zero_le _), [], rfl, fun p hp => by cases hp⟩

theorem Good.at {D : DataW Unit} (h : Good D) {n k : Int} (hn : 0 ≤ n) (hn8 : n ≤ 8) (hk : 0 ≤ k) (hk8 : k ≤ 8) (hr : Maps.has D (kL n k) = true) (z : DataW Unit) : D.atKey (kL n k) z = .lit (.int .i64 (cI n k)) := by
  obtain ⟨es, rfl, hg⟩ := h
  obtain ⟨p, hp, hpk⟩ := List.any_eq_true.1 hr
  obtain ⟨x, hx⟩ := Option.isSome_iff_exists.1 (List.find?_isSome.2 ⟨p, hp, hpk⟩ : (es.find? fun q => q.1.sameKey (kL n k)).isSome = true)
  have hxs := WideAt.sameKey_eq (List.find?_some (p := fun q : Lit × DataW Unit => q.1.sameKey (kL n k)) hx)
  obtain ⟨m, j, hm, hj, rfl⟩ := hg x (List.mem_of_find?_eq_some hx)
  obtain ⟨rfl, rfl⟩ := kL_inj hn hn8 hk hk8 (by omega) (by omega) (by omega) (by omega) hxs.symm
  rw [cI_nat hm hj]
  simp only [DataW.atKey, hx]

theorem Good.put {D : DataW Unit} (h : Good D) {n k : Int} (hn : 0 ≤ n) (hn8 : n ≤ 8) (hk : 0 ≤ k) (hk8 : k ≤ 8) : Good (D.put (kL n k) (.lit (.int .i64 (cI n k)))) := by
  obtain ⟨es, rfl, hg⟩ := h
  refine ⟨_, rfl, fun p hp => ?_⟩
  rcases ChangeMaps.mem_insert_iff.1 hp with rfl | hp
  · obtain ⟨m, rfl⟩ := Int.eq_ofNat_of_zero_le hn
    obtain ⟨j, rfl⟩ := Int.eq_ofNat_of_zero_le hk
    exact ⟨m, j, by omega, by omega, by rw [cI_nat (by omega) (by omega)]⟩
  · exact hg p (List.mem_filter.1 hp).1

/-- 'kept, ok := c[key]': the key is there. -/
theorem run_look_yes {w : World} {b : Nat} {D : DataW Unit} {n k : Int} (h : CnR w b D) (hn : 0 ≤ n) (hn8 : n ≤ 8) (hk : 0 ≤ k) (hk8 : k ≤ 8) (hr : Maps.has D (kL n k) = true) :
    (Instr.lookup 51 (.map (some b)) (.agg #[.int .i64 n, .int .i64 k]) true).run Tryd.prog w = .ok (.tuple #[.int .i64 (cI n k), .bool true]) w := by
  obtain ⟨v, ps, hrun, hv⟩ := h.1.look_ok lawK Tryd.underlying51 (zeroK _) (plainElem_int Tryd.underlying3 (by decide)) (key_of hn hn8 hk hk8)
  rw [h.2.at hn hn8 hk hk8 hr] at hv
  obtain ⟨c, rfl, hc, _⟩ := plainElem_int_inv Tryd.underlying3 hv
  simp only [Prod.mk.injEq, DataW.lit.injEq, Lit.int.injEq, true_and] at hc
  rw [hrun, hr, ← hc.1]
/-- .. it is not. -/
theorem run_look_no {w : World} {b : Nat} {D : DataW Unit} {n k : Int} (h : CnR w b D) (hn : 0 ≤ n) (hn8 : n ≤ 8) (hk : 0 ≤ k) (hk8 : k ≤ 8) (hr : Maps.has D (kL n k) = false) :
    (Instr.lookup 51 (.map (some b)) (.agg #[.int .i64 n, .int .i64 k]) true).run Tryd.prog w = .ok (.tuple #[.int .i64 0, .bool false]) w := by
  obtain ⟨v, ps, hrun, hv⟩ := h.1.look_ok lawK Tryd.underlying51 (zeroK _) (plainElem_int Tryd.underlying3 (by decide)) (key_of hn hn8 hk hk8)
  rw [atKey_of_not_has hr] at hv
  obtain ⟨c, rfl, hc, _⟩ := plainElem_int_inv Tryd.underlying3 hv
  simp only [Prod.mk.injEq, DataW.lit.injEq, Lit.int.injEq, true_and] at hc
  rw [hrun, hr, ← hc.1]

section
variable {ops : Array Oper} {rest : List Oper} {o : Oper} {a : Act} {w : World} {Q : Exit → Act → World → Prop}

/-- 'c[key] = all'. -/
theorem wpList_put_count (hg : o.guard = none) (m x v : Operand) (hop : o.op = Op.mapUpdate 51 m x v) (b : Nat) (n k : Int) (hn : 0 ≤ n) (hn8 : n ≤ 8) (hk : 0 ≤ k) (hk8 : k ≤ 8)
    (hm : a.eval m = .map (some b)) (h : Cn w b) (hx : a.eval x = .agg #[.int .i64 n, .int .i64 k]) (hv : a.eval v = .int .i64 (cI n k))
    (hK : ∀ w', Cn w' b → w.grownBy w' (some b) → wpList Tryd.prog ops Q rest (a.put o.dst undef) w') : wpList Tryd.prog ops Q (o :: rest) a w := by
  obtain ⟨D, h, hgd⟩ := h
  refine wpList_mapUpdate_own w hg m x v 51 hop 58 3 lawK Tryd.underlying51 _ b 81 D hm h (by unfold maxLen; omega) _ _ (kL n k) hx hv (key_of hn hn8 hk hk8) (.lit (.int .i64 (cI n k))) [] (plainElem_int Tryd.underlying3 (wf_of (by omega) (by have := cI_le n k; omega))) ?_
  intro w' h' hgr
  refine hK w' ⟨_, ?_, hgd.put hn hn8 hk hk8⟩ hgr
  have hs := (hgd.put hn hn8 hk hk8).size (h'.tidy lawK)
  obtain ⟨es, clock, hb, F, _, hD⟩ := h'
  refine ⟨es, clock, hb, F, ?_, hD⟩
  rw [hD] at hs
  simpa [Maps.size, length_sorted] using hs
end

end Go.Proofs.YtfcaigggacgfkaaDoor.Ve
