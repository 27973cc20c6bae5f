/- The document's functions beside the program's disk: one and the same disk, before and behind each call. -/
import Derived.Test.YtcahdjkmegnbfaaDkT
import Derived.Test.YtcahdjkmegnbfaaDkU
set_option maxRecDepth 100000
set_option linter.unusedVariables false
set_option linter.unusedSimpArgs false
namespace Go.Proofs.Ytcahdjkmegnbfaa.Dk
open Go.RowKit Go.Proofs.Ytcahdjkmegnbfaa.Row

/-- The document's disk is d. -/
def RkD (w : World) (G : Nat → Prop) (d : Dsk) (v : Array Value) : Prop := Rk w G d.size d.n (fun k => d.sure (k : Nat)) (fun k => d.seen (k : Nat)) d.sec d.pg d.down (max d.fuse (-1)) v
/-- What a document's function answers that hands back a disk. -/
def RetD (w : World) (G : Nat → Prop) (mk : Value → Value) (d : Dsk) (e : Ending) (w' : World) : Prop :=
  ∃ v, e = .returned (mk (.agg v)) ∧ Below w.heap.size w w' ∧ RkD w' (fun k => G k ∨ (w.heap.size ≤ k ∧ k < w'.heap.size)) d v
/-- What is so of a disk here: how many writes at most, in sectors that it has; its fuse fits. -/
structure Fit (d : Dsk) : Prop where
  size : 1 ≤ d.size ∧ d.size ≤ 1024
  n : d.n ≤ 1000
  sec : ∀ k, k < d.n → ∃ j : Nat, j < d.size ∧ d.sec k = j
  pg : ∀ k, k < d.n → Pag (d.pg k)
  fuse : (Lit.int .i64 d.fuse).wf = true
theorem wf_fuse {d : Dsk} (h : Fit d) : (Lit.int .i64 (max d.fuse (-1))).wf = true := by
  have := bounds_i64 h.fuse
  exact WalkArith.wf_i64 (by omega)
theorem fuse_next (u : Int) : (if 0 < max u (-1) then max u (-1) - 1 else max u (-1)) = max (if 0 < u then u - 1 else u) (-1) := by
  by_cases h : 0 < u
  · rw [if_pos h, if_pos (by omega)]; omega
  · rw [if_neg h, if_neg (by omega)]
theorem RkD.raw {w : World} {G : Nat → Prop} {d : Dsk} {v : Array Value} (h : RkD w G d v) : ∃ a0 c0 x1 x2 x3, v = refV (.slice a0 d.size c0) x1 x2 x3 d.down (max d.fuse (-1)) ∧ x1.oneCell' = true ∧ x2.oneCell' = true ∧ x3.oneCell' = true := by
  obtain ⟨a0, c0, a1, c1, a2, c2, a3, c3, e, _⟩ := h
  exact ⟨a0, c0, _, _, _, e, rfl, rfl, rfl⟩
theorem RkD.later {w w' : World} {G : Nat → Prop} {d : Dsk} {v : Array Value} (h : RkD w G d v) (hb : Below w.heap.size w w') : RkD w' (fun k => G k ∨ (w.heap.size ≤ k ∧ k < w'.heap.size)) d v := Rk.later h hb

theorem refSync_D {w : World} {G : Nat → Prop} {d : Dsk} {v : Array Value} (h : RkD w G d v) (hG : ∀ k, G k → k < w.heap.size) (hd : Fit d) :
    Calls Try.prog 13 #[.agg v] w (RetD w G (fun x => .tuple #[x, .int .i64 d.syncE]) d.syncD) := by
  by_cases hdn : d.down = true
  · have e : d.syncE = 7 := by unfold Dsk.syncE; rw [if_pos hdn]
    have es : d.syncD = d := by unfold Dsk.syncD; rw [e, if_neg (by omega)]
    obtain ⟨a0, c0, x1, x2, x3, rfl, h1, h2, h3⟩ := h.raw
    rw [hdn] at h ⊢
    rw [e, es]
    exact (refSync_down w _ x1 x2 x3 rfl h1 h2 h3 _).mono fun e w' ⟨he, hb⟩ => ⟨_, he, hb, h.later hb⟩
  · by_cases hu : d.fuse = 0
    · have e : d.syncE = 6 := by unfold Dsk.syncE; rw [if_neg hdn, if_pos hu]
      have es : d.syncD = d := by unfold Dsk.syncD; rw [e, if_neg (by omega)]
      obtain ⟨a0, c0, x1, x2, x3, rfl, h1, h2, h3⟩ := h.raw
      have hdn' : d.down = false := by simpa using hdn
      rw [hdn', show max d.fuse (-1) = 0 by omega] at h ⊢
      rw [e, es]
      exact (refSync_burnt w _ x1 x2 x3 rfl h1 h2 h3).mono fun e w' ⟨he, hb⟩ => ⟨_, he, hb, h.later hb⟩
    · have e : d.syncE = 0 := by unfold Dsk.syncE; rw [if_neg hdn, if_neg hu]
      have es : d.syncD = d.spent.settled allB := by unfold Dsk.syncD; rw [e, if_pos rfl]; rfl
      have hdn' : d.down = false := by simpa using hdn
      have h' := h
      unfold RkD at h'
      rw [hdn'] at h'
      rw [e, es]
      refine (refSync_yes w G hG d.size d.n _ _ d.sec d.pg _ v h' (wf_fuse hd) (by omega) hd.size.2).mono fun e w' ⟨v', he, hb, hr⟩ => ⟨v', he, hb, ?_⟩
      rw [fuse_next] at hr
      unfold RkD
      rw [show (d.spent.settled allB).down = false from hdn']
      exact hr.as (fun k _ => (Dsk.seen_all d k).symm) (fun k _ => (Dsk.seen_all d k).symm) (fun k hk => absurd hk (Nat.not_lt_zero k)) (fun k hk => absurd hk (Nat.not_lt_zero k))

theorem refWrite_D {w : World} {G : Nat → Prop} {d : Dsk} {v : Array Value} (h : RkD w G d v) (hG : ∀ k, G k → k < w.heap.size) (hd : Fit d) (i : Int) (P : Array Value) (hP : Pag P) :
    Calls Try.prog 19 #[.agg v, .int .i64 i, .agg P] w (RetD w G (fun x => .tuple #[x, .int .i64 (d.writeE i)]) (d.writeD i P)) := by
  obtain ⟨r1, r2, r3⟩ := Dsk.reach_all d i
  by_cases hdn : d.down = true
  · have e : d.writeE i = 7 := by unfold Dsk.writeE; rw [r1 hdn, if_neg (by omega)]
    have es : d.writeD i P = d := by unfold Dsk.writeD; rw [e, if_neg (by omega)]
    obtain ⟨a0, c0, x1, x2, x3, rfl, h1, h2, h3⟩ := h.raw
    rw [hdn] at h ⊢
    rw [e, es]
    exact (refWrite_down w a0 d.size c0 x1 x2 x3 h1 h2 h3 _ i P).mono fun e w' ⟨he, hb⟩ => ⟨_, he, hb, h.later hb⟩
  · have hdn' : d.down = false := by simpa using hdn
    by_cases hi : 0 ≤ i ∧ i < d.size
    · have er := r2 hdn' hi.1 hi.2
      by_cases hu : d.fuse = 0
      · have e : d.writeE i = 6 := by unfold Dsk.writeE; rw [er, if_pos rfl, if_pos hu]
        have es : d.writeD i P = d := by unfold Dsk.writeD; rw [e, if_neg (by omega)]
        obtain ⟨a0, c0, x1, x2, x3, rfl, h1, h2, h3⟩ := h.raw
        rw [hdn', show max d.fuse (-1) = 0 by omega] at h ⊢
        rw [e, es]
        exact (refWrite_burnt w a0 d.size c0 x1 x2 x3 h1 h2 h3 i P hi.1 hi.2).mono fun e w' ⟨he, hb⟩ => ⟨_, he, hb, h.later hb⟩
      · have e : d.writeE i = 0 := by unfold Dsk.writeE; rw [er, if_pos rfl, if_neg hu]
        have es : d.writeD i P = d.spent.wrote i P := by unfold Dsk.writeD; rw [e, if_pos rfl]
        obtain ⟨ik, hik⟩ : ∃ ik : Nat, i = ik := ⟨i.toNat, by omega⟩
        subst hik
        have h' := h
        unfold RkD at h'
        rw [hdn'] at h'
        rw [e, es]
        refine (refWrite_yes w G hG d.size d.n _ _ d.sec d.pg _ v h' (wf_fuse hd) (by omega) hd.size.2 hd.n ik (by omega) P hP).mono fun e w' ⟨v', he, hb, hr⟩ => ⟨v', he, hb, ?_⟩
        rw [fuse_next] at hr
        unfold RkD
        rw [show (d.spent.wrote ik P).down = false from hdn']
        refine hr.as (fun k _ => rfl) (fun k _ => ?_) (fun k _ => rfl) (fun k _ => rfl)
        rw [Dsk.seen_wrote, Dsk.seen_spent]
        by_cases ek : k = ik
        · rw [if_pos ek, if_pos (by omega)]
        · rw [if_neg ek, if_neg (by omega)]
    · have er := r3 hdn' hi
      have e : d.writeE i = 1 := by unfold Dsk.writeE; rw [er, if_neg (by omega)]
      have es : d.writeD i P = d := by unfold Dsk.writeD; rw [e, if_neg (by omega)]
      obtain ⟨a0, c0, x1, x2, x3, rfl, h1, h2, h3⟩ := h.raw
      rw [hdn'] at h ⊢
      rw [e, es]
      exact (refWrite_out w a0 d.size c0 x1 x2 x3 h1 h2 h3 _ i P (by omega)).mono fun e w' ⟨he, hb⟩ => ⟨_, he, hb, h.later hb⟩

theorem refCrash_D {w : World} {G : Nat → Prop} {d : Dsk} {v : Array Value} (h : RkD w G d v) (hG : ∀ k, G k → k < w.heap.size) (hd : Fit d) (ka : Option Addr) (kn kc : Nat) (t : Nat → Bool) (hB : SlB w ka kn kc t) :
    Calls Try.prog 16 #[.agg v, .slice ka kn kc] w (RetD w G (fun x => x) (d.crashed (keepB kn t))) :=
  (refCrash_as w G hG d.size d.n d.sure _ d.sec d.pg d.down _ v h hd.size.1 hd.size.2 hd.n hd.sec hd.pg ka kn kc t hB).mono fun e w' ⟨v', he, hb, hr⟩ => ⟨v', he, hb, hr⟩

/-! What is so of a disk stays so. -/
theorem Fit.sync {d : Dsk} (h : Fit d) : Fit d.syncD := by
  unfold Dsk.syncD
  split
  · refine ⟨h.size, Nat.zero_le _, fun k hk => absurd hk (Nat.not_lt_zero k), fun k hk => absurd hk (Nat.not_lt_zero k), ?_⟩
    show (Lit.int .i64 (if 0 < d.fuse then d.fuse - 1 else d.fuse)).wf = true
    have := bounds_i64 h.fuse
    split <;> exact WalkArith.wf_i64 (by omega)
  · exact h
theorem Fit.write {d : Dsk} (h : Fit d) (i : Int) {P : Array Value} (hP : Pag P) (hn : d.n < 1000) : Fit (d.writeD i P) := by
  unfold Dsk.writeD
  split
  · rename_i he
    have hi : 0 ≤ i ∧ i < d.size := by
      unfold Dsk.writeE at he
      by_cases hr : d.reach i = 0
      · obtain ⟨r1, r2, r3⟩ := Dsk.reach_all d i
        cases hdn : d.down
        · by_cases c : 0 ≤ i ∧ i < d.size
          · exact c
          · have := r3 hdn c; omega
        · have := r1 hdn; omega
      · rw [if_neg hr] at he; exact absurd he hr
    refine ⟨h.size, by show d.n + 1 ≤ 1000; omega, fun k hk => ?_, fun k hk => ?_, ?_⟩
    · show ∃ j : Nat, j < d.size ∧ (if k = d.n then i else d.sec k) = j
      by_cases e : k = d.n
      · rw [if_pos e]; exact ⟨i.toNat, by omega, by omega⟩
      · rw [if_neg e]; exact h.sec k (by have : k < d.n + 1 := hk; omega)
    · show Pag (if k = d.n then P else d.pg k)
      by_cases e : k = d.n
      · rw [if_pos e]; exact hP
      · rw [if_neg e]; exact h.pg k (by have : k < d.n + 1 := hk; omega)
    · show (Lit.int .i64 (if 0 < d.fuse then d.fuse - 1 else d.fuse)).wf = true
      have := bounds_i64 h.fuse
      split <;> exact WalkArith.wf_i64 (by omega)
  · exact h
theorem Fit.crash {d : Dsk} (h : Fit d) (kept : Nat → Bool) : Fit (d.crashed kept) := ⟨h.size, Nat.zero_le _, fun k hk => absurd hk (Nat.not_lt_zero k), fun k hk => absurd hk (Nat.not_lt_zero k), h.fuse⟩
theorem Fit.up {d : Dsk} (h : Fit d) : Fit d.upped := ⟨h.size, h.n, h.sec, h.pg, h.fuse⟩
theorem Fit.fused {d : Dsk} (h : Fit d) {n : Int} (hn : (Lit.int .i64 n).wf = true) : Fit (d.fused n) := ⟨h.size, h.n, h.sec, h.pg, hn⟩
theorem Fit.read {d : Dsk} (h : Fit d) (i : Int) : Fit (d.readD i) := by
  unfold Dsk.readD
  split
  · exact ⟨h.size, h.n, h.sec, h.pg, h.fuse⟩
  · exact h
theorem Fit.fresh {n : Nat} (h1 : 1 ≤ n) (h2 : n ≤ 1024) : Fit (fresh zP n) := ⟨⟨h1, h2⟩, Nat.zero_le _, fun k hk => absurd hk (Nat.not_lt_zero k), fun k hk => absurd hk (Nat.not_lt_zero k), by show (Lit.int .i64 (-1)).wf = true; decide⟩
theorem syncD_n (d : Dsk) : d.syncD.n ≤ d.n ∧ d.syncD.size = d.size ∧ d.syncD.reads = d.reads := by
  unfold Dsk.syncD
  split
  · exact ⟨Nat.zero_le _, rfl, rfl⟩
  · exact ⟨Nat.le_refl _, rfl, rfl⟩
theorem writeD_n (d : Dsk) (i : Int) (P : Array Value) : (d.writeD i P).n ≤ d.n + 1 ∧ (d.writeD i P).size = d.size ∧ (d.writeD i P).reads = d.reads := by
  unfold Dsk.writeD
  split
  · exact ⟨Nat.le_refl _, rfl, rfl⟩
  · exact ⟨Nat.le_succ _, rfl, rfl⟩
theorem RkD.read {w : World} {G : Nat → Prop} {d : Dsk} {v : Array Value} (h : RkD w G d v) (i : Int) : RkD w G (d.readD i) v := by
  unfold Dsk.readD
  split
  · exact h
  · exact h
end Go.Proofs.Ytcahdjkmegnbfaa.Dk
