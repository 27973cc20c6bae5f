/- Texts of the walk, one behind the other. -/
import Derived.Test.YtbbeekpndhfpjaaSegLastsM3
import Derived.Test.YtbbeekpndhfpjaaSegLastsM11
import Derived.Test.YtbbeekpndhfpjaaSegLastsM12

section
/- What is asked of the program's log (the statements' walks stand on this alone; to be proved of the code that lands). -/
set_option maxRecDepth 100000
set_option linter.unusedVariables false
namespace Go.Proofs.Ytbbeekpndhfpjaa.Sg
open Go.RowKit Go.Proofs.Ytbbeekpndhfpjaa.Row Go.Proofs.Ytbbeekpndhfpjaa.Pa Go.Proofs.Ytbbeekpndhfpjaa.Fg Go.Proofs.Ytbbeekpndhfpjaa.Dk

/-- A log's state. -/
structure Lg where
  ep : Nat
  nx : Nat
  fz : Bool
/-- The same disk, but for how often it was read. -/
def Like (d d' : Dsk) : Prop := d'.size = d.size ∧ d'.down = d.down ∧ d'.fuse = d.fuse ∧ d'.sure = d.sure ∧ d'.n = d.n ∧ d'.sec = d.sec ∧ d'.pg = d.pg
theorem Like.refl (d : Dsk) : Like d d := ⟨rfl, rfl, rfl, rfl, rfl, rfl, rfl⟩
theorem Like.trans {d e f : Dsk} (h : Like d e) (k : Like e f) : Like d f :=
  ⟨k.1.trans h.1, k.2.1.trans h.2.1, k.2.2.1.trans h.2.2.1, k.2.2.2.1.trans h.2.2.2.1, k.2.2.2.2.1.trans h.2.2.2.2.1, k.2.2.2.2.2.1.trans h.2.2.2.2.2.1, k.2.2.2.2.2.2.trans h.2.2.2.2.2.2⟩
theorem Like.rd {d d' : Dsk} (h : Like d d') : rdS d' = rdS d := by
  obtain ⟨h1, _, _, h4, h5, h6, h7⟩ := h
  funext i
  unfold rdS Dsk.seen
  rw [h1, h4, h5, h6, h7]
theorem Like.log {d d' : Dsk} (h : Like d d') {n S : Nat} {f : Nat → Option Pv} {W : List Pv} (hl : LogOn d n S f W) : LogOn d' n S f W := hl.same h.1 h.2.2.2.2.1 h.2.2.2.2.2.1 h.2.2.2.2.2.2 h.2.2.2.1
/-- A record as a value. -/
def recF (l : List (Nat × List UInt8)) (i : Nat) : Array Value := #[.int .i64 ((l.getD i (0, [])).1 : Nat), .string (tx (l.getD i (0, [])).2)]
/-- A list of records, in blocks of R, from B on. -/
def RecsAt (B : Nat) (w : World) (a : Option Addr) (n c : Nat) (l : List (Nat × List UInt8)) (R : Nat → Prop) : Prop := l.length = n ∧ Els w 0 79 2 a n c (recF l) ∧ (∀ k, (Value.slice a n c).ownBlock = some k → R k) ∧ ∀ k, R k → B ≤ k
/-- A log at b, over a disk at bd, beside G's blocks. -/
def LgL (LI : World → Nat → (Nat → Prop) → Nat → Lg → Prop) (w0 : World) (bd N : Nat) (d : Dsk) (b : Nat) (x : Lg) (G : Nat → Prop) (w : World) : Prop :=
  ∃ T, LI w b T bd x ∧ (∀ k, T k → ¬ G k) ∧ DkL w0 bd N d (fun k => G k ∨ T k) w
/-- What Append answers, and what it leaves. -/
def AppR (d : Dsk) (x : Lg) (r : List UInt8) (at_ e : Int) (d' : Dsk) (x' : Lg) : Prop :=
  (r.length < 1 ∨ 4096 < r.length) ∧ at_ = 0 ∧ e = 10 ∧ d' = d ∧ x' = x ∨
  1 ≤ r.length ∧ r.length ≤ 4096 ∧ x.fz = true ∧ at_ = 0 ∧ e = 8 ∧ d' = d ∧ x' = x ∨
  1 ≤ r.length ∧ r.length ≤ 4096 ∧ x.fz = false ∧ d.size < x.nx + nd (np r.length) x.nx ∧ at_ = 0 ∧ e = 5 ∧ d' = d ∧ x' = x ∨
  1 ≤ r.length ∧ r.length ≤ 4096 ∧ x.fz = false ∧ x.nx + nd (np r.length) x.nx ≤ d.size ∧ d' = (put d x.nx (wr x.ep r x.nx)).1 ∧ e = (put d x.nx (wr x.ep r x.nx)).2.2 ∧
    (e = 0 ∧ at_ = (first x.nx : Nat) ∧ x' = ⟨x.ep, x.nx + nd (np r.length) x.nx, false⟩ ∨ e ≠ 0 ∧ at_ = 0 ∧ x'.fz = true ∧ x'.ep = x.ep)
/-- What Sync answers, and what it leaves. -/
def SynR (d : Dsk) (x : Lg) (e : Int) (d' : Dsk) (x' : Lg) : Prop :=
  x.fz = true ∧ e = 8 ∧ d' = d ∧ x' = x ∨ x.fz = false ∧ e = d.syncE ∧ d' = d.syncD ∧ (e = 0 ∧ x' = x ∨ e ≠ 0 ∧ x'.fz = true ∧ x'.ep = x.ep)

def ScanAs : Prop := ∀ (w0 w : World) (bd N : Nat) (d : Dsk) (G : Nat → Prop), DkL w0 bd N d G w → 32 ≤ d.size → d.size % 16 = 0 → d.down = false → N + d.size ≤ 1000000 →
  Calls Try.prog 15 #[.pointer (some ⟨bd, 0, none⟩)] w fun en w' => ∃ a n c R d', en = .returned (.tuple #[.slice a n c, .int .i64 (nxt (rdS d) d.size : Nat), .int .u32 (most (rdS d) d.size : Nat), .int .i64 0]) ∧
    Like d d' ∧ DkL w0 bd (N + d.size) d' (fun k => G k ∨ R k) w' ∧ Kp G w w' ∧ RecsAt w.heap.size w' a n c (recs (rdS d) d.size) R
/-- The log. -/
structure Segs (LI : World → Nat → (Nat → Prop) → Nat → Lg → Prop) : Prop where
  own : ∀ w b T bd x, LI w b T bd x → T b ∧ ∀ k, T k → k < w.heap.size
  keep : ∀ w w' b T bd x, LI w b T bd x → Kp T w w' → LI w' b T bd x
  opened : ∀ (w0 w : World) (bd N : Nat) (d : Dsk) (G : Nat → Prop), DkL w0 bd N d G w → 32 ≤ d.size → d.size % 16 = 0 → d.down = false → N + d.size ≤ 1000000 → most (rdS d) d.size < 4294967295 →
    Calls Try.prog 10 #[.pointer (some ⟨bd, 0, none⟩)] w fun en w' => ∃ b a n c R d', en = .returned (.tuple #[.pointer (some ⟨b, 0, none⟩), .slice a n c, .int .i64 0]) ∧
      Like d d' ∧ LgL LI w0 bd (N + d.size) d' b ⟨most (rdS d) d.size + 1, nxt (rdS d) d.size, false⟩ (fun k => G k ∨ R k) w' ∧ Kp G w w' ∧ RecsAt w.heap.size w' a n c (recs (rdS d) d.size) R
  down : ∀ (w0 w : World) (bd N : Nat) (d : Dsk) (G : Nat → Prop), DkL w0 bd N d G w → 32 ≤ d.size → d.down = true → N ≤ 1000000 →
    Calls Try.prog 10 #[.pointer (some ⟨bd, 0, none⟩)] w fun en w' => ∃ u v d', en = .returned (.tuple #[u, v, .int .i64 7]) ∧ Like d d' ∧ DkL w0 bd N d' G w' ∧ Kp G w w'
  append : ∀ (w0 w : World) (bd N : Nat) (d : Dsk) (b : Nat) (x : Lg) (G : Nat → Prop) (r : List UInt8), LgL LI w0 bd N d b x G w → r.length ≤ maxLen → d.size % 16 = 0 → d.down = false → (x.fz = false → x.nx ≤ d.size) → x.ep < 4294967296 → N + 200 ≤ 1000000 →
    Calls Try.prog 18 #[.pointer (some ⟨b, 0, none⟩), .string (tx r)] w fun en w' => ∃ at_ e d' x', en = .returned (.tuple #[.int .i64 at_, .int .i64 e]) ∧ AppR d x r at_ e d' x' ∧ LgL LI w0 bd (N + 200) d' b x' G w' ∧ Kp G w w'
  sync : ∀ (w0 w : World) (bd N : Nat) (d : Dsk) (b : Nat) (x : Lg) (G : Nat → Prop), LgL LI w0 bd N d b x G w → d.down = false → N ≤ 1000000 →
    Calls Try.prog 11 #[.pointer (some ⟨b, 0, none⟩)] w fun en w' => ∃ e d' x', en = .returned (.int .i64 e) ∧ SynR d x e d' x' ∧ LgL LI w0 bd N d' b x' G w' ∧ Kp G w w'
  next : ∀ (w0 w : World) (bd N : Nat) (d : Dsk) (b : Nat) (x : Lg) (G : Nat → Prop), LgL LI w0 bd N d b x G w →
    Calls Try.prog 17 #[.pointer (some ⟨b, 0, none⟩)] w fun en w' => en = .returned (.int .i64 x.nx) ∧ w' = w
  frozen : ∀ (w0 w : World) (bd N : Nat) (d : Dsk) (b : Nat) (x : Lg) (G : Nat → Prop), LgL LI w0 bd N d b x G w →
    Calls Try.prog 19 #[.pointer (some ⟨b, 0, none⟩)] w fun en w' => en = .returned (.bool x.fz) ∧ w' = w
/-- Need. -/
def ndN (next size : Nat) : Nat := if 1 ≤ size ∧ size ≤ 4096 then nd (np size) next else 0
def NeedAs : Prop := ∀ (next size : Nat) (w : World), next ≤ 5000 → size ≤ 5000 → Calls Try.prog 20 #[.int .i64 next, .int .i64 size] w fun en w' => en = .returned (.int .i64 (ndN next size : Nat)) ∧ Below w.heap.size w w'

section
variable {LI : World → Nat → (Nat → Prop) → Nat → Lg → Prop} {w0 w w' : World} {bd N b : Nat} {d d' : Dsk} {x : Lg} {G : Nat → Prop}
/-- What the disk's own calls leave of a log over it. -/
theorem LgL.disk (HS : Segs LI) {N' : Nat} {R : Nat → Prop} {T : Nat → Prop} (hl : LI w b T bd x) (hT : ∀ k, T k → ¬ G k) (hd : DkL w0 bd N' d' (fun k => (G k ∨ T k) ∨ R k) w') (hk : Kp (fun k => G k ∨ T k) w w') (hR : ∀ k, R k → w.heap.size ≤ k) :
    LgL LI w0 bd N' d' b x (fun k => G k ∨ R k) w' :=
  ⟨T, HS.keep _ _ _ _ _ _ hl ⟨hk.1, fun k h => hk.2 k (.inr h)⟩, fun k h hg => by
    rcases hg with hg | hg
    · exact hT k h hg
    · have := (HS.own _ _ _ _ _ hl).2 k h
      have := hR k hg
      omega, hd.sub fun k hk => by rcases hk with (h | h) | h; exact .inl (.inl h); exact .inr h; exact .inl (.inr h)⟩
theorem LgL.sub {H : Nat → Prop} (h : LgL LI w0 bd N d b x G w) (hH : ∀ k, H k → G k) : LgL LI w0 bd N d b x H w := by
  obtain ⟨T, h1, h2, h3⟩ := h
  exact ⟨T, h1, fun k hk hg => h2 k hk (hH k hg), h3.sub fun k hk => hk.imp (hH k) id⟩
theorem LgL.mono (h : LgL LI w0 bd N d b x G w) {N' : Nat} (hN : N ≤ N') : LgL LI w0 bd N' d b x G w := by
  obtain ⟨T, h1, h2, h3⟩ := h
  exact ⟨T, h1, h2, h3.mono hN⟩
theorem LgL.below (h : LgL LI w0 bd N d b x G w) : Below w0.heap.size w0 w ∧ ∀ k, G k → w0.heap.size ≤ k ∧ k < w.heap.size := by
  obtain ⟨T, h1, h2, h3⟩ := h
  exact ⟨h3.1, fun k hk => h3.2.2 k (.inl hk)⟩
/-- The caller changes its own blocks, and makes new ones. -/
theorem LgL.own (HS : Segs LI) (h : LgL LI w0 bd N d b x G w) (hf : Fr G w w') : LgL LI w0 bd N d b x (fun k => G k ∨ (w.heap.size ≤ k ∧ k < w'.heap.size)) w' := by
  obtain ⟨T, h1, h2, h3⟩ := h
  have hT := (HS.own _ _ _ _ _ h1).2
  refine ⟨T, HS.keep _ _ _ _ _ _ h1 ⟨hf.size, fun k hk => hf.block k (hT k hk) (h2 k hk)⟩, fun k hk hg => ?_, (h3.own (hf.mono fun i _ hi => .inl hi)).sub fun k hk => ?_⟩
  · rcases hg with hg | hg
    · exact h2 k hk hg
    · have := hT k hk; omega
  · rcases hk with (hk | hk) | hk
    · exact .inl (.inl hk)
    · exact .inr hk
    · exact .inl (.inr hk)
theorem LgL.alloc (HS : Segs LI) (h : LgL LI w0 bd N d b x G w) (o : Obj) : LgL LI w0 bd N d b x (Plus G w.heap.size) (w.alloc o) :=
  (h.own HS ((Fr.refl G w).alloc o)).sub fun k (hk : G k ∨ k = w.heap.size) => hk.imp id fun e => by subst e; rw [World.size_alloc]; omega
theorem LgL.next (HS : Segs LI) (h : LgL LI w0 bd N d b x G w) (hb : Below w.heap.size w w') : LgL LI w0 bd N d b x G w' :=
  (h.own HS (.of_below hb)).sub fun k hk => .inl hk
theorem kp_sub {H : Nat → Prop} (h : Kp G w w') (hH : ∀ k, H k → G k) : Kp H w w' := ⟨h.1, fun k hk => h.2 k (hH k hk)⟩
/-- A scan beside a log. -/
theorem scan_lg (HC : ScanAs) (HS : Segs LI) (h : LgL LI w0 bd N d b x G w) (h1 : 32 ≤ d.size) (h2 : d.size % 16 = 0) (h3 : d.down = false) (h4 : N + d.size ≤ 1000000) :
    Calls Try.prog 15 #[.pointer (some ⟨bd, 0, none⟩)] w fun en w' => ∃ a n c, ∃ R : Nat → Prop, ∃ d', en = .returned (.tuple #[.slice a n c, .int .i64 (nxt (rdS d) d.size : Nat), .int .u32 (most (rdS d) d.size : Nat), .int .i64 0]) ∧
      Like d d' ∧ LgL LI w0 bd (N + d.size) d' b x (fun k => G k ∨ R k) w' ∧ Kp G w w' ∧ RecsAt w.heap.size w' a n c (recs (rdS d) d.size) R := by
  obtain ⟨T, g1, g2, g3⟩ := h
  refine (HC w0 w bd N d _ g3 h1 h2 h3 h4).mono ?_
  rintro en w' ⟨a, n, c, R, d', e, k1, k2, k3, k4⟩
  exact ⟨a, n, c, R, d', e, k1, LgL.disk HS g1 g2 k2 k3 k4.2.2.2, kp_sub k3 fun k hk => .inl hk, k4⟩
/-- The disk's calls beside a log. -/
theorem fuse_lg (HS : Segs LI) (h : LgL LI w0 bd N d b x G w) (n : Int) (hn : (Lit.int .i64 n).wf = true) :
    Calls Try.prog 12 #[.pointer (some ⟨bd, 0, none⟩), .int .i64 n] w fun e w' => e = .returned (.tuple #[]) ∧ LgL LI w0 bd N (d.fused n) b x G w' ∧ Kp G w w' := by
  obtain ⟨T, g1, g2, g3⟩ := h
  refine (fuse_L g3 n hn).mono ?_
  rintro en w' ⟨e, k2, k3⟩
  exact ⟨e, (LgL.disk HS (R := fun _ => False) g1 g2 (k2.sub fun k hk => hk.elim id False.elim) k3 fun k hk => hk.elim).sub fun k hk => .inl hk, kp_sub k3 fun k hk => .inl hk⟩
end

/-- Of sectors none of which is a page. -/
theorem recs_none {f : Nat → Option Pv} {n : Nat} (h : ∀ i, f i = none) : recs f n = [] ∧ nxt f n = 0 ∧ most f n = 0 := by
  have h1 : st f 1 = none := by
    show (st f 0).bind _ = none
    rw [h 0]; rfl
  have e : fin f n = (s0, 0) := fin_eq rfl (Nat.zero_le _) (.inr h1)
  refine ⟨by unfold recs; rw [e]; rfl, by unfold nxt; rw [e]; rfl, ?_⟩
  have := most_low (f := f) (n := n) (E := 0) fun i _ => by rw [h i]; exact Nat.le_refl 0
  omega
theorem rdP_z : rdP zP = none := by
  have e : zP = bl (List.replicate 64 0) := by
    unfold zP bl
    rw [List.map_replicate, ← List.toArray_replicate]; rfl
  rw [e]
  refine rdP_no fun h => ?_
  have h1 := h.2.1
  have h2 : B (List.replicate 64 0) 12 = 0 := by decide
  omega
theorem rd_fresh (n : Nat) : (∀ i, rdS (fresh zP n) i = none) ∧ rdU (fresh zP n) = fun _ => none := by
  refine ⟨fun i => ?_, funext fun i => ?_⟩
  · unfold rdS
    split
    · exact rdP_z
    · rfl
  · unfold rdU
    split
    · exact rdP_z
    · rfl
/-- Pages on a disk without a fuse. -/
theorem put_free : ∀ {l : List Pv} {d : Dsk} {i : Nat}, d.down = false → d.fuse < 0 → i + l.length ≤ d.size → (put d i l).2.2 = 0 ∧ (put d i l).1.fuse = d.fuse ∧ (put d i l).1.size = d.size
  | [], d, i, _, _, _ => ⟨rfl, rfl, rfl⟩
  | p :: l, d, i, h1, h2, h3 => by
    simp only [List.length_cons] at h3
    have hr : d.reach (i : Nat) = 0 := (Dsk.reach_all d _).2.1 h1 (by omega) (by omega)
    have hw : d.writeE (i : Nat) = 0 := by unfold Dsk.writeE; rw [if_pos hr, if_neg (by omega)]
    unfold put
    rw [if_pos hw]
    have e : d.writeD (i : Nat) (bl p.lay) = d.spent.wrote (i : Nat) (bl p.lay) := by unfold Dsk.writeD; rw [if_pos hw]
    have hf : (d.writeD (i : Nat) (bl p.lay)).fuse = d.fuse := by
      rw [e]
      show (if 0 < d.fuse then d.fuse - 1 else d.fuse) = d.fuse
      rw [if_neg (by omega)]
    have hsz : (d.writeD (i : Nat) (bl p.lay)).size = d.size := by rw [e]; rfl
    have hdn : (d.writeD (i : Nat) (bl p.lay)).down = false := by rw [e]; exact h1
    obtain ⟨a, b, c⟩ := put_free (l := l) (d := d.writeD (i : Nat) (bl p.lay)) (i := i + 1) hdn (by rw [hf]; exact h2) (by rw [hsz]; omega)
    exact ⟨a, b.trans hf, c.trans hsz⟩
end Go.Proofs.Ytbbeekpndhfpjaa.Sg
end

section
/- The statements' 'awake' of layer 19, on what is asked of the program. -/
set_option maxRecDepth 100000
set_option linter.unusedVariables false
namespace Go.Proofs.Ytbbeekpndhfpjaa.Sg
open Go.RowKit Go.Proofs.Ytbbeekpndhfpjaa.Row Go.Proofs.Ytbbeekpndhfpjaa.Pa Go.Proofs.Ytbbeekpndhfpjaa.Fg Go.Proofs.Ytbbeekpndhfpjaa.Dk

def None (_ : Nat) : Prop := False
theorem none_lt {w : World} : ∀ k, None k → w.heap.size ≤ k ∧ k < w.heap.size := fun _ h => h.elim
/-- A new disk, scanned. -/
theorem scan_new (HC : ScanAs) {w0 w : World} {bd n : Nat} {d : Dsk} {G : Nat → Prop} (hd : DkL w0 bd 0 d G w) (h1 : 32 ≤ n) (h2 : n % 16 = 0) (h3 : n ≤ 1024) (hl : Like (fresh zP n) d) :
    Calls Try.prog 15 #[.pointer (some ⟨bd, 0, none⟩)] w fun en w' => ∃ a c, ∃ R : Nat → Prop, ∃ d', en = .returned (.tuple #[.slice a 0 c, .int .i64 0, .int .u32 0, .int .i64 0]) ∧ Like (fresh zP n) d' ∧ DkL w0 bd n d' (fun k => G k ∨ R k) w' ∧ Kp G w w' := by
  have hs : d.size = n := hl.1
  have hr := recs_none (f := rdS d) (n := n) fun i => by rw [hl.rd]; exact (rd_fresh n).1 i
  refine (HC w0 w bd 0 d G hd (by omega) (by omega) hl.2.1 (by omega)).mono ?_
  rintro en w' ⟨a, m, c, R, d', rfl, h4, h5, h6, h7⟩
  rw [hs, hr.1] at h7
  obtain rfl : 0 = m := h7.1
  refine ⟨a, c, R, d', ?_, hl.trans h4, by rw [hs, Nat.zero_add] at h5; exact h5, h6⟩
  rw [hs, hr.2.1, hr.2.2]
  rfl
variable {LI : World → Nat → (Nat → Prop) → Nat → Lg → Prop}
/-- A new disk, opened. -/
theorem open_new (HS : Segs LI) {w0 w : World} {bd n N : Nat} {d : Dsk} {G : Nat → Prop} (hd : DkL w0 bd N d G w) (h1 : 32 ≤ n) (h2 : n % 16 = 0) (h3 : n ≤ 1024) (hN : N ≤ 100000) (hl : Like (fresh zP n) d) :
    Calls Try.prog 10 #[.pointer (some ⟨bd, 0, none⟩)] w fun en w' => ∃ b a c, ∃ R : Nat → Prop, ∃ d', en = .returned (.tuple #[.pointer (some ⟨b, 0, none⟩), .slice a 0 c, .int .i64 0]) ∧ Like (fresh zP n) d' ∧ LgL LI w0 bd (N + n) d' b ⟨1, 0, false⟩ (fun k => G k ∨ R k) w' ∧ Kp G w w' := by
  have hs : d.size = n := hl.1
  have hr := recs_none (f := rdS d) (n := n) fun i => by rw [hl.rd]; exact (rd_fresh n).1 i
  refine (HS.opened w0 w bd N d G hd (by omega) (by omega) hl.2.1 (by omega) (by rw [hs, hr.2.2]; omega)).mono ?_
  rintro en w' ⟨b, a, m, c, R, d', rfl, h4, h5, h6, h7⟩
  rw [hs, hr.1] at h7
  obtain rfl : 0 = m := h7.1
  rw [hs, hr.2.1, hr.2.2] at h5
  exact ⟨b, a, c, R, d', rfl, hl.trans h4, h5, h6⟩
/-- What a log on a new disk stands for. -/
theorem log_new (n : Nat) (h : 1 ≤ n) {d : Dsk} (hl : Like (fresh zP n) d) : LogOn d n 0 (fun _ => none) [] ∧ Lgd (fun _ => none) n 0 s0 1 [] s0 :=
  ⟨hl.log ⟨rfl, rfl, fun k hk => absurd hk (Nat.not_lt_zero k), (fun k p hp => by simp at hp), (fun p hp => by cases hp), (rd_fresh n).2⟩,
    ⟨⟨Nat.zero_le _, rfl, rfl, fun q t hq ht => by
      have h1 : st (fun _ : Nat => (none : Option Pv)) 1 = none := rfl
      rw [st_over' h1 hq] at ht; cases ht⟩, fun _ _ => rfl, (fun i p _ hp => by cases hp), Nat.zero_le _, Nat.zero_le _, rfl, fun p hp => by cases hp⟩⟩

def hello : List UInt8 := [104, 101, 108, 108, 111]
theorem app_hello {d d' : Dsk} {x' : Lg} {at_ e : Int} (hl : Like (fresh zP 32) d) (h : AppR d ⟨1, 0, false⟩ hello at_ e d' x') : at_ = 1 ∧ e = 0 ∧ x' = ⟨1, 2, false⟩ := by
  have hs : d.size = 32 := hl.1
  have hf : d.fuse = -1 := hl.2.2.1
  have hnd : nd (np hello.length) 0 = 2 := rfl
  rcases h with ⟨h, _⟩ | ⟨_, _, h, _⟩ | ⟨_, _, _, h, _⟩ | ⟨_, _, _, _, _, h2, h3⟩
  · exact absurd h (by decide)
  · cases h
  · rw [hnd, hs] at h
    simp at h
  · have hp := put_free (l := wr 1 hello 0) (d := d) (i := 0) hl.2.1 (by omega) (by rw [wr_len, hnd, hs]; omega)
    rw [hp.1] at h2
    rcases h3 with ⟨_, h4, h5⟩ | ⟨h3, _⟩
    · refine ⟨?_, h2, ?_⟩
      · rw [h4]; rfl
      · rw [h5]; rfl
    · exact absurd h2 h3

set_option maxHeartbeats 2000000 in
theorem awake_as (HC : ScanAs) (HS : Segs LI) (w : World) : Calls Try.prog 7 #[] w fun e w' => e = .returned (.bool true) ∧ Below w.heap.size w w' := by
  have HN := Lib.hid (fun w => new_L (w0 := w) (w := w) (G := None) 32 (by omega) (by omega) (Below.refl _ _) none_lt)
  have HC := Lib.hid HC
  go_enter Try.func7, Try.ntmps7
  go_wp2_with fail
  refine (HN.out _).mono ?_
  rintro e w1 ⟨bd, rfl, hd1, _⟩
  have HD1 := Lib.hid hd1
  clear hd1 HN
  go_wp2_with fail
  refine (scan_new HC.out HD1.out (n := 32) (by omega) (by omega) (by omega) (Like.refl _)).mono ?_
  rintro e w2 ⟨a2, c2, R2, d2, rfl, hl2, hd2, _⟩
  have HD2 := Lib.hid (And.intro hl2 hd2)
  clear hl2 hd2 HD1
  go_wp2_with fail
  refine (open_new HS HD2.out.2 (n := 32) (by omega) (by omega) (by omega) (by omega) HD2.out.1).mono ?_
  rintro e w3 ⟨b, a3, c3, R3, d3, rfl, hl3, hd3, _⟩
  have HD3 := Lib.hid (And.intro hl3 hd3)
  clear hl3 hd3 HD2
  go_wp2_with fail
  refine (HS.append _ _ _ _ _ _ _ _ hello HD3.out.2 (by decide) (by rw [HD3.out.1.1]; rfl) HD3.out.1.2.1 (fun _ => Nat.zero_le _) (by show 1 < 4294967296; omega) (by omega)).mono ?_
  rintro e w4 ⟨at_, e4, d4, x4, rfl, hr4, hd4, _⟩
  obtain ⟨rfl, rfl, rfl⟩ := app_hello HD3.out.1 hr4
  have HD4 := Lib.hid hd4
  clear hd4 hr4 HD3
  go_wp2_with fail
  refine (HS.next _ _ _ _ _ _ _ _ HD4.out).mono ?_
  rintro e w5 ⟨rfl, rfl⟩
  obtain ⟨T, _, _, hd⟩ := HD4.out
  have HB := Lib.hid hd.1
  clear hd
  go_wp2
  go_ret
  exact ⟨rfl, HB.out⟩
end Go.Proofs.Ytbbeekpndhfpjaa.Sg
end

section
/- SgOn: a log on a disk, act by act: what is scanned, what was sure (mathematics of layer 19). -/
set_option linter.unusedVariables false
namespace Go.Proofs.Ytbbeekpndhfpjaa.Sg
open Go.Proofs.Ytbbeekpndhfpjaa.Pa Go.Proofs.Ytbbeekpndhfpjaa.Fg Go.Proofs.Ytbbeekpndhfpjaa.Dk

/-- A log x on the disk d of n sectors, that is up: all that was told to be appended, and how many of these were sure. -/
def On (n : Nat) (d : Dsk) (x : Lg) (all : List (List UInt8)) (sure : Nat) : Prop :=
  d.down = false ∧ n ≤ 1024 ∧ ∃ f S s W t, LogOn d n S f W ∧ Lgd f n S s x.ep W t ∧ t.rs.map (·.2) = all ∧ s.rs.length = sure ∧ (x.fz = false → t.j = none ∧ x.nx = S + W.length) ∧ most f n ≤ x.ep
section
variable {n : Nat} {d d' : Dsk} {x x' : Lg} {all : List (List UInt8)} {sure : Nat} {r : List UInt8} {at_ e : Int}
theorem On.size (h : On n d x all sure) : d.size = n := by
  obtain ⟨_, _, f, S, s, W, t, h1, _⟩ := h
  exact h1.size
theorem On.nx (h : On n d x all sure) (hf : x.fz = false) : x.nx ≤ n := by
  obtain ⟨_, _, f, S, s, W, t, h1, h2, _, _, h5, _⟩ := h
  rw [(h5 hf).2]; exact h2.fit
theorem On.scan (h : On n d x all sure) : (recs (rdS d) n).map (·.2) = all := by
  obtain ⟨_, _, f, S, s, W, t, h1, h2, h3, _⟩ := h
  rw [h1.seen h2.fit, h2.seen, h3]
theorem On.count (h : On n d x all sure) : (recs (rdS d) n).length = all.length := by rw [← h.scan, List.length_map]
theorem On.high (h : On n d x all sure) : most (rdS d) n ≤ x.ep := by
  obtain ⟨_, _, f, S, s, W, t, h1, h2, h3, _, _, h6⟩ := h
  rw [h1.seen h2.fit]
  exact h2.high h6 _
theorem On.like (h : On n d x all sure) (hl : Like d d') : On n d' x all sure := by
  obtain ⟨h1, h0, f, S, s, W, t, h2, h3⟩ := h
  exact ⟨hl.2.1.trans h1, h0, f, S, s, W, t, hl.log h2, h3⟩
theorem On.fused (h : On n d x all sure) (v : Int) : On n (d.fused v) x all sure := by
  obtain ⟨h1, h0, f, S, s, W, t, h2, h3⟩ := h
  exact ⟨h1, h0, f, S, s, W, t, h2.same rfl rfl rfl rfl rfl, h3⟩
theorem On.sure_le (h : On n d x all sure) : sure ≤ all.length := by
  obtain ⟨_, _, f, S, s, W, t, h1, h2, h3, h4, _⟩ := h
  obtain ⟨y, hy⟩ := run_rs h2.rn
  rw [← h3, List.length_map, hy, List.length_append, h4]
  omega
/-- A record appended, or refused. -/
theorem On.append (h : On n d x all sure) (he : x.ep < 4294967296) (ha : AppR d x r at_ e d' x') :
    e = 0 ∧ On n d' x' (all ++ [r]) sure ∧ x.fz = false ∧ x'.fz = false ∧ x'.ep = x.ep ∧ x.nx + nd (np r.length) x.nx ≤ n ∧ x'.nx = x.nx + nd (np r.length) x.nx ∧ 1 ≤ r.length ∧ r.length ≤ 4096 ∨
    On n d' x' all sure ∧ x'.ep = x.ep ∧ (e = 10 ∧ x' = x ∧ (r.length < 1 ∨ 4096 < r.length) ∨ e = 8 ∧ x' = x ∧ x.fz = true ∨ e = 5 ∧ x' = x ∧ d' = d ∧ x.fz = false ∧ n < x.nx + nd (np r.length) x.nx ∨ e = 6 ∧ x.fz = false ∧ x'.fz = true) := by
  rcases ha with ⟨a1, _, a3, rfl, rfl⟩ | ⟨_, _, a1, _, a3, rfl, rfl⟩ | ⟨_, _, a0, a1, _, a3, rfl, rfl⟩ | ⟨b1, b2, b3, b4, b5, b6, b7⟩
  · exact .inr ⟨h, rfl, .inl ⟨a3, rfl, a1⟩⟩
  · exact .inr ⟨h, rfl, .inr (.inl ⟨a3, rfl, a1⟩)⟩
  · exact .inr ⟨h, rfl, .inr (.inr (.inl ⟨a3, rfl, rfl, a0, by rw [← h.size]; exact a1⟩))⟩
  · have hs := h.size
    obtain ⟨h1, h0, f, S, s, W, t, h2, h3, h4, h5, h6, h7⟩ := h
    obtain ⟨hj, hx⟩ := h6 b3
    rw [hs] at b4
    have hlen : (wr x.ep r x.nx).length = nd (np r.length) x.nx := wr_len _ _ _
    have hok : ∀ p, p ∈ wr x.ep r x.nx → p.right ∧ p.Ok := fun p hp => by
      obtain ⟨w1, w2, w3, w4⟩ := wrs_in (by omega) hp
      exact ⟨w1, by rw [w2]; exact he, by omega⟩
    have hep : ∀ p, p ∈ wr x.ep r x.nx → p.e = x.ep := fun p hp => (wrs_in (by omega) hp).2.1
    obtain ⟨m, m1, m2, m3, m4, m5⟩ := put_on (l := wr x.ep r x.nx) h2 h1 (by rw [← hx, hlen]; exact b4) hok
    rw [← hx] at m1 m3 m4 m5
    rw [← b5] at m3 m4
    rw [← b6] at m5
    obtain ⟨r1, r2⟩ := run_wr (E := x.ep) (r := r) b1 b2 (s := t) (N := x.nx) hj h3.epoch
    rcases b7 with ⟨c1, _, c3⟩ | ⟨c1, _, c3, c4⟩
    · rcases m5 with ⟨_, m6⟩ | ⟨m6, _⟩
      · rw [m6, List.take_length] at m3
        refine .inl ⟨c1, ⟨m4, h0, f, S, s, W ++ wr x.ep r x.nx, ⟨none, x.ep, first x.nx, t.rs ++ [(first x.nx, r)]⟩, m3, ?_, ?_, h5, fun _ => ⟨rfl, ?_⟩, ?_⟩, b3, by rw [c3], by rw [c3], b4, by rw [c3], b1, b2⟩
        · rw [c3]
          exact h3.more (by rw [← hx, hlen]; exact b4) (by rw [← hx]; exact r1) hep
        · rw [List.map_append, h4]; rfl
        · rw [c3, List.length_append, hlen]
          dsimp only
          omega
        · rw [c3]; exact h7
      · omega
    · rcases m5 with ⟨m6, _⟩ | ⟨m6, m7⟩
      · exact absurd m6 c1
      · obtain ⟨u, hu, hur⟩ := r2 m (by rw [← hlen]; exact m7)
        refine .inr ⟨⟨m4, h0, f, S, s, W ++ (wr x.ep r x.nx).take m, u, m3, ?_, by rw [hur, h4], h5, (fun hz => by rw [c3] at hz; cases hz), by rw [c4]; exact h7⟩, c4, .inr (.inr (.inr ⟨m6, b3, c3⟩))⟩
        rw [c4]
        exact h3.more (by rw [List.length_take, ← hx, hlen]; omega) (by rw [← hx]; exact hu) fun p hp => hep p (List.mem_of_mem_take hp)
/-- All is made sure, or not. -/
theorem On.sync (h : On n d x all sure) (ha : SynR d x e d' x') :
    e = 0 ∧ On n d' x' all all.length ∧ x' = x ∧ x.fz = false ∨ On n d' x' all sure ∧ x'.ep = x.ep ∧ (e = 8 ∧ x' = x ∧ x.fz = true ∨ e = 6 ∧ x.fz = false ∧ x'.fz = true) := by
  rcases ha with ⟨a1, a2, rfl, rfl⟩ | ⟨b1, b2, b3, b4⟩
  · exact .inr ⟨h, rfl, .inl ⟨a2, rfl, a1⟩⟩
  · have hs := h.size
    have hh := h
    obtain ⟨h1, h0, f, S, s, W, t, h2, h3, h4, h5, h6, h7⟩ := h
    have hE : d.syncE = if d.fuse = 0 then 6 else 0 := by unfold Dsk.syncE; rw [h1, if_neg (by simp)]
    rcases b4 with ⟨c1, rfl⟩ | ⟨c1, c2, c3⟩
    · obtain ⟨hj, hx⟩ := h6 b1
      have hD : d' = d.spent.settled fun _ => true := by rw [b3]; unfold Dsk.syncD; rw [if_pos (by rw [← b2]; exact c1)]
      refine .inl ⟨c1, ⟨by rw [hD]; exact h1, h0, over f S W fun _ => true, S + W.length, t, [], t, ?_, h3.sync hj, h4, by rw [← h4, List.length_map], fun _ => ⟨hj, by rw [hx]; rfl⟩, h3.high h7 _⟩, rfl, b1⟩
      rw [hD]
      exact (h2.same (d' := d.spent) rfl rfl rfl rfl rfl).settled h3.fit _ _
    · have hD : d' = d := by rw [b3]; unfold Dsk.syncD; rw [if_neg (by rw [← b2]; exact c1)]
      have e6 : e = 6 := by
        rw [b2, hE] at c1 ⊢
        split at c1
        · rename_i h9; rw [if_pos h9]
        · exact absurd rfl c1
      subst hD
      exact .inr ⟨⟨h1, h0, f, S, s, W, t, h2, by rw [c3]; exact h3, h4, h5, (fun hz => by rw [c2] at hz; cases hz), by rw [c3]; exact h7⟩, c3, .inr ⟨e6, b1, c2⟩⟩
/-- The power goes. -/
theorem On.crash (h : On n d x all sure) (kept : Nat → Bool) : ∃ m, sure ≤ m ∧ m ≤ all.length ∧ (recs (rdS (d.settled kept)) n).map (·.2) = all.take m ∧ most (rdS (d.settled kept)) n ≤ x.ep := by
  obtain ⟨h1, h0, f, S, s, W, t, h2, h3, h4, h5, h6, h7⟩ := h
  have e : rdS (d.settled kept) = over f S W kept := by
    have h8 := h2.settled h3.fit kept 0
    rw [h8.seen (by simp), over_nil]
  rw [e]
  obtain ⟨⟨y, hy⟩, z, hz⟩ := h3.crash kept
  refine ⟨(recs (over f S W kept) n).length, by rw [hy, List.length_append, h5]; omega, by rw [← h4, List.length_map, hz, List.length_append]; omega, ?_, h3.high h7 kept⟩
  rw [← h4, hz, List.map_append, List.take_left' (by rw [List.length_map])]
/-- A log that is opened. -/
theorem On.opened {d : Dsk} {n : Nat} (hs : d.size = n) (hn : d.n = 0) (hd : d.down = false) (h0 : n ≤ 1024) : On n d ⟨most (rdS d) n + 1, nxt (rdS d) n, false⟩ ((recs (rdS d) n).map (·.2)) (recs (rdS d) n).length := by
  have e : rdU d = rdS d := by
    funext i
    unfold rdU rdS Dsk.seen
    rw [hn]
    rfl
  obtain ⟨s, h1, h2, h3⟩ := Lgd.opened (rdS d) n (fun i hi => rdS_out d i (by omega)) (E := most (rdS d) n + 1) (Nat.lt_succ_self _)
  exact ⟨hd, h0, rdS d, nxt (rdS d) n, s, [], s, ⟨hs, hn, fun k hk => absurd hk (Nat.not_lt_zero k), (fun k p hp => by simp at hp), (fun p hp => by cases hp), e⟩, h1, by rw [h2], by rw [h2], fun _ => ⟨h3, rfl⟩, Nat.le_succ _⟩
/-- A log on a new disk. -/
theorem On.new (hl : Like (fresh zP n) d) (h0 : n ≤ 1024) : On n d ⟨1, 0, false⟩ [] 0 := by
  have h1 := On.opened (d := d) (n := n) hl.1 hl.2.2.2.2.1 hl.2.1 h0
  obtain ⟨r1, r2, r3⟩ := recs_none (f := rdS d) (n := n) fun i => by rw [hl.rd]; exact (rd_fresh n).1 i
  rw [r1, r2, r3] at h1
  exact h1
end
end Go.Proofs.Ytbbeekpndhfpjaa.Sg
end
