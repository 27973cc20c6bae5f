/- Texts of the walk, one behind the other. -/
import Derived.Test.YtbbeekpndhfpjaaSegLastsM14
import Derived.Test.YtbbeekpndhfpjaaSegLastsM15
import Derived.Test.YtbbeekpndhfpjaaRowT
import Derived.Test.YtbbeekpndhfpjaaSegLastsM6

section
/- SgCr: the power goes under a log; lists of texts copied. -/
set_option maxRecDepth 100000
set_option linter.unusedVariables false
namespace Go.Proofs.Ytbbeekpndhfpjaa.Sg
open Go.RowKit Go.Proofs.Ytbbeekpndhfpjaa.Row Go.Proofs.Ytbbeekpndhfpjaa.Pa Go.Proofs.Ytbbeekpndhfpjaa.Fg Go.Proofs.Ytbbeekpndhfpjaa.Dk
variable {LI : World → Nat → (Nat → Prop) → Nat → Lg → Prop}

/-- Disks with the same sectors and writes are read alike. -/
theorem rdS_eq {d d' : Dsk} (h1 : d'.size = d.size) (h2 : d'.n = d.n) (h3 : d'.sec = d.sec) (h4 : d'.pg = d.pg) (h5 : d'.sure = d.sure) : rdS d' = rdS d := by
  funext i
  unfold rdS Dsk.seen
  rw [h1, h2, h3, h4, h5]
/-- A log is dropped. -/
theorem LgL.drop {w0 w : World} {bd N b : Nat} {d : Dsk} {x : Lg} {G : Nat → Prop} (h : LgL LI w0 bd N d b x G w) : DkL w0 bd N d G w := by
  obtain ⟨T, _, _, h3⟩ := h
  exact h3.sub fun k hk => .inl hk
/-- Behind the power's going: the disk, up again, without a fuse. -/
structure Gone (n : Nat) (d0 d : Dsk) (all : List (List UInt8)) (sure E : Nat) : Prop where
  size : d.size = n
  n0 : d.n = 0
  le : n ≤ 1024
  rd : ∃ m, sure ≤ m ∧ m ≤ all.length ∧ (recs (rdS d) n).map (·.2) = all.take m
  high : most (rdS d) n ≤ E
theorem On.gone {n : Nat} {d : Dsk} {x : Lg} {all : List (List UInt8)} {sure : Nat} (h : On n d x all sure) (kept : Nat → Bool) : Gone n d (d.crashed kept) all sure x.ep := by
  obtain ⟨m, h1, h2, h3, h4⟩ := h.crash kept
  have e : rdS (d.crashed kept) = rdS (d.settled kept) := rdS_eq rfl rfl rfl rfl rfl
  exact ⟨h.size, rfl, h.2.1, ⟨m, h1, h2, by rw [e]; exact h3⟩, by rw [e]; exact h4⟩
theorem Gone.as {n : Nat} {d0 d d' : Dsk} {all : List (List UInt8)} {sure E : Nat} (h : Gone n d0 d all sure E) (h1 : d'.size = d.size) (h2 : d'.n = d.n) (h3 : d'.sec = d.sec) (h4 : d'.pg = d.pg) (h5 : d'.sure = d.sure) : Gone n d0 d' all sure E :=
  ⟨h1.trans h.size, h2.trans h.n0, h.le, by rw [rdS_eq h1 h2 h3 h4 h5]; exact h.rd, by rw [rdS_eq h1 h2 h3 h4 h5]; exact h.high⟩
theorem Gone.like {n : Nat} {d0 d d' : Dsk} {all : List (List UInt8)} {sure E : Nat} (h : Gone n d0 d all sure E) (hl : Like d d') : Gone n d0 d' all sure E := h.as hl.1 hl.2.2.2.2.1 hl.2.2.2.2.2.1 hl.2.2.2.2.2.2 hl.2.2.2.1
/-- How many are there. -/
theorem Gone.count {n : Nat} {d0 d : Dsk} {all : List (List UInt8)} {sure E : Nat} (h : Gone n d0 d all sure E) {l : List (Nat × List UInt8)} (hl : recs (rdS d) n = l) : sure ≤ l.length ∧ l.length ≤ all.length ∧ l.map (·.2) = all.take l.length := by
  obtain ⟨m, h1, h2, h3⟩ := h.rd
  rw [hl] at h3
  have e : l.length = m := by
    have := congrArg List.length h3
    rw [List.length_map, List.length_take] at this
    omega
  exact ⟨by omega, by omega, by rw [e]; exact h3⟩
/-- A log opened then. -/
theorem Gone.on {n : Nat} {d0 d : Dsk} {all : List (List UInt8)} {sure E : Nat} (h : Gone n d0 d all sure E) (hd : d.down = false) {l : List (Nat × List UInt8)} (hl : recs (rdS d) n = l) :
    On n d ⟨most (rdS d) n + 1, nxt (rdS d) n, false⟩ (all.take l.length) l.length := by
  have h1 := On.opened (d := d) (n := n) h.size h.n0 hd h.le
  rw [hl, (h.count hl).2.2] at h1
  exact h1
/-- Part of a list of texts. -/
theorem Txs.part {w : World} {B m c k : Nat} {a : Option Addr} {all : List (List UInt8)} (h : Txs w B a m c all) (hk : k ≤ m) : SlG w (OwnT a m c) 1 a k c (strF (all.take k)) := by
  have hl : ∀ i, i < k → strF all i = strF (all.take k) i := fun i hi => by
    unfold strF
    rw [List.getD_eq_getElem?_getD, List.getD_eq_getElem?_getD, List.getElem?_take_of_lt hi]
  have h0 := Dk.Els.slG h.2 (G := fun q => B ≤ q ∧ q < w.heap.size) fun q h1 h2 => ⟨h1, h2⟩
  obtain ⟨h1, h2, h3, h4⟩ := h0
  refine ⟨by omega, h2, fun i hi => by rw [← hl i hi]; exact h3 i (by omega), ?_⟩
  rcases h4 with ⟨e1, e2, e3⟩ | ⟨b, o, e, hG, hb, hr⟩
  · exact .inl ⟨e1, by omega, e3⟩
  · exact .inr ⟨b, o, e, by show (Value.slice a m c).ownBlock = some b; rw [e]; rfl, hb, fun i hi => by rw [← hl i hi]; exact hr i (by omega)⟩
theorem strF_app (all : List (List UInt8)) (t : List UInt8) (m : Nat) (hm : all.length = m) : ∀ i, i < m + 1 → catE (strF all) m (fun _ => #[.string (tx t)]) i = strF (all ++ [t]) i := fun i hi => by
  unfold catE strF
  by_cases hi2 : i < m
  · rw [if_pos hi2, List.getD_eq_getElem?_getD, List.getD_eq_getElem?_getD, List.getElem?_append_left (by rw [hm]; exact hi2)]
  · obtain rfl : i = m := by omega
    rw [if_neg hi2, List.getD_eq_getElem?_getD, List.getElem?_append_right (by rw [hm]; exact Nat.le_refl _), hm, Nat.sub_self]
    rfl
/-- A list of texts in new memory, beside a log. -/
theorem txs_new (HS : Segs LI) {w0 w w2 : World} {bd N b m c : Nat} {d : Dsk} {x : Lg} {a : Option Addr} {all : List (List UInt8)} {G : Nat → Prop} (hL : LgL LI w0 bd N d b x G w) (hB : Below w.heap.size w w2) (hT : Txs w2 w.heap.size a m c all) :
    LgL LI w0 bd N d b x (OwnT a m c) w2 ∧ Txs w2 w0.heap.size a m c all := by
  have h0 := hL.below.1.size
  refine ⟨(hL.own HS (.of_below hB)).sub fun k hk => .inr (hT.2.block k hk), hT.1, hT.2.wide h0⟩
end Go.Proofs.Ytbbeekpndhfpjaa.Sg
end

section
/- SgLs: what SegLasts' loop stands on: the acts as values, a round's end, the power's going. -/
set_option maxRecDepth 100000
set_option linter.unusedVariables false
namespace Go.Proofs.Ytbbeekpndhfpjaa.Sg
open Go.RowKit Go.Proofs.Ytbbeekpndhfpjaa.Row Go.Proofs.Ytbbeekpndhfpjaa.Pa Go.Proofs.Ytbbeekpndhfpjaa.Fg Go.Proofs.Ytbbeekpndhfpjaa.Dk
variable {LI : World → Nat → (Nat → Prop) → Nat → Lg → Prop}

/-- An act as a value. -/
def acV (op : Nat) (X : ByteArray) (ka : Option Addr) (kn kc : Nat) (pl : Nat) : Array Value := #[.int .u8 op, .string X, .slice ka kn kc, .int .u8 pl]
theorem acV_one (op : Nat) (X : ByteArray) (ka : Option Addr) (kn kc : Nat) (pl : Nat) : (acV op X ka kn kc pl).all (·.oneCell') = true := by
  unfold acV
  rw [Array.all_eq_true]
  intro i hi
  have : i < 4 := hi
  obtain rfl | rfl | rfl | rfl : i = 0 ∨ i = 1 ∨ i = 2 ∨ i = 3 := by omega
  all_goals rfl
theorem info_act {U : Array Value} (h : U.size = 4) : (Try.prog.info? 36).map (·.size) = some U.size := by rw [h]; kernel_rfl
theorem zero_act (w : World) : (zeroValue 36).run Try.prog w = .ok (.agg zA9) w := by kernel_rfl
theorem fld_act1 : FldO 36 1 1 := fldO Try.underlying36 rfl rfl (s := 1) (by kernel_rfl) (by omega)
theorem range_ac9 {w : World} {b o : Nat} {x : Ac9} (h : Ac9At w b o x) : w.rangeAt b o (acV x.op x.tx x.ka x.kn x.kc x.pl).toList := fun j v hv => by
  obtain ⟨h0, h1, h2, h3, _⟩ := h
  have hj : j < 4 := (List.getElem?_eq_some_iff.1 hv).1
  rw [Array.getElem?_toList] at hv
  obtain rfl | rfl | rfl | rfl : j = 0 ∨ j = 1 ∨ j = 2 ∨ j = 3 := by omega
  · exact h0.trans hv
  · exact h1.trans hv
  · exact h2.trans hv
  · exact h3.trans hv

/-- Where the loop stands: ahead of act i. -/
def LstI (LI : World → Nat → (Nat → Prop) → Nat → Lg → Prop) (w0 : World) (bd n N i : Nat) (b : Nat) (a : Option Addr) (m c su : Nat) (w : World) : Prop :=
  ∃ d x all, LgL LI w0 bd N d b x (OwnT a m c) w ∧ On n d x all su ∧ x.ep ≤ i + 1 ∧ Txs w w0.heap.size a m c all ∧ all.length ≤ i
section
variable {w0 w w' : World} {bd n N i b m c su : Nat} {a : Option Addr}
theorem LstI.mono {N' : Nat} (h : LstI LI w0 bd n N i b a m c su w) (hN : N ≤ N') : LstI LI w0 bd n N' i b a m c su w := by
  obtain ⟨d, x, all, h1, h2⟩ := h
  exact ⟨d, x, all, h1.mono hN, h2⟩
theorem LstI.next (HS : Segs LI) (h : LstI LI w0 bd n N i b a m c su w) (hb : Below w.heap.size w w') : LstI LI w0 bd n N i b a m c su w' := by
  obtain ⟨d, x, all, h1, h2, h3, h4, h5⟩ := h
  exact ⟨d, x, all, h1.next HS hb, h2, h3, ⟨h4.1, h4.2.below hb⟩, h5⟩
/-- What a round's scan leaves. -/
def LstS (LI : World → Nat → (Nat → Prop) → Nat → Lg → Prop) (w0 : World) (bd n N i : Nat) (b : Nat) (a : Option Addr) (m c su : Nat) (a8 : Option Addr) (c8 : Nat) (w : World) : Prop :=
  LstI LI w0 bd n N i b a m c su w ∧ ∃ l all, l.length = m ∧ Els w 0 79 2 a8 m c8 (recF l) ∧ Txs w w0.heap.size a m c all ∧ all = l.map (·.2)
theorem LstI.scan (HC : ScanAs) (HS : Segs LI) (h : LstI LI w0 bd n N i b a m c su w) (h1 : 32 ≤ n) (h2 : n % 16 = 0) (h3 : N + n ≤ 1000000) :
    Calls Try.prog 15 #[.pointer (some ⟨bd, 0, none⟩)] w fun e w' => ∃ a8 c8, ∃ u v : Nat, e = .returned (.tuple #[.slice a8 m c8, .int .i64 u, .int .u32 v, .int .i64 0]) ∧ LstS LI w0 bd n (N + n) i b a m c su a8 c8 w' := by
  obtain ⟨d, x, all, g1, g2, g3, g4, g5⟩ := h
  have hs := g2.size
  refine (scan_lg HC HS g1 (by omega) (by omega) g2.1 (by omega)).mono ?_
  rintro e w' ⟨a8, n8, c8, R8, d8, rfl, hl8, hL8, hk8, hR8⟩
  rw [hs] at hR8 hL8
  have hn8 : n8 = m := by rw [← hR8.1, g2.count]; exact g4.1
  subst hn8
  have hT8 := g4.kp hk8
  exact ⟨a8, c8, _, _, rfl, ⟨d8, x, all, hL8.sub fun k hk => .inl hk, g2.like hl8, g3, hT8, g5⟩, _, all, hR8.1, hR8.2.1, hT8, g2.scan.symm⟩
theorem LstS.begins (HS : Segs LI) {a8 : Option Addr} {c8 : Nat} (h : LstS LI w0 bd n N i b a m c su a8 c8 w) :
    Calls Try.prog 16 #[.slice a8 m c8, .slice a m c] w fun e w' => e = .returned (.int .i64 1) ∧ LstI LI w0 bd n N i b a m c su w' := by
  obtain ⟨h0, l, all, h1, h2, h3, h4⟩ := h
  refine (begins_as h1 h2 h3 ⟨[], by rw [List.append_nil]; exact h4⟩).mono ?_
  rintro e w' ⟨rfl, hb⟩
  exact ⟨rfl, h0.next HS hb⟩

/-- The power went: the disk is up again, and no log is open. -/
def Lst0 (w0 : World) (bd n N i : Nat) (a : Option Addr) (m c su : Nat) (l : List (Nat × List UInt8)) (u v : Nat) (R : Nat → Prop) (w : World) : Prop :=
  ∃ d d0 all, DkL w0 bd N d (fun k => OwnT a m c k ∨ R k) w ∧ Gone n d0 d all su (i + 1) ∧ d.down = false ∧ Txs w w0.heap.size a m c all ∧ all.length ≤ i ∧ recs (rdS d) n = l ∧ nxt (rdS d) n = u ∧ most (rdS d) n = v
section
variable {l : List (Nat × List UInt8)} {u v : Nat} {R : Nat → Prop}
theorem Lst0.of {d0 d : Dsk} {all : List (List UInt8)} (h1 : DkL w0 bd N d (OwnT a m c) w) (h2 : Gone n d0 d all su (i + 1)) (h3 : d.down = false) (h4 : Txs w w0.heap.size a m c all) (h5 : all.length ≤ i) :
    ∃ l u v, Lst0 w0 bd n N i a m c su l u v None w ∧ su ≤ l.length ∧ l.length ≤ m ∧ v ≤ i + 1 :=
  ⟨_, _, _, ⟨d, d0, all, h1.sub fun k hk => hk.elim id fun h => h.elim, h2, h3, h4, h5, rfl, rfl, rfl⟩, (h2.count rfl).1, by rw [← h4.1]; exact (h2.count rfl).2.1, h2.high⟩
theorem Lst0.next (h : Lst0 w0 bd n N i a m c su l u v R w) (hb : Below w.heap.size w w') : Lst0 w0 bd n N i a m c su l u v R w' := by
  obtain ⟨d, d0, all, h1, h2, h3, h4, h5⟩ := h
  exact ⟨d, d0, all, (h1.own (.of_below hb)).sub fun k hk => .inl hk, h2, h3, ⟨h4.1, h4.2.below hb⟩, h5⟩
theorem Lst0.scan (HC : ScanAs) (h : Lst0 w0 bd n N i a m c su l u v R w) (h1 : 32 ≤ n) (h2 : n % 16 = 0) (h3 : N + n ≤ 1000000) :
    Calls Try.prog 15 #[.pointer (some ⟨bd, 0, none⟩)] w fun e w' => ∃ ax cx, ∃ S : Nat → Prop, e = .returned (.tuple #[.slice ax l.length cx, .int .i64 u, .int .u32 v, .int .i64 0]) ∧
      Lst0 w0 bd n (N + n) i a m c su l u v S w' ∧ Els w' 0 79 2 ax l.length cx (recF l) ∧ (∀ k, (Value.slice ax l.length cx).ownBlock = some k → S k) ∧ Kp R w w' := by
  obtain ⟨d, d0, all, g1, g2, g3, g4, g5, g6, g7, g8⟩ := h
  have hs := g2.size
  refine (HC w0 w bd N d _ g1 (by omega) (by omega) g3 (by omega)).mono ?_
  rintro e w' ⟨a8, n8, c8, R8, d8, rfl, hl8, hD8, hk8, hR8⟩
  rw [hs] at hR8 hD8 ⊢
  rw [g6] at hR8
  obtain rfl := hR8.1
  rw [g7, g8]
  exact ⟨a8, c8, R8, rfl, ⟨d8, d0, all, hD8.sub fun k hk => hk.elim (fun h => .inl (.inl h)) .inr, g2.like hl8, hl8.2.1.trans g3, g4.kp (kp_sub hk8 fun k hk => .inl hk), g5, by rw [hl8.rd]; exact g6, by rw [hl8.rd]; exact g7, by rw [hl8.rd]; exact g8⟩, hR8.2.1, hR8.2.2.1, kp_sub hk8 fun k hk => .inr hk⟩
theorem Lst0.begins {ax : Option Addr} {cx : Nat} (h : Lst0 w0 bd n N i a m c su l u v R w) (hE : Els w 0 79 2 ax l.length cx (recF l)) :
    Calls Try.prog 16 #[.slice ax l.length cx, .slice a m c] w fun e w' => e = .returned (.int .i64 1) ∧ Lst0 w0 bd n N i a m c su l u v R w' := by
  have hh := h
  obtain ⟨d, d0, all, g1, g2, g3, g4, g5, g6, g7, g8⟩ := h
  refine (begins_as rfl hE g4 ⟨all.drop l.length, by rw [(g2.count g6).2.2, List.take_append_drop]⟩).mono ?_
  rintro e w' ⟨rfl, hb⟩
  exact ⟨rfl, hh.next hb⟩
/-- A log is opened then. -/
def Lst2 (LI : World → Nat → (Nat → Prop) → Nat → Lg → Prop) (w0 : World) (bd n N i b : Nat) (a : Option Addr) (m c k u v : Nat) (all : List (List UInt8)) (w : World) : Prop :=
  ∃ d, LgL LI w0 bd N d b ⟨v + 1, u, false⟩ (OwnT a m c) w ∧ On n d ⟨v + 1, u, false⟩ (all.take k) k ∧ v ≤ i + 1 ∧ Txs w w0.heap.size a m c all ∧ all.length ≤ i ∧ k ≤ m
theorem Lst0.opened (HS : Segs LI) (h : Lst0 w0 bd n N i a m c su l u v R w) (h1 : 32 ≤ n) (h2 : n % 16 = 0) (h3 : N + n ≤ 1000000) (h4 : i ≤ 1000) :
    Calls Try.prog 10 #[.pointer (some ⟨bd, 0, none⟩)] w fun e w' => ∃ b az cz all, e = .returned (.tuple #[.pointer (some ⟨b, 0, none⟩), .slice az l.length cz, .int .i64 0]) ∧ Lst2 LI w0 bd n (N + n) i b a m c l.length u v all w' := by
  obtain ⟨d, d0, all, g1, g2, g3, g4, g5, g6, g7, g8⟩ := h
  have hs := g2.size
  have hv := g2.high
  have hc := g2.count g6
  refine (HS.opened w0 w bd N d _ g1 (by omega) (by omega) g3 (by omega) (by rw [hs]; omega)).mono ?_
  rintro e w' ⟨b, a8, n8, c8, R8, d8, rfl, hl8, hL8, hk8, hR8⟩
  rw [hs] at hR8 hL8
  rw [g6] at hR8
  obtain rfl := hR8.1
  have ho := (g2.like hl8).on (hl8.2.1.trans g3) (l := l) (by rw [hl8.rd]; exact g6)
  rw [g7, g8] at hL8
  rw [hl8.rd, g7, g8] at ho
  exact ⟨b, a8, c8, all, rfl, d8, hL8.sub fun k hk => .inl (.inl hk), ho, by rw [← g8]; exact hv, g4.kp (kp_sub hk8 fun k hk => .inl hk), g5, by rw [← g4.1]; exact hc.2.1⟩
end
section
variable {k u v : Nat} {all : List (List UInt8)}
theorem Lst2.next (HS : Segs LI) (h : Lst2 LI w0 bd n N i b a m c k u v all w) :
    Calls Try.prog 17 #[.pointer (some ⟨b, 0, none⟩)] w fun e w' => e = .returned (.int .i64 u) ∧ w' = w := by
  obtain ⟨d, g1, _⟩ := h
  exact HS.next _ _ _ _ _ _ _ _ g1
theorem Lst2.sl (h : Lst2 LI w0 bd n N i b a m c k u v all w) : k ≤ m ∧ m ≤ c ∧ SlG w (OwnT a m c) 1 a k c (strF (all.take k)) := by
  obtain ⟨d, g1, g2, g3, g4, g5, g6⟩ := h
  exact ⟨g6, g4.2.cap.1, g4.part g6⟩
theorem Lst2.copied (HS : Segs LI) {a' : Option Addr} {c' : Nat} (h : Lst2 LI w0 bd n N i b a m c k u v all w) (hb : Below w.heap.size w w') (hE : Els w' w.heap.size 9 1 a' k c' (strF (all.take k))) : LstI LI w0 bd n N (i + 1) b a' k c' k w' := by
  obtain ⟨d, g1, g2, g3, g4, g5, g6⟩ := h
  have hm := g4.1
  obtain ⟨e1, e2⟩ := txs_new HS g1 hb ⟨by rw [List.length_take]; omega, hE⟩
  exact ⟨d, _, all.take k, e1, g2, by show v + 1 ≤ i + 1 + 1; omega, e2, by rw [List.length_take]; omega⟩
end
end
theorem Gone.high' {n : Nat} {d0 d : Dsk} {all : List (List UInt8)} {sure E E' : Nat} (h : Gone n d0 d all sure E) (hE : E ≤ E') : Gone n d0 d all sure E' := ⟨h.size, h.n0, h.le, h.rd, Nat.le_trans h.high hE⟩
theorem Txs.all {w : World} {B m c : Nat} {a : Option Addr} {all : List (List UInt8)} (h : Txs w B a m c all) : SlG w (OwnT a m c) 1 a m c (strF all) := by
  have h1 := h.part (Nat.le_refl m)
  rw [← h.1, List.take_length] at h1
  rw [← h.1]
  exact h1
/-- Behind an append that went well. -/
theorem ap_done (HS : Segs LI) {w0 w w9 : World} {bd n N i b m su c' : Nat} {a' : Option Addr} {d : Dsk} {x : Lg} {E : Nat} {all : List (List UInt8)} {r : List UInt8} {G : Nat → Prop} (h1 : On n d x (all ++ [r]) su) (h2 : x.ep = E) (h3 : E ≤ i + 1) (h4 : all.length ≤ i)
    (hL : LgL LI w0 bd N d b x G w) (hm : all.length = m) (hb : Below w.heap.size w w9) (hE : Els w9 w.heap.size 9 1 a' (m + 1) c' (catE (strF all) m fun _ => #[.string (tx r)])) : LstI LI w0 bd n N (i + 1) b a' (m + 1) c' su w9 := by
  obtain ⟨e1, e2⟩ := txs_new HS (all := all ++ [r]) hL hb ⟨by rw [List.length_append, hm]; rfl, hE.ext (strF_app all r m hm)⟩
  exact ⟨d, x, _, e1, h1, by omega, e2, by rw [List.length_append]; show all.length + 1 ≤ i + 1; omega⟩
end Go.Proofs.Ytbbeekpndhfpjaa.Sg
end
