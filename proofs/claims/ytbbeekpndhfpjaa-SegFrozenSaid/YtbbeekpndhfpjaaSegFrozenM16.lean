/- Texts of the walk, one behind the other. -/
import Derived.Test.YtbbeekpndhfpjaaSegFrozenM15
import Derived.Test.YtbbeekpndhfpjaaSlA9
import Derived.BigQuiet

section
/- The statements' own functions of layer 19: few, Begins; lists of texts. -/
set_option maxRecDepth 100000
set_option linter.unusedVariables false
set_option linter.unusedSimpArgs false
namespace Go.Proofs.Ytbbeekpndhfpjaa.Sg
open Go.RowKit Go.Proofs.Ytbbeekpndhfpjaa.Row Go.Proofs.Ytbbeekpndhfpjaa.Pa Go.Proofs.Ytbbeekpndhfpjaa.Fg Go.Proofs.Ytbbeekpndhfpjaa.Dk

def zA9 : Array Value := #[.int .u8 0, .string ⟨#[]⟩, .slice none 0 0, .int .u8 0]
theorem elt_a9 : ElT 22 36 4 56 zA9 :=
  ⟨Try.underlying22, ⟨_, _, rfl, rfl, by kernel_rfl, by kernel_rfl, by kernel_rfl⟩, rfl, by omega, by omega⟩
theorem elt_rec : ElT 30 79 2 24 #[.int .i64 0, .string ⟨#[]⟩] :=
  ⟨Try.underlying30, ⟨_, _, rfl, rfl, by kernel_rfl, by kernel_rfl, by kernel_rfl⟩, rfl, by omega, by omega⟩
theorem elt_s : ElT 33 9 1 16 #[.string ⟨#[]⟩] :=
  ⟨Try.underlying33, ⟨_, _, rfl, rfl, by kernel_rfl, by kernel_rfl, by kernel_rfl⟩, rfl, by omega, by omega⟩
/-- Texts as elements. -/
def strF (all : List (List UInt8)) (i : Nat) : Array Value := #[.string (tx (all.getD i []))]
/-- A list of texts of one's own. -/
def Txs (w : World) (B : Nat) (a : Option Addr) (n c : Nat) (all : List (List UInt8)) : Prop := all.length = n ∧ Els w B 9 1 a n c (strF all)

/-- What few answers. -/
def RetFew9 (w : World) (n : Nat) (A : Nat → Ac9) (e : Ending) (w' : World) : Prop := ∃ bb, e = .returned (.bool bb) ∧ w' = w ∧ (bb = true → n ≤ 30 ∧ ∀ i, i < n → (A i).tx.size ≤ 5000 ∧ (A i).kn ≤ 300)
set_option maxHeartbeats 1000000 in
theorem few_as (w : World) (a : Option Addr) (n c : Nat) (A : Nat → Ac9) (h : SlA9 w a n c A) : Calls Try.prog 8 #[.slice a n c] w (RetFew9 w n A) := by
  have HA := Lib.hid h
  clear h
  go_enter Try.func8, Try.ntmps8
  go_wp2_with fail
  go_loopw [3] (fun i w' => ∃ k : Nat, k ≤ n ∧ k ≤ 31 ∧ i = .int .i64 k ∧ w' = w ∧ Hid (∀ j, j < k → (A j).tx.size ≤ 5000 ∧ (A j).kn ≤ 300)) (fun i _ => n - (intOf i).toNat)
  case atStart => exact ⟨0, Nat.zero_le _, by omega, rfl, rfl, Lib.hid fun j hj => absurd hj (Nat.not_lt_zero j)⟩
  case round =>
    obtain ⟨k, hk, hk6, rfl, rfl, HK⟩ := hrel
    by_cases hlt : k < n
    · have k1 : (k : Int) < (n : Int) := by omega
      by_cases h60 : k ≤ 30
      · have k2 : (k : Int) ≤ 30 := by omega
        obtain ⟨g, o, hg, hat⟩ := HA.out.2.2.2 (by omega)
        have hsz := (HA.out.2.2.1 k hlt).2.2
        have hc1 := (hat k hlt).2.1
        have hc2 := (hat k hlt).2.2.1
        have rx := run_ex (g := g) (o := o) (n := n) (c := c) elt_a9 hlt
        subst hg
        obtain ⟨q, hq⟩ : ∃ q, (A k).kn = q := ⟨_, rfl⟩
        obtain ⟨X, hX⟩ : ∃ X, (A k).tx = X := ⟨_, rfl⟩
        obtain ⟨y, hy⟩ : ∃ y, X.size = y := ⟨_, rfl⟩
        have HQ := Lib.hid (And.intro hq (And.intro hX hy))
        rw [hq] at hc2
        rw [hX] at hc1 hsz
        unfold maxLen at hsz
        clear hat hq hX
        by_cases hy2 : y ≤ 5000
        · have k4 : ¬ (5000 : Int) < (y : Int) := by omega
          by_cases hq2 : q ≤ 300
          · have k3 : ¬ (300 : Int) < (q : Int) := by omega
            go_wp2_with fail
            go_roundw
            case rel => exact ⟨k + 1, by omega, by omega, by go_num, by first | rfl | trivial, Lib.hid fun j hj => by
              by_cases e : j = k
              · subst e; rw [HQ.out.1, HQ.out.2.1, HQ.out.2.2]; exact ⟨hy2, hq2⟩
              · exact HK.out j (by omega)⟩
            case measure => simp [intOf]; omega
          · have k3 : (300 : Int) < (q : Int) := by omega
            go_wp2_with fail
            go_ret
            exact ⟨false, rfl, rfl, fun h => by cases h⟩
        · have k4 : (5000 : Int) < (y : Int) := by omega
          go_wp2_with fail
          go_ret
          exact ⟨false, rfl, rfl, fun h => by cases h⟩
      · have k2 : ¬ (k : Int) ≤ 30 := by omega
        go_wp2_with fail
        go_ret
        exact ⟨_, rfl, rfl, fun h => by simp at h; omega⟩
    · obtain rfl : k = n := by omega
      have k1 : ¬ (k : Int) < (k : Int) := by omega
      go_wp2_with fail
      go_ret
      exact ⟨_, rfl, rfl, fun h => ⟨by simp at h; omega, HK.out⟩⟩

set_option maxHeartbeats 1000000 in
theorem begins_as {w : World} {B B' n c m c' : Nat} {a b : Option Addr} {l : List (Nat × List UInt8)} {all : List (List UInt8)} (hl : l.length = n) (hE : Els w B 79 2 a n c (recF l)) (hT : Txs w B' b m c' all) (hp : ∃ y, all = l.map (·.2) ++ y) :
    Calls Try.prog 16 #[.slice a n c, .slice b m c'] w fun e w' => e = .returned (.int .i64 1) ∧ Below w.heap.size w w' := by
  have hnm : n ≤ m := by
    obtain ⟨y, hy⟩ := hp
    rw [← hT.1, hy, List.length_append, List.length_map, hl]; omega
  have hsame : ∀ k, k < n → all.getD k [] = (l.getD k (0, [])).2 := fun k hk => by
    obtain ⟨y, hy⟩ := hp
    rw [hy, List.getD_eq_getElem?_getD, List.getElem?_append_left (by rw [List.length_map, hl]; exact hk), List.getElem?_map, List.getD_eq_getElem?_getD, List.getElem?_eq_getElem (by omega)]
    rfl
  have HS := Lib.hid hsame
  have HE := Lib.hid (And.intro hE hT.2)
  have hcap := hE.cap.2
  unfold maxLen at hcap
  have hcap1 := hE.cap.1
  have hcap2 := hT.2.cap
  unfold maxLen at hcap2
  clear hE hT hp hsame hl
  go_enter Try.func16, Try.ntmps16
  go_wp2_with fail
  go_loopw [5] (fun i w' => ∃ k : Nat, k ≤ n ∧ i = .int .i64 k ∧ Hid (Below w.heap.size w w')) (fun i _ => n - (intOf i).toNat)
  case atStart => exact ⟨0, Nat.zero_le _, rfl, Lib.hid (Below.refl _ _)⟩
  case round =>
    obtain ⟨k, hk, rfl, HB⟩ := hrel
    by_cases hlt : k < n
    · have k1 : decide ((k : Int) < (n : Int)) = true := decide_eq_true (by omega)
      have k2 : decide ((m : Int) ≤ (k : Int)) = false := decide_eq_false (by omega)
      have k3 : decide (m ≤ k) = false := decide_eq_false (by omega)
      obtain ⟨g, rfl, _, hgl⟩ := HE.out.1.addr (by omega)
      obtain ⟨q, rfl, _, hql⟩ := HE.out.2.addr (by omega)
      obtain ⟨X, hX⟩ : ∃ X, tx (l.getD k (0, [])).2 = X := ⟨_, rfl⟩
      have c1 : wr.cell? ⟨g, k * 2 + 1, none⟩ = some (.string X) := by
        have h1 := (HE.out.1.below HB.out).range hlt 1 (.string X) (by rw [Array.getElem?_toList, ← hX]; rfl)
        exact h1
      have c2 : wr.cell? ⟨q, k, none⟩ = some (.string X) := by
        have h1 := (HE.out.2.below HB.out).range (i := k) (by omega) 0 (.string X) (by rw [Array.getElem?_toList, ← hX, ← HS.out k hlt]; rfl)
        rwa [Nat.add_zero, Nat.mul_one] at h1
      have r1 := run_ex (g := g) (o := 0) (n := n) (c := c) elt_rec hlt
      have r2 := run_ex (g := q) (o := 0) (n := m) (c := c') elt_s (show k < m by omega)
      have hxx : (X.toList != X.toList) = false := by simp
      clear hX
      go_wp2_with fail
      go_quiet (fail)
      go_wp2
      go_roundw
      case rel => exact ⟨k + 1, by omega, by go_num, Lib.hid (below_drewN HB.out _)⟩
      case measure => simp [intOf]; omega
    · obtain rfl : k = n := by omega
      have k1 : decide ((k : Int) < (k : Int)) = false := decide_eq_false (by omega)
      go_wp2_with fail
      go_ret
      exact ⟨rfl, HB.out⟩
end Go.Proofs.Ytbbeekpndhfpjaa.Sg
end

section
/- SegFrozen: once a write, or a sync, is refused, nothing is appended any more, and what was appended is scanned. -/
set_option maxRecDepth 100000
set_option linter.unusedVariables false
namespace Go.Proofs.Ytbbeekpndhfpjaa.Sg
open Go.RowKit Go.Proofs.Ytbbeekpndhfpjaa.Row Go.Proofs.Ytbbeekpndhfpjaa.Pa Go.Proofs.Ytbbeekpndhfpjaa.Fg Go.Proofs.Ytbbeekpndhfpjaa.Dk
variable {LI : World → Nat → (Nat → Prop) → Nat → Lg → Prop}

/-- The block of a list of texts. -/
def OwnT (a : Option Addr) (m c k : Nat) : Prop := (Value.slice a m c).ownBlock = some k
theorem one_text (X : ByteArray) : (#[.string X] : Array Value).all (·.oneCell') = true := by
  rw [Array.all_eq_true]
  intro i hi
  have : i < 1 := hi
  obtain rfl : i = 0 := by omega
  rfl
/-- A text appended to a list beside a log. -/
theorem txs_more (HS : Segs LI) {w0 w w2 : World} {bd N b B m c c' : Nat} {d : Dsk} {x : Lg} {a a' : Option Addr} {all : List (List UInt8)} {t : List UInt8} (hL : LgL LI w0 bd N d b x (OwnT a m c) w) (hT : Txs w B a m c all)
    (h4 : Els w2 B 9 1 a' (m + 1) c' (catE (strF all) m fun _ => #[.string (tx t)])) (hg : (w.alloc (.cells #[.string (tx t)] 9)).grownBy w2 (Value.slice a m c).ownBlock)
    (hat : (Value.slice a' (m + 1) c').ownBlock = (Value.slice a m c).ownBlock ∨ (Value.slice a' (m + 1) c').ownBlock = some (w.alloc (.cells #[.string (tx t)] 9)).heap.size) :
    LgL LI w0 bd N d b x (OwnT a' (m + 1) c') w2 ∧ Txs w2 B a' (m + 1) c' (all ++ [t]) := by
  have hf : Fr (OwnT a m c) w w2 := ((Fr.refl _ _).alloc _).grown hg fun k hk => .inl hk
  refine ⟨(hL.own HS hf).sub fun k hk => ?_, by rw [List.length_append, hT.1]; rfl, h4.ext fun i hi => ?_⟩
  · rcases hat with e | e
    · exact .inl (e.symm.trans hk)
    · have hk2 : some (w.alloc (.cells #[.string (tx t)] 9)).heap.size = some k := e.symm.trans hk
      have hk3 := Option.some.inj hk2
      have hlt := h4.block k hk
      rw [World.size_alloc] at hk3
      exact .inr ⟨by omega, hlt.2⟩
  · unfold catE strF
    by_cases hi2 : i < m
    · rw [if_pos hi2, List.getD_eq_getElem?_getD, List.getD_eq_getElem?_getD, List.getElem?_append_left (by rw [hT.1]; exact hi2)]
    · obtain rfl : i = m := by omega
      rw [if_neg hi2, List.getD_eq_getElem?_getD, List.getElem?_append_right (by rw [hT.1]; exact Nat.le_refl _), hT.1, Nat.sub_self]
      rfl

/-- Where the loop stands. -/
def FrzI (LI : World → Nat → (Nat → Prop) → Nat → Lg → Prop) (w0 : World) (bd b i : Nat) (a : Option Addr) (m c : Nat) (z : Bool) (w : World) : Prop :=
  ∃ d x all sure, LgL LI w0 bd (1000 + 200 * i) d b x (OwnT a m c) w ∧ On 64 d x all sure ∧ x.fz = z ∧ x.ep = 1 ∧ Txs w w0.heap.size a m c all ∧ all.length ≤ i
theorem FrzI.go {w0 w w' : World} {bd b i : Nat} {a : Option Addr} {m c N : Nat} {d : Dsk} {x : Lg} {all : List (List UInt8)} {sure : Nat} {z : Bool} (hL : LgL LI w0 bd N d b x (OwnT a m c) w) (ho : On 64 d x all sure) (hz : x.fz = z) (he : x.ep = 1) (hT : Txs w w0.heap.size a m c all) (hl : all.length ≤ i) (hN : N ≤ 1000 + 200 * i) : FrzI LI w0 bd b i a m c z w :=
  ⟨d, x, all, sure, hL.mono hN, ho, hz, he, hT, hl⟩
theorem Txs.kp {w w' : World} {B m c : Nat} {a : Option Addr} {all : List (List UInt8)} (h : Txs w B a m c all) (hk : Kp (OwnT a m c) w w') : Txs w' B a m c all := ⟨h.1, h.2.keep fun k hk' => hk.2 k hk'⟩

set_option maxHeartbeats 4000000 in
theorem frozen_few (HC : ScanAs) (HS : Segs LI) (a0 : Option Addr) (n c0 : Nat) (A : Nat → Ac9) (fu : Nat) (w : World) (hA : SlA9 w a0 n c0 A) (hfu : fu < 256) :
    Calls Try.prog 4 #[.slice a0 n c0, .int .u8 fu] w fun e w' => e = .returned (.bool true) ∧ Below w.heap.size w w' := by
  have HA := Lib.hid hA
  have HAW := Lib.hid (fun w => awake_as HC HS w)
  have HFW := Lib.hid (fun w' (hb : Below w.heap.size w w') => few_as w' a0 n c0 A (hA.below hb))
  have HNW := Lib.hid (fun w0 w (hb : Below w0.heap.size w0 w) => new_L (w0 := w0) (w := w) (G := None) 64 (by omega) (by omega) hb (fun _ h => h.elim))
  clear hA
  go_enter Try.func4, Try.ntmps4
  go_wp2_with fail
  refine (HAW.out _).mono ?_
  rintro e w1 ⟨rfl, hb1⟩
  have HB1 := Lib.hid hb1
  clear hb1
  go_wp2_with fail
  refine (HFW.out _ HB1.out).mono ?_
  rintro e w2 ⟨bb, rfl, rfl, hbb⟩
  have HBB := Lib.hid hbb
  clear hbb HFW
  cases bb with
  | false =>
    go_wp2_with fail
    refine (HAW.out _).mono ?_
    rintro e w3 ⟨rfl, hb3⟩
    have HB3 := Lib.hid (below_trans HB1.out hb3 HB1.out.size)
    clear hb3
    go_wp2
    go_ret
    exact ⟨rfl, HB3.out⟩
  | true =>
    obtain ⟨hn30, hfew⟩ := HBB.out rfl
    have HFEW := Lib.hid hfew
    clear HBB HAW hfew
    go_wp2_with fail
    refine (HNW.out w _ HB1.out).mono ?_
    rintro e w3 ⟨bd, rfl, hd3, _⟩
    have HD3 := Lib.hid hd3
    clear hd3 HNW HB1
    go_wp2_with fail
    refine (open_new HS HD3.out (n := 64) (by omega) (by omega) (by omega) (by omega) (Like.refl _)).mono ?_
    rintro e w4 ⟨b, a4, c4, R4, d4, rfl, hl4, hd4, _⟩
    have HD4 := Lib.hid (And.intro hl4 (hd4.sub (H := OwnT none 0 0) fun k hk => by cases hk))
    clear hl4 hd4 HD3
    obtain ⟨F, hF⟩ : ∃ F, fu % 30 = F := ⟨_, rfl⟩
    have e0 : (fu : Int) % 30 = F := by omega
    have hF30 : F < 30 := by omega
    clear hF
    go_wp2_with fail
    rw [e0]
    refine (fuse_lg HS HD4.out.2 F (WalkArith.wf_i64 (by omega))).mono ?_
    rintro e w5 ⟨rfl, hd5, _⟩
    have HI := Lib.hid (show FrzI LI w bd b 0 none 0 0 false w5 from ⟨_, _, [], 0, hd5.mono (by omega), (On.new HD4.out.1 (by omega)).fused F, rfl, rfl, ⟨rfl, Els.nil _ _ _ _ _⟩, Nat.le_refl 0⟩)
    clear hd5 HD4 e0
    go_wp2_with fail
    go_loopw [10, 11, 12] (fun l z i w' => ∃ (a : Option Addr) (m c k : Nat) (zb : Bool), l = .slice a m c ∧ z = .bool zb ∧ i = .int .i64 k ∧ k ≤ n ∧ Hid (FrzI LI w bd b k a m c zb w')) (fun _ _ i _ => 1000 - (intOf i).toNat)
    case atStart => exact ⟨none, 0, 0, 0, false, rfl, rfl, rfl, Nat.zero_le _, HI⟩
    case round =>
      obtain ⟨a, m, c, k, zb, rfl, rfl, rfl, hk, hI⟩ := hrel
      clear HI
      obtain ⟨d, x, all, sure, q1, q2, q3, q4, q5, q6⟩ := hI.out
      have HLN := Lib.hid q6
      clear hI
      have HQ := Lib.hid (And.intro q1 (And.intro q2 (And.intro q3 (And.intro q4 q5))))
      clear q1 q2 q3 q4 q5 q6
      by_cases hlt : k < n
      · have k1 : decide ((k : Int) < (n : Int)) = true := decide_eq_true (by omega)
        obtain ⟨g, o, hg, hat⟩ := (HA.out.below HQ.out.1.below.1).2.2.2 (by omega)
        have rx := run_ex (g := g) (o := o) (n := n) (c := c0) elt_a9 hlt
        subst hg
        obtain ⟨op, hop⟩ : ∃ op, (A k).op = op := ⟨_, rfl⟩
        obtain ⟨r, hr⟩ : ∃ r, (A k).tx = tx r := ⟨(A k).tx.data.toList, rfl⟩
        have hrl : r.length ≤ 5000 := by have := (HFEW.out k hlt).1; rw [hr, tx_size] at this; exact this
        have hc0 := (hat k hlt).1
        have hop8 : op < 256 := by rw [← hop]; exact (HA.out.2.2.1 k hlt).1
        rw [hop] at hc0
        have HTX := Lib.hid (fun w' (hb : Below w.heap.size w w') => show w'.cell? ⟨g, o + k * 4 + 1, none⟩ = some (.string (tx r)) from by
          obtain ⟨g', o', e, hat'⟩ := (HA.out.below hb).2.2.2 (by omega)
          simp only [Option.some.injEq, Addr.mk.injEq] at e
          obtain ⟨rfl, rfl, _⟩ := e
          rw [← hr]
          exact (hat' k hlt).2.1)
        have hc1 := HTX.out _ HQ.out.1.below.1
        clear hat hop hr
        by_cases h5 : op % 8 = 5
        · have d5 : ((op : Int) % 8 == 5) = true := by rw [beq_iff_eq]; omega
          go_wp2_with fail
          refine (HS.sync _ _ _ _ _ _ _ _ HQ.out.1 HQ.out.2.1.1 (by omega)).mono ?_
          rintro e w6 ⟨e6, d6, x6, rfl, hr6, hL6, hk6⟩
          have hT6 := HQ.out.2.2.2.2.kp hk6
          have hz := HQ.out.2.2.1
          have he := HQ.out.2.2.2.1
          rcases HQ.out.2.1.sync hr6 with ⟨rfl, h2, h3, h4⟩ | ⟨h2, h3, ⟨rfl, h4, h5'⟩ | ⟨rfl, h4, h5'⟩⟩
          · have HR := Lib.hid (And.intro hL6 (And.intro h2 (And.intro (show x6.fz = false by rw [h3]; exact h4) (And.intro (show x6.ep = 1 by rw [h3]; exact he) hT6))))
            obtain rfl : zb = false := hz.symm.trans h4
            clear hr6 hL6 hk6 hT6 HQ h2 h3 h4 hz he hc0 hc1
            go_wp2_with fail
            refine (HS.frozen _ _ _ _ _ _ _ _ HR.out.1).mono ?_
            rintro e w9 ⟨rfl, rfl⟩
            rw [HR.out.2.2.1]
            have HF := Lib.hid (show FrzI LI w bd b (k + 1) a m c false w9 from FrzI.go (w' := w9) HR.out.1 HR.out.2.1 HR.out.2.2.1 HR.out.2.2.2.1 HR.out.2.2.2.2 (by have := HLN.out; omega) (by omega))
            clear HR
            go_wp2
            go_roundw
            case rel => exact ⟨_, _, _, k + 1, false, rfl, rfl, by go_num, by omega, HF⟩
            case measure => simp [intOf]; omega
          · have HR := Lib.hid (And.intro hL6 (And.intro h2 (And.intro (show x6.fz = true by rw [h4]; exact h5') (And.intro (show x6.ep = 1 by rw [h3]; exact he) hT6))))
            obtain rfl : zb = true := hz.symm.trans h5'
            clear hr6 hL6 hk6 hT6 HQ h2 h3 h4 h5' hz he hc0 hc1
            go_wp2_with fail
            refine (HS.frozen _ _ _ _ _ _ _ _ HR.out.1).mono ?_
            rintro e w9 ⟨rfl, rfl⟩
            rw [HR.out.2.2.1]
            have HF := Lib.hid (show FrzI LI w bd b (k + 1) a m c true w9 from FrzI.go (w' := w9) HR.out.1 HR.out.2.1 HR.out.2.2.1 HR.out.2.2.2.1 HR.out.2.2.2.2 (by have := HLN.out; omega) (by omega))
            clear HR
            go_wp2
            go_roundw
            case rel => exact ⟨_, _, _, k + 1, true, rfl, rfl, by go_num, by omega, HF⟩
            case measure => simp [intOf]; omega
          · have HR := Lib.hid (And.intro hL6 (And.intro h2 (And.intro (show x6.fz = true from h5') (And.intro (show x6.ep = 1 by rw [h3]; exact he) hT6))))
            obtain rfl : zb = false := hz.symm.trans h4
            clear hr6 hL6 hk6 hT6 HQ h2 h3 h4 h5' hz he hc0 hc1
            go_wp2_with fail
            refine (HS.frozen _ _ _ _ _ _ _ _ HR.out.1).mono ?_
            rintro e w9 ⟨rfl, rfl⟩
            rw [HR.out.2.2.1]
            have HF := Lib.hid (show FrzI LI w bd b (k + 1) a m c true w9 from FrzI.go (w' := w9) HR.out.1 HR.out.2.1 HR.out.2.2.1 HR.out.2.2.2.1 HR.out.2.2.2.2 (by have := HLN.out; omega) (by omega))
            clear HR
            go_wp2
            go_roundw
            case rel => exact ⟨_, _, _, k + 1, true, rfl, rfl, by go_num, by omega, HF⟩
            case measure => simp [intOf]; omega
        · have d5 : ((op : Int) % 8 == 5) = false := by rw [beq_eq_false_iff_ne]; omega
          go_wp2_with fail
          refine (HS.append _ _ _ _ _ _ _ _ r HQ.out.1 (by unfold maxLen; omega) (by rw [HQ.out.2.1.size]) HQ.out.2.1.1 (fun hz => by rw [HQ.out.2.1.size]; exact HQ.out.2.1.nx hz) (by rw [HQ.out.2.2.2.1]; omega) (by omega)).mono ?_
          rintro e w6 ⟨at6, e6, d6, x6, rfl, hr6, hL6, hk6⟩
          have hT6 := HQ.out.2.2.2.2.kp hk6
          have hz := HQ.out.2.2.1
          have he := HQ.out.2.2.2.1
          have hm1 := HQ.out.2.1.count
          have hm2 : all.length = m := HQ.out.2.2.2.2.1
          rcases HQ.out.2.1.append (by rw [he]; omega) hr6 with ⟨rfl, h2, h3, h4, h5', _⟩ | ⟨h2, h3, ⟨rfl, h4, _⟩ | ⟨rfl, h4, h5'⟩ | ⟨rfl, h4, _, h5', _⟩ | ⟨rfl, h4, h5'⟩⟩
          · obtain rfl : zb = false := hz.symm.trans h3
            have HR0 := Lib.hid (And.intro hL6 (And.intro h2 (And.intro h4 (And.intro (h5'.trans he) hT6))))
            have hm64 : m ≤ 100 := by have := HLN.out; omega
            have c6 := HTX.out _ hL6.below.1
            have HX6 := Lib.hid (At.one (m := 1) (At.new w6 #[.string (tx r)] 9))
            have HB6 := Lib.hid (show w.heap.size ≤ (w6.alloc (.cells #[.string (tx r)] 9)).heap.size by rw [World.size_alloc]; have := hL6.below.1.size; omega)
            clear hr6 hL6 hk6 hT6 HQ h2 h3 h4 h5' hz he hc0 hc1
            go_wp2_with (at_builtin; refine wpList_append_els elt_s rfl _ _ rfl rfl (HR0.out.2.2.2.2.2.below ((Below.refl _ _).alloc (Nat.le_refl _) _)) w6.heap.size 0 1 1 rfl (wid_one (R := #[.string (tx r)]) rfl (one_text _)) HX6.out (by omega) HB6.out ?_; intro a' c' w7 h4 hb4 hg4 hat4; have HM := Lib.hid (txs_more HS HR0.out.1 HR0.out.2.2.2.2 h4 hg4 hat4); clear h4 hb4 hg4 hat4)
            have HR := Lib.hid (And.intro HM.out.1 (And.intro HR0.out.2.1 (And.intro HR0.out.2.2.1 (And.intro HR0.out.2.2.2.1 HM.out.2))))
            clear HM HR0 HX6 HB6 c6 hm1
            refine (HS.frozen _ _ _ _ _ _ _ _ HR.out.1).mono ?_
            rintro e w9 ⟨rfl, rfl⟩
            rw [HR.out.2.2.1]
            have HF := Lib.hid (show FrzI LI w bd b (k + 1) a' (m + 1) c' false w9 from FrzI.go (w' := w9) HR.out.1 HR.out.2.1 HR.out.2.2.1 HR.out.2.2.2.1 HR.out.2.2.2.2 (by rw [List.length_append]; show all.length + 1 ≤ k + 1; have := HLN.out; omega) (by omega))
            clear HR
            go_wp2
            go_roundw
            case rel => exact ⟨_, _, _, k + 1, false, rfl, rfl, by go_num, by omega, HF⟩
            case measure => simp [intOf]; omega

          · have HR := Lib.hid (And.intro hL6 (And.intro h2 (And.intro (show x6.fz = zb by rw [h4]; exact hz) (And.intro (show x6.ep = 1 by rw [h3]; exact he) hT6))))
            clear hr6 hL6 hk6 hT6 HQ h2 h3 h4 hz he hc0 hc1 hm1 hm2
            cases zb
            · go_wp2_with fail
              refine (HS.frozen _ _ _ _ _ _ _ _ HR.out.1).mono ?_
              rintro e w9 ⟨rfl, rfl⟩
              rw [HR.out.2.2.1]
              have HF := Lib.hid (show FrzI LI w bd b (k + 1) a m c false w9 from FrzI.go (w' := w9) HR.out.1 HR.out.2.1 HR.out.2.2.1 HR.out.2.2.2.1 HR.out.2.2.2.2 (by have := HLN.out; omega) (by omega))
              clear HR
              go_wp2
              go_roundw
              case rel => exact ⟨_, _, _, k + 1, false, rfl, rfl, by go_num, by omega, HF⟩
              case measure => simp [intOf]; omega
            · go_wp2_with fail
              refine (HS.frozen _ _ _ _ _ _ _ _ HR.out.1).mono ?_
              rintro e w9 ⟨rfl, rfl⟩
              rw [HR.out.2.2.1]
              have HF := Lib.hid (show FrzI LI w bd b (k + 1) a m c true w9 from FrzI.go (w' := w9) HR.out.1 HR.out.2.1 HR.out.2.2.1 HR.out.2.2.2.1 HR.out.2.2.2.2 (by have := HLN.out; omega) (by omega))
              clear HR
              go_wp2
              go_roundw
              case rel => exact ⟨_, _, _, k + 1, true, rfl, rfl, by go_num, by omega, HF⟩
              case measure => simp [intOf]; omega
          · have HR := Lib.hid (And.intro hL6 (And.intro h2 (And.intro (show x6.fz = true by rw [h4]; exact h5') (And.intro (show x6.ep = 1 by rw [h3]; exact he) hT6))))
            obtain rfl : zb = true := hz.symm.trans h5'
            clear hr6 hL6 hk6 hT6 HQ h2 h3 h4 h5' hz he hc0 hc1 hm1 hm2
            go_wp2_with fail
            refine (HS.frozen _ _ _ _ _ _ _ _ HR.out.1).mono ?_
            rintro e w9 ⟨rfl, rfl⟩
            rw [HR.out.2.2.1]
            have HF := Lib.hid (show FrzI LI w bd b (k + 1) a m c true w9 from FrzI.go (w' := w9) HR.out.1 HR.out.2.1 HR.out.2.2.1 HR.out.2.2.2.1 HR.out.2.2.2.2 (by have := HLN.out; omega) (by omega))
            clear HR
            go_wp2
            go_roundw
            case rel => exact ⟨_, _, _, k + 1, true, rfl, rfl, by go_num, by omega, HF⟩
            case measure => simp [intOf]; omega
          · have HR := Lib.hid (And.intro hL6 (And.intro h2 (And.intro (show x6.fz = false by rw [h4]; exact h5') (And.intro (show x6.ep = 1 by rw [h3]; exact he) hT6))))
            obtain rfl : zb = false := hz.symm.trans h5'
            clear hr6 hL6 hk6 hT6 HQ h2 h3 h4 h5' hz he hc0 hc1 hm1 hm2
            go_wp2_with fail
            refine (HS.frozen _ _ _ _ _ _ _ _ HR.out.1).mono ?_
            rintro e w9 ⟨rfl, rfl⟩
            rw [HR.out.2.2.1]
            have HF := Lib.hid (show FrzI LI w bd b (k + 1) a m c false w9 from FrzI.go (w' := w9) HR.out.1 HR.out.2.1 HR.out.2.2.1 HR.out.2.2.2.1 HR.out.2.2.2.2 (by have := HLN.out; omega) (by omega))
            clear HR
            go_wp2
            go_roundw
            case rel => exact ⟨_, _, _, k + 1, false, rfl, rfl, by go_num, by omega, HF⟩
            case measure => simp [intOf]; omega
          · have HR := Lib.hid (And.intro hL6 (And.intro h2 (And.intro (show x6.fz = true from h5') (And.intro (show x6.ep = 1 by rw [h3]; exact he) hT6))))
            obtain rfl : zb = false := hz.symm.trans h4
            clear hr6 hL6 hk6 hT6 HQ h2 h3 h4 h5' hz he hc0 hc1 hm1 hm2
            go_wp2_with fail
            refine (HS.frozen _ _ _ _ _ _ _ _ HR.out.1).mono ?_
            rintro e w9 ⟨rfl, rfl⟩
            rw [HR.out.2.2.1]
            have HF := Lib.hid (show FrzI LI w bd b (k + 1) a m c true w9 from FrzI.go (w' := w9) HR.out.1 HR.out.2.1 HR.out.2.2.1 HR.out.2.2.2.1 HR.out.2.2.2.2 (by have := HLN.out; omega) (by omega))
            clear HR
            go_wp2
            go_roundw
            case rel => exact ⟨_, _, _, k + 1, true, rfl, rfl, by go_num, by omega, HF⟩
            case measure => simp [intOf]; omega
      · obtain rfl : k = n := by omega
        have k1 : decide ((k : Int) < (k : Int)) = false := decide_eq_false (by omega)
        go_wp2_with fail
        refine (scan_lg HC HS HQ.out.1 (by rw [HQ.out.2.1.size]; omega) (by rw [HQ.out.2.1.size]) HQ.out.2.1.1 (by rw [HQ.out.2.1.size]; omega)).mono ?_
        rintro e w8 ⟨a8, n8, c8, R8, d8, rfl, hl8, hL8, hk8, hR8⟩
        rw [HQ.out.2.1.size] at hR8
        have hn8 : n8 = m := by rw [← hR8.1, HQ.out.2.1.count]; exact HQ.out.2.2.2.2.1
        subst hn8
        have HT8 := Lib.hid (HQ.out.2.2.2.2.kp hk8)
        have HR8 := Lib.hid hR8
        have HB8 := Lib.hid hL8.below.1
        have HPR := Lib.hid (show ∃ y, all = (recs (rdS d) 64).map (·.2) ++ y from ⟨[], by rw [List.append_nil]; exact HQ.out.2.1.scan.symm⟩)
        clear hL8 hk8 hR8 hl8 HQ
        go_wp2_with fail
        refine (begins_as HR8.out.1 HR8.out.2.1 HT8.out HPR.out).mono ?_
        rintro e w9 ⟨rfl, hb9⟩
        have HB9 := Lib.hid (below_trans HB8.out hb9 HB8.out.size)
        clear hb9
        go_wp2
        go_ret
        exact ⟨rfl, HB9.out⟩
end Go.Proofs.Ytbbeekpndhfpjaa.Sg
end
