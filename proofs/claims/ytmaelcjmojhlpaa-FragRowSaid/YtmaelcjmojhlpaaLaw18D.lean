/- The statement FragRow, on what is asked of Cut, Take, Begun alone. -/
import Derived.Test.YtmaelcjmojhlpaaFgJ2
import Derived.Test.YtmaelcjmojhlpaaSlT
set_option maxRecDepth 100000
set_option linter.unusedVariables false
set_option linter.unusedSimpArgs false
namespace Go.Proofs.Ytmaelcjmojhlpaa.Fg
open Go.RowKit Go.Proofs.Ytmaelcjmojhlpaa.Row Go.Proofs.Ytmaelcjmojhlpaa.Pa

theorem elt_s : ElT 45 9 1 16 #[.string ByteArray.empty] :=
  ⟨Try.underlying45, ⟨_, _, rfl, rfl, by kernel_rfl, by kernel_rfl, by kernel_rfl⟩, rfl, by omega, by omega⟩
section
variable {JI : World → Nat → (Nat → Prop) → Jn → Prop} {Z : Array Value} {w w1 w2 : World} {b : Nat} {j : Jn} {G G' : Nat → Prop}
theorem JkI.less (h : JkI JI w G b j w1) (hG : ∀ q, G' q → G q) : JkI JI w G' b j w1 := by
  obtain ⟨h1, T, h3, h4, h5⟩ := h
  exact ⟨h1, T, h3, fun q hq => h4 q (hG q hq), h5⟩
theorem JkI.more (HJ : Joins JI Z) (h : JkI JI w G b j w1) (hb : Below w1.heap.size w1 w2) (hG : ∀ q, G' q → w1.heap.size ≤ q ∧ q < w2.heap.size) : JkI JI w G' b j w2 := by
  obtain ⟨h1, T, h3, h4, h5⟩ := h
  refine ⟨below_trans h1 hb h1.size, T, HJ.fr _ _ _ _ (fun _ => False) _ h3 (.of_below hb) (fun _ _ h => h), fun q hq => ⟨(hG q hq).2, fun h => ?_⟩, h5⟩
  have := (HJ.own _ _ _ _ h3).2 q h
  have := (hG q hq).1
  omega
end
/-- A slice of pieces beside a joiner. -/
def RwI (JI : World → Nat → (Nat → Prop) → Jn → Prop) (w : World) (e : Nat) (r : List UInt8) (g N c b : Nat) (j : Jn) (w' : World) : Prop :=
  JkI JI w (fun q => q = g) b j w' ∧ Els w' w.heap.size 36 6 (some ⟨g, 0, none⟩) N c (pcs e r)
theorem take_rw {JI : World → Nat → (Nat → Prop) → Jn → Prop} {Z : Array Value} (HJ : Joins JI Z) {w w1 : World} {e g N c b : Nat} {r : List UInt8} {j : Jn} (h : RwI JI w e r g N c b j w1) (p : Pv) (ho : p.Ok) (hd : p.d.length ≤ maxLen) (hk : (Lit.int .i64 p.k).wf = true) :
    Calls Try.prog 11 #[.pointer (some ⟨b, 0, none⟩), .agg (pgV p)] w1 fun en w' => en = .returned (.tuple #[.string (tx (told j p)), .bool (ended j p), .int .i64 (terr j p : Nat)]) ∧ RwI JI w e r g N c b (jt j p) w' := by
  refine (take_jk HJ h.1 p ho hd hk).mono fun en w' ⟨e1, h1, h2⟩ => ⟨e1, h1, h.2.keep fun q hq => ?_⟩
  obtain rfl : g = q := by injection hq
  exact h2 _ rfl

set_option maxHeartbeats 4000000 in
theorem row_big {JI : World → Nat → (Nat → Prop) → Jn → Prop} {Z : Array Value} (HJ : Joins JI Z) (HC : CutYes) (HG : PagesAs) (e : Nat) (a : Option Addr) (n c : Nat) (S : Nat → ByteArray) (w : World) (he : e < 4294967296) (hS : SlT w a n c S) (hbig : 10 < n) :
    Calls Try.prog 6 #[.int .u32 e, .slice a n c] w fun en w' => en = .returned (.bool true) ∧ Below w.heap.size w w' := by
  have HAW := Lib.hid (fun w => awake_as HC HG w)
  have hn9 := Nat.le_trans hS.1 hS.2.1
  unfold maxLen at hn9
  clear hS
  go_enter Try.func6, Try.ntmps6
  go_wp2_with fail
  refine (HAW.out _).mono ?_
  rintro en w1 ⟨rfl, hb⟩
  have HB1 := Lib.hid hb
  clear hb
  go_wp2_with fail
  refine (HAW.out _).mono ?_
  rintro en w2 ⟨rfl, hb⟩
  have HB2 := Lib.hid (below_trans HB1.out hb HB1.out.size)
  clear hb
  go_wp2_with fail
  go_ret
  exact ⟨rfl, HB2.out⟩

set_option maxHeartbeats 8000000 in
theorem row_yes {JI : World → Nat → (Nat → Prop) → Jn → Prop} {Z : Array Value} (HJ : Joins JI Z) (HC : CutYes) (HG : PagesAs) (e : Nat) (a : Option Addr) (n c : Nat) (S : Nat → ByteArray) (w : World) (he : e < 4294967296) (hS : SlT w a n c S) (hbig : n ≤ 10) :
    Calls Try.prog 6 #[.int .u32 e, .slice a n c] w fun en w' => en = .returned (.bool true) ∧ Below w.heap.size w w' := by
  have HAW := Lib.hid (fun w => awake_as HC HG w)
  have HSL := Lib.hid hS
  clear hS
  go_enter Try.func6, Try.ntmps6
  go_wp2_with fail
  refine (HAW.out _).mono ?_
  rintro en w1 ⟨rfl, hb⟩
  have HB1 := Lib.hid hb
  clear hb
  have hbz := HJ.bz
  have HP0 := Lib.hid (show JkI JI w (fun _ => False) w1.heap.size none (w1.alloc (.cells Z 32)) from JkI.new HJ HB1.out fun q h => h.elim)
  go_wp2_with (first
    | (refine wpList_build_parts (by rfl) 32 [] rfl _ rfl hbz ?_)
    | fail)
  revert HP0
  generalize World.alloc _ _ = w2
  generalize w1.heap.size = b
  intro HP0
  clear HB1
  go_loopw [6] (fun i w' => ∃ k : Nat, i = .int .i64 k ∧ k ≤ n ∧ Hid (JkI JI w (fun _ => False) b none w')) (fun i _ => 20 - (intOf i).toNat)
  case atStart => exact ⟨0, rfl, Nat.zero_le _, HP0⟩
  case round =>
    obtain ⟨i, rfl, hi, HO⟩ := hrel
    clear HP0
    by_cases hin : i < n
    · obtain ⟨bs, os, rfl, hcs⟩ := HSL.out.2.2.2 (by omega)
      have hsz := HSL.out.2.2.1 i hin
      obtain ⟨X, hX⟩ : ∃ X, S i = X := ⟨_, rfl⟩
      rw [hX] at hsz
      have hcell := hcs i hin
      rw [hX] at hcell
      have hlt1 := block_lt_of_cell hcell
      have cX : wr.cell? ⟨bs, os + i, none⟩ = some (.string X) := (Below.cell HO.out.1 hlt1).trans hcell
      have HCW := Lib.hid hcell
      have hixs : ∀ w, Sem.run Try.prog (Instr.indexAt 45 (.slice (some ⟨bs, os, none⟩) n c) (.int .i64 (i : Int))) w = .ok (.pointer (some ⟨bs, os + i, none⟩)) w := fun w => by
        have := run_ex (n := n) (c := c) (g := bs) (o := os) (k := i) elt_s hin w
        rwa [Nat.mul_one] at this
      have hi1 : (i : Int) < 20 := by omega
      clear hcell hcs hX
      unfold maxLen at hsz
      by_cases x1 : X.size < 1
      · go_wp2_with fail
        go_roundw
        case rel => exact ⟨i + 1, by go_num, by omega, HO⟩
        case measure => simp [intOf]; omega
      by_cases x2 : 4096 < X.size
      · go_wp2_with fail
        go_roundw
        case rel => exact ⟨i + 1, by go_num, by omega, HO⟩
        case measure => simp [intOf]; omega
      obtain ⟨r, hr⟩ : ∃ r, X.data.toList = r := ⟨_, rfl⟩
      have hrx : tx r = X := by rw [← hr]; rfl
      have hrl : r.length = X.size := by rw [← hrx, tx_size]
      have HRX := Lib.hid hrx
      have hr4 : r.length ≤ 4096 := by omega
      have HCY := Lib.hid (HC e r wr he (by omega) hr4)
      rw [hrx] at HCY
      have HNP := Lib.hid (show 1 ≤ np r.length from np_pos (by omega))
      have HRL := Lib.hid hrl
      clear hr hrx hrl
      go_wp2_with fail
      refine HCY.out.mono ?_
      rintro en w3 ⟨a1, c1, rfl, he1, hb⟩
      obtain ⟨N, hN⟩ : ∃ N, np r.length = N := ⟨_, rfl⟩
      rw [hN] at he1 HNP ⊢
      have HNN := Lib.hid hN
      have hN1 : 0 < N := by have := HNP.out; omega
      have hN84 : N ≤ 84 := by rw [← hN]; exact np_le hr4
      obtain ⟨g, rfl, hg1, hg2⟩ := he1.addr hN1
      have HQ0 := Lib.hid (show RwI JI w e r g N c1 b none w3 from ⟨JkI.more HJ HO.out hb (fun q hq => by subst hq; exact ⟨hg1, hg2⟩), he1.wide HO.out.1.size⟩)
      clear hN he1 hb hg1 hg2 HCY cX
      go_wp2_with fail
      go_loopw [9, 10, 11] (fun s m i w' => ∃ (k : Nat) (q : ByteArray) (t : Int), s = .string q ∧ m = .int .i64 t ∧ i = .int .i64 k ∧ k ≤ N ∧ (k = N → q = X ∧ t = 1) ∧ (k < N → q = ⟨#[]⟩ ∧ t = 0) ∧ Hid (RwI JI w e r g N c1 b (jn e r k) w')) (fun _ _ i _ => 200 - (intOf i).toNat)
      case atStart => exact ⟨0, _, _, rfl, rfl, rfl, Nat.zero_le _, fun h => absurd h (by omega), fun _ => ⟨rfl, rfl⟩, HQ0⟩
      case round =>
        obtain ⟨k, q, t, rfl, rfl, rfl, hk, hq1, hq2, HP⟩ := hrel
        clear HQ0
        by_cases hlt : k < N
        · have hk1 : (k : Int) < 200 := by omega
          have hix := fun w => run_ex (n := N) (c := c1) (g := g) (o := 0) (k := k) elt_p hlt w
          rw [Nat.zero_add] at hix
          have hkn : k < np r.length := by rw [HNN.out]; exact hlt
          have hpl := Nat.le_trans (pc_len (e := e) hkn).2 (show 49 ≤ maxLen by decide)
          have htk := take_rw HJ HP.out (pc e r k) (pc_ok he) hpl wf_2
          rw [terr_pc hr4 hkn, ended_pc hr4 hkn, jn_next hr4 hkn, HNN.out] at htk
          obtain ⟨rfl, rfl⟩ := hq2 hlt
          obtain ⟨Y, hY⟩ : ∃ Y, tx (pc e r k).d = Y := ⟨_, rfl⟩
          have HY5 := Lib.hid (show (pcs e r k)[5]? = some (.string Y) by rw [← hY]; rfl)
          have hYs : Y.size = (pc e r k).d.length := by rw [← hY, tx_size]
          by_cases hD : k + 1 = N
          · rw [told_end (e := e) hr4 hkn (by rw [HNN.out]; exact hD), decide_eq_true hD, HRX.out] at htk
            have HTK := Lib.hid htk
            have HD := Lib.hid hD
            have hkN : ¬ (k : Int) < (N : Int) - 1 := by omega
            generalize (pc e r k).d.length = L at *
            clear htk hD hpl hY hkn
            by_cases hL : ((L : Int) != 49) = true
            · have hrg := HP.out.2.range hlt
              go_wp2_with (first
                | (refine wpList_load_range (by rfl) 36 _ rfl g (k * 6) rfl hrg Try.underlying36 rfl (info_pg rfl) ?_)
                | fail)
              refine HTK.out.mono ?_
              rintro en w5 ⟨rfl, h5⟩
              have H5 := Lib.hid h5
              have c5 : w5.cell? ⟨g, k * 6 + 5, none⟩ = some (.string Y) := Els.fld h5.2 hlt (HY5.out) rfl
              clear h5 hrg HTK
              go_wp2_with fail
              go_roundw
              case rel => exact ⟨k + 1, _, _, rfl, rfl, by go_num, by omega, fun _ => ⟨rfl, rfl⟩, fun h => absurd HD.out (by omega), H5⟩
              case measure => simp [intOf]; omega
            · have hL' : ((L : Int) != 49) = false := by simpa using hL
              clear hL
              have hrg := HP.out.2.range hlt
              go_wp2_with (first
                | (refine wpList_load_range (by rfl) 36 _ rfl g (k * 6) rfl hrg Try.underlying36 rfl (info_pg rfl) ?_)
                | fail)
              refine HTK.out.mono ?_
              rintro en w5 ⟨rfl, h5⟩
              have H5 := Lib.hid h5
              have c5 : w5.cell? ⟨g, k * 6 + 5, none⟩ = some (.string Y) := Els.fld h5.2 hlt (HY5.out) rfl
              clear h5 hrg HTK
              go_wp2_with fail
              go_roundw
              case rel => exact ⟨k + 1, _, _, rfl, rfl, by go_num, by omega, fun _ => ⟨rfl, rfl⟩, fun h => absurd HD.out (by omega), H5⟩
              case measure => simp [intOf]; omega
          · rw [told_mid (e := e) hr4 hkn (by rw [HNN.out]; exact hD), decide_eq_false hD] at htk
            have HTK := Lib.hid htk
            have HD := Lib.hid hD
            have h49 : (pc e r k).d.length = 49 := pc_len_full (by rw [HNN.out]; omega)
            rw [h49] at hYs
            clear htk hD hpl hY h49 hkn
            have hrg := HP.out.2.range hlt
            go_wp2_with (first
              | (refine wpList_load_range (by rfl) 36 _ rfl g (k * 6) rfl hrg Try.underlying36 rfl (info_pg rfl) ?_)
              | fail)
            refine HTK.out.mono ?_
            rintro en w5 ⟨rfl, h5⟩
            have H5 := Lib.hid h5
            have c5 : w5.cell? ⟨g, k * 6 + 5, none⟩ = some (.string Y) := Els.fld h5.2 hlt (HY5.out) rfl
            clear h5 hrg HTK
            go_wp2_with fail
            go_roundw
            case rel => exact ⟨k + 1, _, _, rfl, rfl, by go_num, by omega, fun h => absurd h HD.out, fun _ => ⟨rfl, rfl⟩, H5⟩
            case measure => simp [intOf]; omega
        · obtain rfl : k = N := by omega
          obtain ⟨rfl, rfl⟩ := hq1 rfl
          rw [← HNN.out, jn_end, HNN.out] at HP
          have HBG := Lib.hid (begun_jk HJ HP.out.1)
          have cX2 := Lib.hid ((Below.cell HP.out.1.1 (block_lt_of_cell HCW.out)).trans HCW.out)
          have cX := cX2.out
          clear cX2
          go_wp2_with fail
          refine HBG.out.mono ?_
          rintro en w6 ⟨rfl, h6⟩
          have H6 := Lib.hid (show JkI JI w (fun _ => False) b none w6 from JkI.less h6 (fun q h => h.elim))
          clear h6
          go_wp2_with fail
          go_roundw
          case rel => exact ⟨i + 1, by go_num, by omega, H6⟩
          case measure => simp [intOf]; omega
    · obtain rfl : i = n := by omega
      have HB := Lib.hid HO.out.1
      go_wp2_with fail
      go_ret
      exact ⟨rfl, HB.out⟩

theorem row_all {JI : World → Nat → (Nat → Prop) → Jn → Prop} {Z : Array Value} (HJ : Joins JI Z) (HC : CutYes) (HG : PagesAs) (e : Nat) (a : Option Addr) (n c : Nat) (S : Nat → ByteArray) (w : World) (he : e < 4294967296) (hS : SlT w a n c S) :
    Calls Try.prog 6 #[.int .u32 e, .slice a n c] w fun en w' => en = .returned (.bool true) ∧ Below w.heap.size w w' := by
  by_cases h : 10 < n
  · exact row_big HJ HC HG e a n c S w he hS h
  · exact row_yes HJ HC HG e a n c S w he hS (by omega)
end Go.Proofs.Ytmaelcjmojhlpaa.Fg
