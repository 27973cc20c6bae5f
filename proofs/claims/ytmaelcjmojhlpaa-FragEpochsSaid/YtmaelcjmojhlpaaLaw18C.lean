/- The statement FragEpochs, on what is asked of Cut, Take, Begun alone. -/
import Derived.Test.YtmaelcjmojhlpaaFgJ2
set_option maxRecDepth 100000
set_option linter.unusedVariables false
set_option linter.unusedSimpArgs false
namespace Go.Proofs.Ytmaelcjmojhlpaa.Fg
open Go.RowKit Go.Proofs.Ytmaelcjmojhlpaa.Row Go.Proofs.Ytmaelcjmojhlpaa.Pa

/-- Two slices of pieces, and a joiner. -/
def EpI (JI : World → Nat → (Nat → Prop) → Jn → Prop) (w : World) (a e : Nat) (s t : List UInt8) (g1 g2 N M c1 c2 b : Nat) (j : Jn) (w' : World) : Prop :=
  JkI JI w (fun q => q = g1 ∨ q = g2) b j w' ∧ Els w' w.heap.size 36 6 (some ⟨g1, 0, none⟩) N c1 (pcs a s) ∧ Els w' w.heap.size 36 6 (some ⟨g2, 0, none⟩) M c2 (pcs e t)
theorem take_ep {JI : World → Nat → (Nat → Prop) → Jn → Prop} {Z : Array Value} (HJ : Joins JI Z) {w w1 : World} {a e g1 g2 N M c1 c2 b : Nat} {s t : List UInt8} {j : Jn} (h : EpI JI w a e s t g1 g2 N M c1 c2 b j w1) (p : Pv) (ho : p.Ok) (hd : p.d.length ≤ maxLen) (hk : (Lit.int .i64 p.k).wf = true) :
    Calls Try.prog 11 #[.pointer (some ⟨b, 0, none⟩), .agg (pgV p)] w1 fun en w' => en = .returned (.tuple #[.string (tx (told j p)), .bool (ended j p), .int .i64 (terr j p : Nat)]) ∧ EpI JI w a e s t g1 g2 N M c1 c2 b (jt j p) w' :=
  (take_jk HJ h.1 p ho hd hk).mono fun en w' ⟨e1, h1, h2⟩ => ⟨e1, h1, h.2.1.keep fun q hq => by obtain rfl : g1 = q := by injection hq
                                                                                                exact h2 _ (.inl rfl), h.2.2.keep fun q hq => by obtain rfl : g2 = q := by injection hq
                                                                                                                                                 exact h2 _ (.inr rfl)⟩
theorem begun_ep {JI : World → Nat → (Nat → Prop) → Jn → Prop} {Z : Array Value} (HJ : Joins JI Z) {w w1 : World} {a e g1 g2 N M c1 c2 b : Nat} {s t : List UInt8} {j : Jn} (h : EpI JI w a e s t g1 g2 N M c1 c2 b j w1) :
    Calls Try.prog 13 #[.pointer (some ⟨b, 0, none⟩)] w1 fun en w' => en = .returned (.bool j.isSome) ∧ Below w.heap.size w w' :=
  (begun_jk HJ h.1).mono fun en w' ⟨e1, h1⟩ => ⟨e1, h1.1⟩

set_option maxHeartbeats 4000000 in
theorem epochs_big {JI : World → Nat → (Nat → Prop) → Jn → Prop} {Z : Array Value} (HJ : Joins JI Z) (HC : CutYes) (HG : PagesAs) (a e : Nat) (s t : List UInt8) (cu : Nat) (w : World) (ha : a < 4294967296) (he : e < 4294967296) (hs : s.length ≤ maxLen) (ht : t.length ≤ maxLen) (hcu : cu < 256) (hbig : s.length < 50 ∨ t.length < 50 ∨ 4096 < s.length ∨ 4096 < t.length ∨ a = e) :
    Calls Try.prog 4 #[.int .u32 a, .int .u32 e, .string (tx s), .string (tx t), .int .u8 cu] w fun en w' => en = .returned (.bool true) ∧ Below w.heap.size w w' := by
  have HAW := Lib.hid (fun w => awake_as HC HG w)
  obtain ⟨R, hR⟩ : ∃ R, tx s = R := ⟨_, rfl⟩
  obtain ⟨Q, hQ⟩ : ∃ R, tx t = R := ⟨_, rfl⟩
  obtain ⟨n, hn⟩ : ∃ n, s.length = n := ⟨_, rfl⟩
  obtain ⟨m, hm⟩ : ∃ n, t.length = n := ⟨_, rfl⟩
  have hRs : R.size = n := by rw [← hR, tx_size, hn]
  have hQs : Q.size = m := by rw [← hQ, tx_size, hm]
  rw [hR, hQ]
  have HR' := Lib.hid hR
  have HQ' := Lib.hid hQ
  rw [hn, hm] at hbig
  rw [hn] at hs
  rw [hm] at ht
  clear hn hm hR hQ
  unfold maxLen at hs ht
  by_cases x1 : n < 50
  · clear hbig
    go_enter Try.func4, Try.ntmps4
    go_wp2_with fail
    refine (HAW.out _).mono ?_
    rintro en w1 ⟨rfl, hb⟩
    have HB1 := Lib.hid hb
    clear hb
    go_wp2_with fail
    refine (HAW.out _).mono ?_
    rintro en w2 ⟨rfl, hb⟩
    have HB2 := Lib.hid (below_trans HB1.out hb HB1.out.size)
    clear hb
    go_wp2_with fail
    go_ret
    exact ⟨rfl, HB2.out⟩
  by_cases x2 : m < 50
  · clear hbig
    go_enter Try.func4, Try.ntmps4
    go_wp2_with fail
    refine (HAW.out _).mono ?_
    rintro en w1 ⟨rfl, hb⟩
    have HB1 := Lib.hid hb
    clear hb
    go_wp2_with fail
    refine (HAW.out _).mono ?_
    rintro en w2 ⟨rfl, hb⟩
    have HB2 := Lib.hid (below_trans HB1.out hb HB1.out.size)
    clear hb
    go_wp2_with fail
    go_ret
    exact ⟨rfl, HB2.out⟩
  by_cases x3 : 4096 < n
  · clear hbig
    go_enter Try.func4, Try.ntmps4
    go_wp2_with fail
    refine (HAW.out _).mono ?_
    rintro en w1 ⟨rfl, hb⟩
    have HB1 := Lib.hid hb
    clear hb
    go_wp2_with fail
    refine (HAW.out _).mono ?_
    rintro en w2 ⟨rfl, hb⟩
    have HB2 := Lib.hid (below_trans HB1.out hb HB1.out.size)
    clear hb
    go_wp2_with fail
    go_ret
    exact ⟨rfl, HB2.out⟩
  by_cases x4 : 4096 < m
  · clear hbig
    go_enter Try.func4, Try.ntmps4
    go_wp2_with fail
    refine (HAW.out _).mono ?_
    rintro en w1 ⟨rfl, hb⟩
    have HB1 := Lib.hid hb
    clear hb
    go_wp2_with fail
    refine (HAW.out _).mono ?_
    rintro en w2 ⟨rfl, hb⟩
    have HB2 := Lib.hid (below_trans HB1.out hb HB1.out.size)
    clear hb
    go_wp2_with fail
    go_ret
    exact ⟨rfl, HB2.out⟩
  obtain rfl : a = e := by omega
  clear hbig
  go_enter Try.func4, Try.ntmps4
  go_wp2_with fail
  refine (HAW.out _).mono ?_
  rintro en w1 ⟨rfl, hb⟩
  have HB1 := Lib.hid hb
  clear hb
  go_wp2_with fail
  refine (HAW.out _).mono ?_
  rintro en w2 ⟨rfl, hb⟩
  have HB2 := Lib.hid (below_trans HB1.out hb HB1.out.size)
  clear hb
  go_wp2_with fail
  go_ret
  exact ⟨rfl, HB2.out⟩

set_option maxHeartbeats 4000000 in
theorem epochs_yes {JI : World → Nat → (Nat → Prop) → Jn → Prop} {Z : Array Value} (HJ : Joins JI Z) (HC : CutYes) (HG : PagesAs) (a e : Nat) (s t : List UInt8) (cu : Nat) (w : World) (ha : a < 4294967296) (he : e < 4294967296) (hs : s.length ≤ maxLen) (ht : t.length ≤ maxLen) (hcu : cu < 256) (h1 : 50 ≤ s.length) (h2 : s.length ≤ 4096) (h3 : 50 ≤ t.length) (h4 : t.length ≤ 4096) (hae : a ≠ e) :
    Calls Try.prog 4 #[.int .u32 a, .int .u32 e, .string (tx s), .string (tx t), .int .u8 cu] w fun en w' => en = .returned (.bool true) ∧ Below w.heap.size w w' := by
  have HAW := Lib.hid (fun w => awake_as HC HG w)
  obtain ⟨R, hR⟩ : ∃ R, tx s = R := ⟨_, rfl⟩
  obtain ⟨Q, hQ⟩ : ∃ R, tx t = R := ⟨_, rfl⟩
  obtain ⟨n, hn⟩ : ∃ n, s.length = n := ⟨_, rfl⟩
  obtain ⟨m, hm⟩ : ∃ n, t.length = n := ⟨_, rfl⟩
  have hRs : R.size = n := by rw [← hR, tx_size, hn]
  have hQs : Q.size = m := by rw [← hQ, tx_size, hm]
  rw [hR, hQ]
  have HC1 := Lib.hid (fun w => HC a s w ha (by omega) h2)
  have HC2 := Lib.hid (fun w => HC e t w he (by omega) h4)
  rw [hR] at HC1
  rw [hQ] at HC2
  have hs4 := h2
  have ht4 := h4
  have HNN := Lib.hid hn
  have HMM := Lib.hid hm
  rw [hn] at h1 h2
  rw [hm] at h3 h4
  have haei : ((a : Int) == (e : Int)) = false := by rw [beq_eq_false_iff_ne]; omega
  clear hR hQ hn hm hs ht
  go_enter Try.func4, Try.ntmps4
  go_wp2_with fail
  refine (HAW.out _).mono ?_
  rintro en w1 ⟨rfl, hb⟩
  have HB1 := Lib.hid hb
  clear hb
  go_wp2_with fail
  refine (HC1.out _).mono ?_
  rintro en w2 ⟨a1, c1, rfl, he1, hb⟩
  have HB2 := Lib.hid (below_trans HB1.out hb HB1.out.size)
  have HE1 := Lib.hid (he1.wide HB1.out.size)
  clear hb he1
  go_wp2_with fail
  refine (HC2.out _).mono ?_
  rintro en w3 ⟨a2, c2, rfl, he2, hb⟩
  have HB3 := Lib.hid (below_trans HB2.out hb HB2.out.size)
  have HE3 := Lib.hid (HE1.out.below hb)
  have HE2 := Lib.hid (he2.wide HB2.out.size)
  clear hb he2 HE1
  obtain ⟨N, hN⟩ : ∃ N, np s.length = N := ⟨_, rfl⟩
  obtain ⟨M, hM⟩ : ∃ N, np t.length = N := ⟨_, rfl⟩
  have hN2 : 2 ≤ N ∧ N ≤ 84 := by rw [← hN, HNN.out]; unfold np; omega
  have hM2 : 2 ≤ M ∧ M ≤ 84 := by rw [← hM, HMM.out]; unfold np; omega
  have hbad : ∀ k, 0 < k → k < N → (pc e t (M - 1)).k ≠ 1 ∧ refused (jn a s k) (pc e t (M - 1)) = true := fun k h0 h1 => by
    rw [← hM]
    exact epochs_bad h0 (by rw [hN]; exact h1) (by rw [HMM.out]; omega) hae
  rw [hN] at HE3 ⊢
  rw [hM] at HE2 ⊢
  have HNP := Lib.hid hN
  have HMP := Lib.hid hM
  have HBAD := Lib.hid hbad
  clear hN hM hbad
  obtain ⟨g1, rfl, _, hg1⟩ := HE3.out.addr (by omega)
  obtain ⟨g2, rfl, _, hg2⟩ := HE2.out.addr (by omega)
  obtain ⟨K, hK⟩ : ∃ K, 1 + cu % (N - 1) = K := ⟨_, rfl⟩
  have hK1 : 1 ≤ K ∧ K < N := by
    have := Nat.mod_lt cu (show 0 < N - 1 by omega)
    omega
  have hKi : (1 : Int) + (cu : Int) % ((N : Int) - 1) = (K : Int) := by
    rw [← hK]
    have : ((N - 1 : Nat) : Int) = (N : Int) - 1 := by omega
    rw [← this]
    push_cast
    rfl
  have hdiv : ¬ ((N : Int) - 1 = 0) := by omega
  obtain ⟨hK1a, hK1b⟩ := hK1
  clear hK
  have hbz := HJ.bz
  have HP0 := Lib.hid (show EpI JI w a e s t g1 g2 N M c1 c2 w3.heap.size none (w3.alloc (.cells Z 32)) from
    ⟨JkI.new HJ HB3.out fun q hq => by rcases hq with rfl | rfl <;> assumption, HE3.out.below ((Below.refl _ _).alloc (Nat.le_refl _) _), HE2.out.below ((Below.refl _ _).alloc (Nat.le_refl _) _)⟩)
  clear HE3 HE2 HB1 HB2 HB3 hae
  go_wp2_with (first
    | (refine wpList_build_parts (by rfl) 32 [] rfl _ rfl hbz ?_)
    | fail)
  revert HP0
  generalize World.alloc _ _ = w4
  generalize w3.heap.size = b
  intro HP0
  go_loopw [17] (fun i w' => ∃ k : Nat, i = .int .i64 k ∧ k ≤ K ∧ Hid (EpI JI w a e s t g1 g2 N M c1 c2 b (jn a s k) w')) (fun i _ => 200 - (intOf i).toNat)
  case atStart => exact ⟨0, rfl, Nat.zero_le _, HP0⟩
  case round =>
    obtain ⟨k, rfl, hk, HP⟩ := hrel
    clear HP0
    by_cases hlt : k < K
    · have hk1 : (k : Int) < 200 := by omega
      have hkN : k < N := by omega
      have hkn : k < np s.length := by rw [HNP.out]; exact hkN
      have hix := fun w => run_ex (n := N) (c := c1) (g := g1) (o := 0) (k := k) elt_p hkN w
      rw [Nat.zero_add] at hix
      have hpl := Nat.le_trans (pc_len (e := a) hkn).2 (show 49 ≤ maxLen by decide)
      have HTK := Lib.hid (take_ep HJ HP.out (pc a s k) (pc_ok ha) hpl wf_2)
      rw [jn_next hs4 hkn] at HTK
      have hrg := HP.out.2.1.range hkN
      clear hpl hkn
      go_wp2_with (first
        | (refine wpList_load_range (by rfl) 36 _ rfl g1 (k * 6) rfl hrg Try.underlying36 rfl (info_pg rfl) ?_)
        | fail)
      refine HTK.out.mono ?_
      rintro en w5 ⟨rfl, h5⟩
      have H5 := Lib.hid h5
      clear h5 hrg HTK
      go_wp2_with fail
      go_roundw
      case rel => exact ⟨k + 1, by go_num, by omega, H5⟩
      case measure => simp [intOf]; omega
    · obtain rfl : k = K := by omega
      have hMn : M - 1 < np t.length := by rw [HMP.out]; omega
      have hix : ∀ w, Sem.run Try.prog (Instr.indexAt 24 (.slice (some ⟨g2, 0, none⟩) M c2) (.int .i64 ((M : Int) - 1))) w = .ok (.pointer (some ⟨g2, (M - 1) * 6, none⟩)) w := fun w => by
        have := run_ex (n := M) (c := c2) (g := g2) (o := 0) (k := M - 1) elt_p (by omega) w
        rw [Nat.zero_add, show ((M - 1 : Nat) : Int) = (M : Int) - 1 from by omega] at this
        exact this
      have hpl := Nat.le_trans (pc_len (e := e) hMn).2 (show 49 ≤ maxLen by decide)
      obtain ⟨b1, b2⟩ := HBAD.out k hK1a hK1b
      obtain ⟨j1, j2, j3, j4⟩ := jt_bad (pc_right hMn) b1 b2
      have HTK := Lib.hid (take_ep HJ HP.out (pc e t (M - 1)) (pc_ok he) hpl wf_2)
      rw [j1, j2, j3, j4, show tx [] = (⟨#[]⟩ : ByteArray) from rfl] at HTK
      have hrg := HP.out.2.2.range (i := M - 1) (by omega)
      clear hpl hMn b1 b2 j1 j2 j3 j4
      go_wp2_with (first
        | (refine wpList_load_range (by rfl) 36 _ rfl g2 ((M - 1) * 6) rfl hrg Try.underlying36 rfl (info_pg rfl) ?_)
        | fail)
      refine HTK.out.mono ?_
      rintro en w5 ⟨rfl, h5⟩
      have HBG := Lib.hid (begun_ep HJ h5)
      clear h5 hrg HTK
      go_wp2_with fail
      refine HBG.out.mono ?_
      rintro en w6 ⟨rfl, hb⟩
      have HB6 := Lib.hid hb
      clear hb
      go_wp2_with fail
      go_ret
      exact ⟨rfl, HB6.out⟩

theorem epochs_all {JI : World → Nat → (Nat → Prop) → Jn → Prop} {Z : Array Value} (HJ : Joins JI Z) (HC : CutYes) (HG : PagesAs) (a e : Nat) (s t : List UInt8) (cu : Nat) (w : World) (ha : a < 4294967296) (he : e < 4294967296) (hs : s.length ≤ maxLen) (ht : t.length ≤ maxLen) (hcu : cu < 256) :
    Calls Try.prog 4 #[.int .u32 a, .int .u32 e, .string (tx s), .string (tx t), .int .u8 cu] w fun en w' => en = .returned (.bool true) ∧ Below w.heap.size w w' := by
  by_cases h : s.length < 50 ∨ t.length < 50 ∨ 4096 < s.length ∨ 4096 < t.length ∨ a = e
  · exact epochs_big HJ HC HG a e s t cu w ha he hs ht hcu h
  · exact epochs_yes HJ HC HG a e s t cu w ha he hs ht hcu (by omega) (by omega) (by omega) (by omega) (by omega)
end Go.Proofs.Ytmaelcjmojhlpaa.Fg
