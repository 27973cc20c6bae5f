/- Texts of the walk, one behind the other. -/
import Derived.Test.YtfohinlldchdpaaGreatDoorWholeWayM23
import Derived.Test.YtfohinlldchdpaaGreatDoorWholeWayM22
import Derived.Test.YtfohinlldchdpaaGreatDoorWholeWayM36
import Derived.Test.YtfohinlldchdpaaGreatDoorWholeWayM26
import Derived.Test.YtfohinlldchdpaaGreatDoorWholeWayM2

section
/- Contracts of dec's takeVector, takeWaves. -/
set_option maxRecDepth 100000
set_option linter.unusedVariables false
namespace Go.Proofs.YtfohinlldchdpaaGreatDoor.De
open Go.RowKit Go.Proofs.YtfohinlldchdpaaGreatDoor.Row Go.Proofs.YtfohinlldchdpaaGreatDoor.Rg

theorem vector_at (N K I : Nat) (i : Int) (w : World) (hi : (I : Int) = i) (hN : N ≤ 8) (hK : K ≤ 8) (h : I < Ve.V N K) :
    Calls Tryz.prog 185 #[.int .i64 N, .int .i64 K, .int .i64 i] w fun e w' => ∃ f, Ve.sm f N = K ∧ Ve.num f N K = I ∧ Ve.RetVec w w' e N f := by
  subst hi; exact Ve.vector_yes N K I w hN hK h

/-- A vector that was taken, and the decoder then. -/
def RetV (w : World) (b : Nat) (O : Nat → Prop) (s : List UInt8) (d : Dt) (n k I : Nat) (e : Ending) (w' : World) : Prop :=
  ∃ f g U, e = .returned (.slice (some ⟨g, 0, none⟩) n n) ∧ Ve.sm f n = k ∧ Ve.num f n k = I ∧ w.heap.size ≤ g ∧ IsRow n f U ∧ At w' g U 3 ∧ DecIs w' b O s d ∧ Fr O w w'

set_option maxHeartbeats 1000000 in
theorem takeVector_as (n k m x c I b : Nat) (O : Nat → Prop) (s : List UInt8) (d d' : Dt) (w : World) (h : DecIs w b O s d) (hO : ∀ k, O k → k < w.heap.size) (hd : d.ok) (hg : d.g ≤ 80000) (hs : s.length ≤ 1000) (hn : n ≤ 8) (hk : k ≤ 8)
    (hm : Ve.bI n k = m) (h24 : m ≤ 24) (hx : decB (byteF s) 3 m d = (x, d')) (hc : Ve.cI n k = c) (hc1 : 1 ≤ c) (hc2 : c ≤ 6975757441) (hV : Ve.V n k = c) (hI : x % c = I) :
    Calls Tryz.prog 132 #[.int .i64 n, .int .i64 k, .func (.func 87) #[.pointer (some ⟨b, 0, none⟩)] #[]] w fun e w' => RetV w b O s d' n k I e w' := by
  have H := Lib.hid h
  have HO := Lib.hid hO
  have HM := Lib.hid hm
  have HX := Lib.hid hx
  have HC := Lib.hid hc
  have HI := Lib.hid (show (I : Int) = (x : Int) % (c : Int) by rw [← hI]; exact Int.natCast_emod x c)
  have HL := Lib.hid (show I < Ve.V n k by rw [hV, ← hI]; exact Nat.mod_lt _ (by omega))
  have hx1 := decB_lt (f := byteF s) 3 m (d := d) (by omega)
  rw [hx] at hx1
  have hp := Nat.pow_le_pow_right (n := 2) (by omega) h24
  have x0 : x ≤ 16777216 := by dsimp only at hx1; omega
  clear h hO hm hx hc hV hI hx1 hp
  go_enter Tryz.func132, Tryz.ntmps132
  go_wp2_with fail
  refine (Ve.bits_as _ _ m _ HM.out).mono ?_
  rintro e w1 ⟨rfl, h1⟩
  have B1 := Lib.hid h1
  clear h1 HM
  go_wp2_with fail
  refine (decBits_as _ b O s d m x (H.out.below B1.out) hd (by omega) h24 (by omega) (by rw [HX.out])).mono ?_
  rw [HX.out]
  rintro e w2 ⟨rfl, h2, h3⟩
  have HD := Lib.hid h2
  have HF := Lib.hid ((Fr.of_below (T := O) B1.out).same h3)
  clear h2 h3 H HX B1
  go_wp2_with fail
  refine (Ve.count_as _ _ c _ HC.out).mono ?_
  rintro e w3 ⟨rfl, h3⟩
  have HD3 := Lib.hid (HD.out.below h3)
  have HF3 := Lib.hid (HF.out.below_trans h3)
  clear h3 HD HF HC
  have c0 : ¬ (c : Int) = 0 := by omega
  have i0 : 0 ≤ (x : Int) % (c : Int) ∧ (x : Int) % (c : Int) ≤ 6975757441 := by
    have := Int.emod_nonneg (x : Int) c0
    have := Int.emod_lt_of_pos (x : Int) (show (0 : Int) < c by omega)
    omega
  obtain ⟨i1, i2⟩ := i0
  go_wp2_with fail
  refine (vector_at n k I _ _ HI.out hn hk HL.out).mono ?_
  rintro e w4 ⟨f, hf1, hf2, g, U, rfl, hg1, hU, hA, h4⟩
  have HD4 := Lib.hid (HD3.out.below h4)
  have HF4 := Lib.hid (HF3.out.below_trans h4)
  have HF1 := Lib.hid hf1
  have HF2 := Lib.hid hf2
  have HG := Lib.hid (Nat.le_trans HF3.out.size hg1)
  have HU := Lib.hid hU
  have HA := Lib.hid hA
  clear hf1 hf2 hg1 hU hA h4 HD3 HF3
  go_wp2_with fail
  go_ret
  exact ⟨f, g, U, rfl, HF1.out, HF2.out, HG.out, HU.out, HA.out, HD4.out, HF4.out⟩

theorem enter_fill (args : Array Value) (w : World) : (callFunc 135 args).run Tryz.prog w = .ok (.enter 135 args) w := run_enter Tryz.func135 (by kernel_rfl) rfl args w
theorem enter_put (args : Array Value) (w : World) : (callFunc 134 args).run Tryz.prog w = .ok (.enter 134 args) w := run_enter Tryz.func134 (by kernel_rfl) rfl args w

/-- What stands while waves are taken. -/
def TwS (w : World) (b : Nat) (O : Nat → Prop) (s : List UInt8) (d : Dt) (TL TK Z R : Array Value) (w' : World) : Prop :=
  Fr O w w' ∧ DecIs w' b O s d ∧ At w' w.heap.size TL 23 ∧ At w' (w.heap.size + 1) TK 23 ∧ At w' (w.heap.size + 2) Z 32 ∧ At w' (w.heap.size + 3) R 32 ∧ (∀ k, O k → k < w.heap.size) ∧ Lv.Tab w'
theorem Tab.fr {O : Nat → Prop} {w w' : World} (h : Lv.Tab w) (hF : Fr O w w') (hO : ¬ O 0) : Lv.Tab w' :=
  ⟨hF.cell h.1 hO, hF.cell h.2.1 hO, hF.cell h.2.2.1 hO, hF.cell h.2.2.2.1 hO, hF.cell h.2.2.2.2 hO⟩
theorem TwS.start {w : World} {b : Nat} {O : Nat → Prop} {s : List UInt8} {d : Dt} (TL TK Z R : Array Value) (h : DecIs w b O s d) (hO : ∀ k, O k → k < w.heap.size) (hT : Lv.Tab w) :
    TwS w b O s d TL TK Z R ((((w.alloc (.cells TL 23)).alloc (.cells TK 23)).alloc (.cells Z 32)).alloc (.cells R 32)) := by
  have a1 := At.new (w.alloc (.cells TL 23)) TK 23
  have a2 := At.new ((w.alloc (.cells TL 23)).alloc (.cells TK 23)) Z 32
  have a3 := At.new (((w.alloc (.cells TL 23)).alloc (.cells TK 23)).alloc (.cells Z 32)) R 32
  simp only [World.size_alloc] at a1 a2 a3
  have hf : Fr (fun _ => False) w ((((w.alloc (.cells TL 23)).alloc (.cells TK 23)).alloc (.cells Z 32)).alloc (.cells R 32)) := ((((Fr.refl _ _).alloc _).alloc _).alloc _).alloc _
  exact ⟨hf.mono fun _ _ h => h.elim, h.fr hf fun _ _ h => h, (((At.new w TL 23).alloc _).alloc _).alloc _, (a1.alloc _).alloc _, a2.alloc _, a3, hO, hT.next hf.none⟩
theorem TwS.took {w w1 w2 : World} {b : Nat} {O : Nat → Prop} {s : List UInt8} {d d' : Dt} {TL TK Z R : Array Value} (h : TwS w b O s d TL TK Z R w1) (hD : DecIs w2 b O s d') (hF : Fr O w1 w2) (hO : ¬ O 0) : TwS w b O s d' TL TK Z R w2 := by
  obtain ⟨h1, h2, h3, h4, h5, h6, h7, h8⟩ := h
  exact ⟨h1.same hF, hD, h3.fr hF fun c => by have := h7 _ c; omega, h4.fr hF fun c => by have := h7 _ c; omega, h5.fr hF fun c => by have := h7 _ c; omega, h6.fr hF fun c => by have := h7 _ c; omega, h7, Tab.fr h8 hF hO⟩
theorem TwS.below {w w1 w2 : World} {b : Nat} {O : Nat → Prop} {s : List UInt8} {d : Dt} {TL TK Z R : Array Value} (h : TwS w b O s d TL TK Z R w1) (hB : Below w1.heap.size w1 w2) : TwS w b O s d TL TK Z R w2 := by
  obtain ⟨h1, h2, h3, h4, h5, h6, h7, h8⟩ := h
  exact ⟨h1.below_trans hB, h2.below hB, h3.below hB h3.lt, h4.below hB h4.lt, h5.below hB h5.lt, h6.below hB h6.lt, h7, h8.next hB⟩
theorem DecIs.row {w : World} {b g : Nat} {O : Nat → Prop} {s : List UInt8} {d : Dt} (h : DecIs w b O s d) (hg : ¬ O g) (C : Array Value) : DecIs (w.setRow g C) b O s d :=
  h.fr (U := Just g) ((Fr.refl _ _).setRow (.inl (Just.self _)) _) fun k hk e => by rw [just_iff] at e; exact hg (e ▸ hk)
theorem Tab.row {w : World} {g : Nat} (h : Lv.Tab w) (hg : 0 ≠ g) (C : Array Value) : Lv.Tab (w.setRow g C) :=
  Tab.fr h (O := Just g) ((Fr.refl _ _).setRow (.inl (Just.self _)) _) fun e => hg e
theorem TwS.set {w w1 : World} {b : Nat} {O : Nat → Prop} {s : List UInt8} {d : Dt} {TL TK Z R : Array Value} (h : TwS w b O s d TL TK Z R w1) (hT : 0 < w.heap.size) (C : Array Value) : TwS w b O s d TL TK Z C (w1.setRow (w.heap.size + 3) C) := by
  obtain ⟨h1, h2, h3, h4, h5, h6, h7, h8⟩ := h
  exact ⟨h1.setRow (.inr (by omega)) _, DecIs.row h2 (fun c => by have := h7 _ c; omega) _, h3.setRow_other (by omega), h4.setRow_other (by omega), h5.setRow_other (by omega), h6.setRow, h7, Tab.row h8 (by omega) _⟩
theorem TwS.out {w w1 : World} {b : Nat} {O : Nat → Prop} {s : List UInt8} {d : Dt} {TL TK Z R : Array Value} (h : TwS w b O s d TL TK Z R w1) (C : Array Value) :
    Fr O w (w1.setRow (w.heap.size + 2) C) ∧ DecIs (w1.setRow (w.heap.size + 2) C) b O s d ∧ At (w1.setRow (w.heap.size + 2) C) (w.heap.size + 2) C 32 := by
  obtain ⟨h1, h2, h3, h4, h5, h6, h7, h8⟩ := h
  exact ⟨h1.setRow (.inr (by omega)) _, DecIs.row h2 (fun c => by have := h7 _ c; omega) _, h5.setRow⟩
end Go.Proofs.YtfohinlldchdpaaGreatDoor.De
end

section
/- Contract of dec's takeWaves. -/
set_option maxRecDepth 100000
set_option linter.unusedVariables false
namespace Go.Proofs.YtfohinlldchdpaaGreatDoor.De
open Go.RowKit Go.Proofs.YtfohinlldchdpaaGreatDoor.Row Go.Proofs.YtfohinlldchdpaaGreatDoor.Rg

theorem wW_none {f : Nat → Nat} {l : Nat → Int} {k : Nat → Nat} {d : Dt} {q : Nat} (h : k q = 0) : wW f l k d (q + 1) = wW f l k d q ∧ dW f k d (q + 1) = dW f k d q := by
  constructor
  · rw [wW, if_pos h]
  · rw [dW, if_pos h]
theorem wW_some {f : Nat → Nat} {l : Nat → Int} {k : Nat → Nat} {d : Dt} {q : Nat} (h : k q ≠ 0) : wW f l k d (q + 1) = over (wW f l k d q) (Lv.fl (l q) (yW f k d q) (Sp.sB q)) (Lv.fs q) (Sp.sB q) ∧ dW f k d (q + 1) = (decB f 3 (Sp.P q (k q)) (dW f k d q)).2 := by
  constructor
  · rw [wW, if_neg h]
  · rw [dW, if_neg h]

set_option maxHeartbeats 2000000 in
theorem takeWaves_as (TL TK : Array Value) (l : Nat → Int) (k : Nat → Nat) (b : Nat) (O : Nat → Prop) (s : List UInt8) (d : Dt) (w : World) (hL : IsRow 4 l TL) (hK : IsRow 4 (fun i => (k i : Int)) TK) (hk : ∀ i, k i ≤ 8)
    (h : DecIs w b O s d) (hO : ∀ k, O k → k < w.heap.size) (hTO : ¬ O 0) (hd : d.ok) (hg : d.g ≤ 1000) (hs : s.length ≤ 1000) (hT : Lv.Tab w) :
    Calls Tryz.prog 86 #[.agg TL, .agg TK, .func (.func 87) #[.pointer (some ⟨b, 0, none⟩)] #[]] w fun e w' =>
      (∃ R, e = .returned (.agg R) ∧ IsRow 16 (wW (byteF s) l k d 4) R) ∧ DecIs w' b O s (dW (byteF s) k d 4) ∧ Fr O w w' := by
  obtain ⟨Z, hZ, hZ0, hz, hi⟩ := Lv.zero_block
  obtain ⟨_, _, _, _, hi4⟩ := Sp.zero4
  have HS := Lib.hid (TwS.start TL TK Z Z h hO hT)
  have HZ := Lib.hid (show IsRow 16 (wW (byteF s) l k d 0) Z from hZ)
  have HZS := Lib.hid hZ.1
  have HI := Lib.hid hi
  have HIK := Lib.hid (hi4 TK hK.1)
  have HL := Lib.hid hL
  have HK := Lib.hid hK
  have HK8 := Lib.hid hk
  have HO := Lib.hid hO
  have HTO := Lib.hid hTO
  have HTL := Lib.hid hT.lt
  clear hZ hZ0 hi hi4 hL hK hk hO hTO hT h
  go_enter Tryz.func86, Tryz.ntmps86
  go_wp2_with (first
    | refine wpList_load_row rfl 23 _ rfl (w.heap.size + 1) rfl _ _ (0, 0) _ HS.out.2.2.2.1 Tryz.underlying23 rfl HIK.out ?_)
  go_loopw [12] (fun i w' => ∃ (q : Nat) (R : Array Value), q ≤ 4 ∧ i = .int .i64 q ∧ Hid (IsRow 16 (wW (byteF s) l k d q) R) ∧ TwS w b O s (dW (byteF s) k d q) TL TK Z R w') (fun i _ => 4 - (intOf i).toNat)
  case atStart => exact ⟨0, Z, by omega, rfl, HZ, HS.out⟩
  case round =>
    obtain ⟨q, R, hq, rfl, HR, hS⟩ := hrel
    clear HS HZ
    have HS := Lib.hid hS
    clear hS
    by_cases hlt : q < 4
    · have q1 : (q : Int) < 4 := by omega
      have q0 : (0 : Int) ≤ q := by omega
      have c0 := HK.out.2.2 q hlt
      by_cases h0 : k q = 0
      · have HN := Lib.hid (wW_none (f := byteF s) (l := l) (d := d) h0)
        obtain ⟨kq, hkq⟩ : ∃ kq, k q = kq := ⟨_, rfl⟩
        dsimp only at c0
        rw [hkq] at c0 h0
        have hr := run_index Tryz.underlying23 hlt c0
        have kz : ((kq : Int) != 0) = false := by simp; omega
        clear hkq h0 c0
        go_wp2_with fail
        go_roundw
        case rel => exact ⟨q + 1, R, by omega, by go_num, by rw [HN.out.1]; exact HR, by rw [HN.out.2]; exact HS.out⟩
        case measure => simp [intOf]; omega
      · have HN := Lib.hid (wW_some (f := byteF s) (l := l) (d := d) h0)
        have HY := Lib.hid (show yW (byteF s) k d q = vF (Sp.sB q) (k q) (nW (byteF s) k d q) from rfl)
        have HNW := Lib.hid (show nW (byteF s) k d q = (decB (byteF s) 3 (Sp.P q (k q)) (dW (byteF s) k d q)).1 % Ve.V (Sp.sB q) (k q) from rfl)
        obtain ⟨g1, g2⟩ := dW_ok (byteF s) k hd q
        have hk8 := HK8.out q
        obtain ⟨s1, s2, s3, s4⟩ := sB_fs q hlt
        have hm24 := P_24 q hlt (k q) hk8
        have hv1 := V_pos q hlt (k q) hk8
        have hv2 := Ve.V_le s3 hk8
        have hbI : Ve.bI (Sp.sB q) (k q) = Sp.P q (k q) := rfl
        have hcI := Ve.cI_nat s3 hk8
        have HSz := Lib.hid (fun w1 (hT : Lv.Tab w1) => Sp.size_as q (Sp.sB q) w1 hT hlt rfl)
        have hc4 := HL.out.cell HS.out.2.2.1 q hlt
        obtain ⟨kq, hkq⟩ : ∃ kq, k q = kq := ⟨_, rfl⟩
        obtain ⟨n, hn⟩ : ∃ n, Sp.sB q = n := ⟨_, rfl⟩
        obtain ⟨m, hm⟩ : ∃ m, Sp.P q kq = m := ⟨_, rfl⟩
        obtain ⟨lq, hl⟩ : ∃ lq, l q = lq := ⟨_, rfl⟩
        obtain ⟨⟨x, d'⟩, hx⟩ : ∃ xd, decB (byteF s) 3 m (dW (byteF s) k d q) = xd := ⟨_, rfl⟩
        obtain ⟨c, hc⟩ : ∃ c, Ve.V n kq = c := ⟨_, rfl⟩
        obtain ⟨I, hI⟩ : ∃ I, x % c = I := ⟨_, rfl⟩
        dsimp only at c0
        rw [hkq] at c0 h0 hk8
        rw [hkq, hn, hm] at hbI
        rw [hkq, hm] at hm24
        rw [hkq, hn, hc] at hv1 hv2
        rw [hkq, hn, hc] at hcI
        rw [hkq, hn, hm, hc, hx] at HNW
        rw [hkq, hn] at HY
        rw [hkq, hn, hm, hx, hl] at HN
        rw [hn] at HSz s1 s2 s3
        rw [hl] at hc4
        have HYI := Lib.hid (show yW (byteF s) k d q = vF n kq I by rw [HY.out, HNW.out, ← hI])
        have HTV := Lib.hid (fun w1 (hD : DecIs w1 b O s (dW (byteF s) k d q)) (hO : ∀ k, O k → k < w1.heap.size) => takeVector_as n kq m x c I b O s _ d' w1 hD hO g1 (by omega) hs s3 hk8 hbI hm24 hx hcI hv1 hv2 hc hI)
        have hr := run_index Tryz.underlying23 hlt c0
        have kz : ((kq : Int) != 0) = true := by simp; omega
        have hnm : n ≤ maxLen := by unfold maxLen; omega
        have HPN := Lib.hid (⟨Lv.lo_nat q hlt, Lv.hi_nat q hlt, s1, s2, s4⟩ : Lv.lo q = Lv.fs q ∧ Lv.hi q = Lv.fs (q + 1) ∧ Lv.fs q + n = Lv.fs (q + 1) ∧ 1 ≤ n ∧ Lv.fs (q + 1) ≤ 16)
        clear hkq hn hm hl hx hc hI HY HNW h0 c0 g1 g2 hbI hcI hm24 hv1 hv2 s1 s4
        go_wp2_with fail
        refine (HSz.out _ HS.out.2.2.2.2.2.2.2).mono ?_
        rintro e w1 ⟨rfl, h1⟩
        have HS1 := Lib.hid (HS.out.below h1)
        have hc5 : w1.cell? ⟨w.heap.size, q, none⟩ = some (.int .i64 lq) := (Below.cell h1 (block_lt_of_cell hc4)).trans hc4
        clear h1 HS HSz hc4
        go_wp2_with fail
        refine (HTV.out _ HS1.out.2.1 (fun k hk => Nat.lt_of_lt_of_le (HO.out k hk) HS1.out.1.size)).mono ?_
        rintro e w2 ⟨fv, g, U, rfl, hf1, hf2, hg2, hU, hA, hD2, hF2⟩
        have HS2 := Lib.hid (HS1.out.took hD2 hF2 HTO.out)
        have HV := Lib.hid (vF_is hf1 hf2).2
        have hc6 : w2.cell? ⟨w.heap.size, q, none⟩ = some (.int .i64 lq) := hF2.cell hc5 fun c => by have := HO.out _ c; dsimp only at this; omega
        have HSl := Lib.hid (Sl.of_isRow hU hA hnm)
        clear hf1 hf2 hg2 hU hA hD2 hF2 HS1 HTV hc5
        go_wp2_with fail
        refine mf_start (SB w2) (fun j => j == 8) (Below.refl _ _).drew fun hS => ?_
        refine mf_yield (i := 0) (d := 23) (.agg R) rfl rfl (by kernel_rfl) (by kernel_rfl) (by kernel_rfl) (by kernel_rfl) hS (y_load (by rfl) rfl rfl HS2.out.2.2.2.2.2.1 Tryz.underlying32 (HI.out _ HR.out.1)) ?_
        simp only [Act.put, List.setIfInBounds_toArray, List.set_cons_zero, List.set_cons_succ]
        refine mf_yield (i := 1) (d := 24) (.int .i64 q) rfl rfl (by kernel_rfl) (by kernel_rfl) (by kernel_rfl) (by kernel_rfl) hS (y_run (by rfl) fun _ => by rfl) ?_
        simp only [Act.put, List.setIfInBounds_toArray, List.set_cons_zero, List.set_cons_succ]
        refine mf_yield (i := 2) (d := 25) (.int .i64 q) rfl rfl (by kernel_rfl) (by kernel_rfl) (by kernel_rfl) (by kernel_rfl) hS (y_run (by rfl) fun _ => by rfl) ?_
        simp only [Act.put, List.setIfInBounds_toArray, List.set_cons_zero, List.set_cons_succ]
        refine mf_yield (i := 3) (d := 26) (.pointer (some ⟨w.heap.size, q, none⟩)) rfl rfl (by kernel_rfl) (by kernel_rfl) (by kernel_rfl) (by kernel_rfl) hS (y_at (by rfl) rfl rfl rfl Tryz.underlying23 rfl hlt) ?_
        simp only [Act.put, List.setIfInBounds_toArray, List.set_cons_zero, List.set_cons_succ]
        refine mf_yield (i := 4) (d := 27) (.int .i64 lq) rfl rfl (by kernel_rfl) (by kernel_rfl) (by kernel_rfl) (by kernel_rfl) hS (y_cell (by rfl) rfl rfl hc6) ?_
        simp only [Act.put, List.setIfInBounds_toArray, List.set_cons_zero, List.set_cons_succ]
        refine mf_yield (i := 5) (d := 28) (.slice (some ⟨g, 0, none⟩) n n) rfl rfl (by kernel_rfl) (by kernel_rfl) (by kernel_rfl) (by kernel_rfl) hS (y_run (by rfl) fun _ => by rfl) ?_
        simp only [Act.put, List.setIfInBounds_toArray, List.set_cons_zero, List.set_cons_succ]
        refine mf_ready [6] (by kernel_rfl) (by simp) (af_call (i := 6) (d := 29) #[.int .i64 lq, .slice (some ⟨g, 0, none⟩) n n] rfl rfl (by rfl) rfl enter_fill (by kernel_rfl) ((Lv.fill_any lq (some ⟨g, 0, none⟩) n n fv _ (HSl.out.below (Below.refl _ _).drew) (by omega)).mono fun _ _ h => h.out) (fun v w' h => below_trans hS h.below hS.size) ?_ AllReadyF.nil)
        rintro v w3 ⟨g3, U3, rfl, hg3, hU3, hA3, hw3⟩ hS3
        simp only [Act.put, List.setIfInBounds_toArray, List.set_cons_zero, List.set_cons_succ]
        have HT3 := HS2.out.2.2.2.2.2.2.2.next hS3
        have HU3 := Lib.hid (Sl.of_isRow hU3 hA3 hnm)
        have CP := Lib.hid (Lv.put_some R (wW (byteF s) l k d q) (Lv.fl lq fv n) (q : Int) (some ⟨g3, 0, none⟩) n n (Lv.fs q) (Lv.fs (q + 1)) w3 HR.out HT3 HU3.out HPN.out.1 HPN.out.2.1 HPN.out.2.2.1.symm HPN.out.2.2.2.1 HPN.out.2.2.2.2)
        clear hg3 hU3 hA3 hw3 hS HT3 HU3
        refine mf_ready [7] (by kernel_rfl) (by simp) (af_call (i := 7) (d := 30) #[.agg R, .int .i64 q, .slice (some ⟨g3, 0, none⟩) n n] rfl rfl (by rfl) rfl enter_put (by kernel_rfl) (CP.out.mono fun _ _ h => h.out) (fun v w' h => below_trans hS3 h.below hS3.size) ?_ AllReadyF.nil)
        clear CP
        rintro v w4 ⟨U4, rfl, hU4, hw4⟩ hS4
        simp only [Act.put, List.setIfInBounds_toArray, List.set_cons_zero, List.set_cons_succ]
        have HS4 := Lib.hid (HS2.out.below hS4)
        have HU4 := Lib.hid hU4
        clear hS3 hS4 hU4 hw4 HS2
        refine mf_ready [8] (by kernel_rfl) (by simp) (af_store (i := 8) (w.heap.size + 3) U4 R rfl rfl (by rfl) rfl rfl rfl rfl HS4.out.2.2.2.2.2.1 (by rw [HR.out.1, HU4.out.1]) HU4.out.2.1 (HI.out _ HU4.out.1) ?_ AllReadyF.nil)
        refine mf_done (by kernel_rfl) ?_
        have HS5 := Lib.hid (HS4.out.set HTL.out U4)
        clear HS4
        go_wp2_with fail
        go_roundw
        case rel =>
          refine ⟨q + 1, U4, by omega, by go_num, Lib.hid (HU4.out.ext fun i _ => ?_), by rw [HN.out.2]; exact HS5.out⟩
          rw [HN.out.1, HYI.out]
          exact over_ext (fun j hj => fl_ext HV.out j hj) i
        case measure => simp [intOf]; omega
    · obtain rfl : q = 4 := by omega
      have HIR := Lib.hid (HI.out R HR.out.1)
      clear hq hlt
      go_wp2_with (first
        | refine wpList_load_row rfl 32 _ rfl (w.heap.size + 3) rfl _ _ (0, 0) _ HS.out.2.2.2.2.2.1 Tryz.underlying32 rfl HIR.out ?_
        | refine wpList_store_row rfl 32 _ _ rfl (w.heap.size + 2) R rfl rfl _ _ HS.out.2.2.2.2.1 HIR.out (by rw [HZS.out, HR.out.1]) HR.out.2.1 ?_)
      obtain ⟨e1, e2, e3⟩ := HS.out.out R
      exact bodyPost_ret (v := .agg R) (results_cell_row rfl _ _ (w.heap.size + 2) 32 R (0, 0) _ rfl e3 Tryz.underlying32 rfl HIR.out) rfl ⟨⟨R, rfl, HR.out⟩, e2, e1⟩
end Go.Proofs.YtfohinlldchdpaaGreatDoor.De
end
