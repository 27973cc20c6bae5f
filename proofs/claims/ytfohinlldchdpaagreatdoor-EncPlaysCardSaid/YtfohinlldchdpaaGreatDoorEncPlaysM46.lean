/- Texts of the walk, one behind the other. -/
import Derived.Test.YtfohinlldchdpaaGreatDoorEncPlaysM23
import Derived.Test.YtfohinlldchdpaaGreatDoorEncPlaysM45
import Derived.Test.YtfohinlldchdpaaGreatDoorEncPlaysM40
import Derived.Deep.LoopGhost

section
/- Contracts of the document's Bounds, Cost, Right. -/
set_option maxRecDepth 100000
set_option linter.unusedVariables false
namespace Go.Proofs.YtfohinlldchdpaaGreatDoor.Sp
open Go.RowKit Go.Proofs.YtfohinlldchdpaaGreatDoor.Row

theorem bounds_as (b : Nat) (w : World) (h : b < 4) :
    Calls Tryz.prog 42 #[.int .i64 b] w fun e w' => e = .returned (.tuple #[.int .i64 (Lv.fs b : Nat), .int .i64 (Lv.fs (b + 1) : Nat)]) ∧ Below w.heap.size w w' := by
  have : b = 0 ∨ b = 1 ∨ b = 2 ∨ b = 3 := by omega
  rcases this with rfl | rfl | rfl | rfl
  all_goals
    clear h
    go_enter Tryz.func42, Tryz.ntmps42
    go_wp2_with fail
    go_quiet (fail)
    go_wp2_with fail
    go_ret2
    exact ⟨rfl, below_drewN ((Below.refl _ _).alloc (Nat.le_refl _) _) _⟩

theorem run_max0 (x u : Int) (h : max x 0 = u) (w : World) :
    (Builtin.max_ #[3, 3] 3 #[.int .i64 x, .int .i64 0]).run Tryz.prog w = .ok (.int .i64 u) w := by
  have e : (if x < 0 then 0 else x) = u := by rw [← h]; split <;> omega
  rw [← e]
  simp [Builtin.max_, Builtin.max2]
theorem refLength_as (x : Int) (b : Nat) (w : World) (h1 : 0 ≤ x) (h2 : x ≤ 9223372036854775807) (h : Lib.bitLen x.natAbs = b) :
    Calls Tryz.prog 97 #[.int .i64 x] w fun e w' => e = .returned (.int .i64 b) ∧ w = w' := by
  rw [← h]; exact Ref01.length_any x w h1 h2

theorem fs_size {b : Nat} (h : b < 4) : ((Lv.fs (b + 1) : Nat) : Int) - (Lv.fs b : Nat) = sB b := by
  have : b = 0 ∨ b = 1 ∨ b = 2 ∨ b = 3 := by omega
  rcases this with rfl | rfl | rfl | rfl <;> rfl
theorem sB_le {b : Nat} (h : b < 4) : sB b ≤ 8 := by
  have : b = 0 ∨ b = 1 ∨ b = 2 ∨ b = 3 := by omega
  rcases this with rfl | rfl | rfl | rfl <;> decide

theorem refCost_as (b k c : Nat) (w : World) (hb : b < 4) (hk : k ≤ 8) (hc : P b k = c) :
    Calls Tryz.prog 51 #[.int .i64 b, .int .i64 k] w fun e w' => e = .returned (.int .i64 c) ∧ Below w.heap.size w w' := by
  have HB := Lib.hid (bounds_as b w hb)
  have hs := fs_size hb
  have h8 := sB_le hb
  unfold P at hc
  rw [Ve.cI_nat h8 hk] at hc
  have hV := Ve.V_le h8 hk
  have f1 : Lv.fs b ≤ 16 := by
    have : b = 0 ∨ b = 1 ∨ b = 2 ∨ b = 3 := by omega
    rcases this with rfl | rfl | rfl | rfl <;> decide
  obtain ⟨p, hp⟩ : ∃ p, Lv.fs b = p := ⟨_, rfl⟩
  obtain ⟨q, hq⟩ : ∃ q, Lv.fs (b + 1) = q := ⟨_, rfl⟩
  obtain ⟨s, hse⟩ : ∃ s, sB b = s := ⟨_, rfl⟩
  obtain ⟨v, hv⟩ : ∃ v, Ve.V s k = v := ⟨_, rfl⟩
  rw [hp, hq] at HB
  rw [hp, hq, hse] at hs
  rw [hse] at hc h8 hV
  rw [hv] at hc hV
  rw [hp] at f1
  have HV : Hid (∀ w, Calls Tryz.prog 101 #[.int .i64 ((q : Int) - p), .int .i64 k] w fun e w' => e = .returned (.int .i64 v) ∧ Below w.heap.size w w') := Lib.hid fun w => by
    rw [hs, ← hv]; exact Ve.refCount_as s k w h8 hk
  have q16 : q ≤ 24 := by omega
  have HL := Lib.hid (fun w => refLength_as (max ((v : Int) - 1) 0) c w (by omega) (by omega) (by rw [show (max ((v : Int) - 1) 0).natAbs = v - 1 by omega]; exact hc))
  clear hp hq hse hv hb hk hc h8 hs
  go_enter Tryz.func51, Tryz.ntmps51
  go_wp2_with fail
  refine HB.out.mono ?_
  rintro e w1 ⟨rfl, h1⟩
  have H1 := Lib.hid h1
  clear h1 HB
  go_wp2_with fail
  with_reducible refine (HV.out _).mono ?_
  rintro e w2 ⟨rfl, h2⟩
  have H2 := Lib.hid (below_trans H1.out h2 H1.out.size)
  clear h2 HV H1
  go_wp2_with fail
  with_reducible refine (HL.out _).mono ?_
  rintro e w3 ⟨rfl, rfl⟩
  go_wp2_with fail
  go_ret
  exact ⟨rfl, H2.out⟩

/-- Whether pulses can be given. -/
def okP (L : Nat → Int) (bits : Int) : Prop := okL L ∧ 0 ≤ bits ∧ bits ≤ 1048576

end Go.Proofs.YtfohinlldchdpaaGreatDoor.Sp
end

section
/- Contract of the document's Pulses. -/
set_option maxRecDepth 100000
set_option linter.unusedVariables false
namespace Go.Proofs.YtfohinlldchdpaaGreatDoor.Sp
open Go.RowKit Go.Proofs.YtfohinlldchdpaaGreatDoor.Row

/-- The costs, band by band. -/
def cf (p : Nat) : Int := P (p / 9) (p % 9)
theorem cf_at {b k : Nat} (h : k < 9) : cf (b * 9 + k) = P b k := by
  unfold cf
  rw [show (b * 9 + k) / 9 = b by omega, show (b * 9 + k) % 9 = k by omega]
def upC (n p : Nat) : Int := if p < n then cf p else 0
theorem upC_next (n p : Nat) : (if p = n then cf n else upC n p) = upC (n + 1) p := by
  unfold upC
  by_cases c : p = n
  · rw [if_pos c, if_pos (by omega), c]
  · rw [if_neg c]
    by_cases c2 : p < n
    · rw [if_pos c2, if_pos (by omega)]
    · rw [if_neg c2, if_neg (by omega)]
theorem zero36 : ∃ Z, IsRow 36 (fun _ => 0) Z ∧ (∀ f, rowL 36 f 0 = Z) ∧ (∀ w, (zeroValue 137).run Tryz.prog w = .ok (.agg Z) w) ∧ ∀ A : Array Value, A.size = 36 → (Tryz.prog.info? 137).map (·.size) = some A.size :=
  zero_row (by kernel_rfl)

/-- What stands while costs are written down. -/
def RfS (w w' : World) (TL Z TC : Array Value) : Prop := At w' w.heap.size TL 23 ∧ At w' (w.heap.size + 1) Z 23 ∧ At w' (w.heap.size + 2) TC 137 ∧ Below w.heap.size w w'
theorem RfS.start (w : World) (TL Z Y : Array Value) : RfS w (((w.alloc (.cells TL 23)).alloc (.cells Z 23)).alloc (.cells Y 137)) TL Z Y := by
  refine ⟨((At.new w TL _).alloc _).alloc _, ?_, ?_, (((Below.refl _ _).alloc (Nat.le_refl _) _).alloc (by simp) _).alloc (by simp; omega) _⟩
  · have := (At.new (w.alloc (.cells TL 23)) Z 23).alloc (.cells Y 137)
    simpa using this
  · have := At.new ((w.alloc (.cells TL 23)).alloc (.cells Z 23)) Y 137
    simpa using this
theorem RfS.next {w w1 w2 : World} {TL Z TC : Array Value} (h : RfS w w1 TL Z TC) (hb : Below w1.heap.size w1 w2) : RfS w w2 TL Z TC :=
  ⟨h.1.below hb h.1.lt, h.2.1.below hb h.2.1.lt, h.2.2.1.below hb h.2.2.1.lt, below_trans h.2.2.2 hb h.2.2.2.size⟩
theorem RfS.drewN {w w1 : World} {TL Z TC : Array Value} (h : RfS w w1 TL Z TC) (n : Nat) : RfS w (w1.drewN n) TL Z TC := ⟨h.1, h.2.1, h.2.2.1, below_drewN h.2.2.2 n⟩
theorem RfS.drew {w w1 : World} {TL Z TC : Array Value} (h : RfS w w1 TL Z TC) : RfS w w1.drew TL Z TC := ⟨h.1, h.2.1, h.2.2.1, h.2.2.2.drew⟩
theorem RfS.set {w w1 : World} {TL Z TC : Array Value} (h : RfS w w1 TL Z TC) (i : Nat) (v : Value) : RfS w (w1.setCell ⟨w.heap.size + 2, i, none⟩ v) TL Z (TC.setIfInBounds i v) :=
  ⟨h.1.setCell_other (by dsimp only; omega), h.2.1.setCell_other (by dsimp only; omega), h.2.2.1.setCell, h.2.2.2.setCell (by dsimp only; omega) _⟩
theorem RfS.other {w w1 : World} {TL Z TC : Array Value} (h : RfS w w1 TL Z TC) {g : Nat} (hg : w.heap.size + 2 < g) (i : Nat) (v : Value) : RfS w (w1.setCell ⟨g, i, none⟩ v) TL Z TC :=
  ⟨h.1.setCell_other (by dsimp only; omega), h.2.1.setCell_other (by dsimp only; omega), h.2.2.1.setCell_other (by dsimp only; omega), h.2.2.2.setCell (by dsimp only; omega) _⟩

/-- The best as the document's program writes it. -/
def enc (m : Nat) : Int := if m = 4 then -1 else m

set_option maxHeartbeats 3000000 in
theorem refPulses_as (TL : Array Value) (L : Nat → Int) (bits : Int) (w : World) (hR : IsRow 4 L TL) (h : okP L bits) :
    Calls Tryz.prog 46 #[.agg TL, .int .i64 bits] w (RetR 4 w fun i => (given L bits i : Int)) := by
  obtain ⟨Z, hZ, hZ0, hz, hi⟩ := zero4
  obtain ⟨Y, hY, hY0, hy, hi36⟩ := zero36
  obtain ⟨hL, h0, h1⟩ := h
  have HI := Lib.hid hi
  have HR := Lib.hid hR
  have HL := Lib.hid hL
  have HZ := Lib.hid hZ
  have HZS := Lib.hid hZ.1
  have HIL := Lib.hid (hi TL hR.1)
  have HS0 := Lib.hid (RfS.start w TL Z Y)
  have HY := Lib.hid (hY.ext fun p _ => (show (0 : Int) = upC (0 * 9) p by unfold upC; rw [if_neg (by omega)]))
  clear hZ hZ0 hi hi36 hR hL hY hY0
  go_enter Tryz.func46, Tryz.ntmps46
  go_wp2_with fail
  go_loopw [6] (fun i w' => ∃ (b : Nat) (TC : Array Value), b ≤ 4 ∧ i = .int .i64 b ∧ Hid (RfS w w' TL Z TC) ∧ Hid (IsRow 36 (upC (b * 9)) TC)) (fun i _ => 4 - (intOf i).toNat)
  case atStart => exact ⟨0, Y, by omega, rfl, HS0, HY⟩
  case round =>
    obtain ⟨b, TC, hb, rfl, HS, HC⟩ := hrel
    clear HS0 HY
    by_cases hlt : b < 4
    · have b0 : (0 : Int) ≤ (b : Int) := by omega
      have b1 : (b : Int) < 4 := by omega
      go_wp2_with fail
      go_loopw [7] (fun i w' => ∃ (k : Nat) (TC : Array Value), k ≤ 9 ∧ i = .int .i64 k ∧ Hid (RfS w w' TL Z TC) ∧ Hid (IsRow 36 (upC (b * 9 + k)) TC)) (fun i _ => 9 - (intOf i).toNat)
      case atStart => exact ⟨0, TC, by omega, rfl, HS, HC⟩
      case round =>
        obtain ⟨k, TC, hk, rfl, HS1, HC1⟩ := hrel
        clear HS HC
        by_cases hl9 : k < 9
        · have HK := Lib.hid (fun w' => refCost_as b k (P b k) w' hlt (by omega) rfl)
          have HF := Lib.hid (show (P b k : Int) = cf (b * 9 + k) from (cf_at hl9).symm)
          obtain ⟨x, hx⟩ : ∃ x, P b k = x := ⟨_, rfl⟩
          rw [hx] at HK HF
          clear hx
          have k0 : (0 : Int) ≤ (k : Int) := by omega
          have k1 : (k : Int) < 9 := by omega
          go_wp2_with fail
          go_region_with ((go_at_call 51; refine (HK.out _).mono ?_; rintro e w2 ⟨rfl, h2⟩; have HS2 : Hid (RfS w w2 TL Z TC) := (by first | exact Lib.hid (HS1.out.next h2) | exact Lib.hid (HS1.out.drew.next h2)); have c0 := HC1.out.cell HS2.out.2.2.1 (b * 9 + k) (by omega); have f0 := HS2.out.2.2.1.frozen (b * 9 + k); clear h2))
          all_goals
            go_wp2_with fail
            go_roundw
            case rel => exact ⟨k + 1, _, by omega, by go_num, Lib.hid (by first | exact HS2.out.set _ _ | exact (HS2.out.set _ _).drew), Lib.hid ((HC1.out.set _ (show b * 9 + k < 36 by omega)).ext fun p _ => by rw [HF.out]; exact upC_next (b * 9 + k) p)⟩
            case measure => simp [intOf]; omega
        · obtain rfl : k = 9 := by omega
          go_wp2_with fail
          go_roundw
          case rel => exact ⟨b + 1, TC, by omega, by go_num, HS1, Lib.hid (by rw [show (b + 1) * 9 = b * 9 + 9 by omega]; exact HC1.out)⟩
          case measure => simp [intOf]; omega
    · obtain rfl : b = 4 := by omega
      have HTC := Lib.hid (HC.out.ext (g := cf) fun p hp => by unfold upC; rw [if_pos (by omega)])
      have HN8 := Lib.hid (At.new wr Z 23)
      have HS8 := Lib.hid (HS.out.next ((Below.refl _ _).alloc (Nat.le_refl _) (.cells Z 23)))
      have hg8 : w.heap.size + 2 < wr.heap.size := HS.out.2.2.1.lt
      clear HS HC
      go_wp2_with fail
      obtain ⟨g8, hg⟩ : ∃ g8, wr.heap.size = g8 := ⟨_, rfl⟩
      rw [hg] at HN8 hg8 ⊢
      obtain ⟨w3, hw3⟩ : ∃ w3, wr.alloc (.cells Z 23) = w3 := ⟨_, rfl⟩
      rw [hw3] at HN8 HS8 ⊢
      have HG0 := Lib.hid (Giv.start L h0)
      have HZ0 := Lib.hid (HZ.out.ext (g := fun i => (((fun _ => 0 : Nat → Nat) i : Nat) : Int)) fun _ _ => rfl)
      clear hg hw3
      go_loopg [1] 32 (fun n v w' => ∃ (K : Nat → Nat) (left : Int) (TK : Array Value), v = .int .i64 left ∧ Hid (RfS w w' TL Z TC) ∧ Hid (At w' g8 TK 23) ∧ Hid (IsRow 4 (fun i => (K i : Int)) TK) ∧ Hid (Giv L bits n K left))
      case atStart => exact ⟨fun _ => 0, bits, Z, rfl, HS8, HN8, HZ0, HG0⟩
      case round =>
        obtain ⟨K, left, TK, rfl, HS, HN, HK, HG⟩ := hrel
        obtain ⟨n, hn⟩ : ∃ n, n = gk := ⟨_, rfl⟩
        subst hn
        clear HS8 HN8 HZ0 HG0
        have HIK := Lib.hid (HI.out TK HK.out.1)
        have l0 := HG.out.lo
        have l1 := HG.out.hi
        go_wp2_with fail
        go_loopg [9, 10] 4 (fun m u v w' => ∃ q : Nat, q + m = 4 ∧ v = .int .i64 q ∧ u = .int .i64 (enc (bs (can L K left) (ltW L K) q)) ∧ Hid (RfS w w' TL Z TC) ∧ Hid (At w' g8 TK 23))
        case atStart => exact ⟨0, rfl, rfl, rfl, HS, HN⟩
        case round =>
          obtain ⟨q, hq, rfl, rfl, HS4, HN4⟩ := hrel
          clear HS HN
          by_cases hlt : q < 4
          · have c1 := HR.out.cell HS4.out.1 q hlt
            have c2 : wr.cell? ⟨g8, q, none⟩ = some (.int .i64 ((K q : Nat) : Int)) := HK.out.cell HN4.out q hlt
            have k8 := HG.out.few q
            obtain ⟨l20, l21⟩ := HL.out q hlt
            have q0 : (0 : Int) ≤ (q : Int) := by omega
            have q1 : (q : Int) < 4 := by omega
            have HCN := Lib.hid (can_iff (L := L) (K := K) (left := left) (b := q))
            have HCC := Lib.hid (fun j (h : j < 9) => HTC.out.cell HS4.out.2.2.1 (q * 9 + j) (by omega))
            have HPF := Lib.hid (fun j (h : j < 9) => cf_at (b := q) h)
            have HBS := Lib.hid (show bs (can L K left) (ltW L K) (q + 1) = if can L K left q && (bs (can L K left) (ltW L K) q == 4 || ltW L K q (bs (can L K left) (ltW L K) q)) then q else bs (can L K left) (ltW L K) q from rfl)
            have HBC := Lib.hid (bs_cases (can L K left) (ltW L K) q (by omega))
            have HLT := Lib.hid (fun m => show ltW L K q m = decide (2 * L m - 3 * (K m : Int) < 2 * L q - 3 * (K q : Int)) from rfl)
            obtain ⟨bq, hbq⟩ : ∃ bq, bs (can L K left) (ltW L K) q = bq := ⟨_, rfl⟩
            rw [hbq] at HBS HBC
            have HBQ := Lib.hid hbq
            have HEN : Hid (∀ z, bs (can L K left) (ltW L K) (q + 1) = z → Value.int .i64 (enc z) = Value.int .i64 (enc (bs (can L K left) (ltW L K) (q + 1)))) := Lib.hid fun z hz => by rw [hz]
            rw [hbq]
            obtain ⟨l, hl⟩ : ∃ l, L q = l := ⟨_, rfl⟩
            obtain ⟨k, hk⟩ : ∃ k, K q = k := ⟨_, rfl⟩
            have HPR := Lib.hid (show pr q k = (P q (k + 1) : Int) - P q k from rfl)
            rw [hl] at c1 HCN l20 l21 HLT
            rw [hk] at c2 k8 HCN HLT
            clear hbq hl hk
            by_cases a1 : l = 0
            · have HF : Hid (bs (can L K left) (ltW L K) (q + 1) = bq) := Lib.hid (by
                rw [HBS.out, show can L K left q = false by (rw [Bool.eq_false_iff]; intro h; exact (HCN.out.1 h).1 a1)]; rfl)
              have b1 : decide (0 < l) = false := decide_eq_false (by omega)
              obtain ⟨eb, heb⟩ : ∃ eb, enc bq = eb := ⟨_, rfl⟩
              have HB := Lib.hid (HEN.out bq HF.out)
              rw [heb] at HB ⊢
              clear HCN HCC HPF HBS HBC HLT HBQ HEN heb
              go_wp2_with fail
              go_quiet (fail)
              go_wp2_with fail
              go_roundg (4 - (q + 1))
              case measure => omega
              case rel => exact ⟨q + 1, by omega, by go_num, HB.out, Lib.hid (HS4.out.drewN _), HN4⟩
            have b1 : decide (0 < l) = true := decide_eq_true (by omega)
            by_cases a2 : k = 8
            · have HF : Hid (bs (can L K left) (ltW L K) (q + 1) = bq) := Lib.hid (by
                rw [HBS.out, show can L K left q = false by (rw [Bool.eq_false_iff]; intro h; have := (HCN.out.1 h).2.1; omega)]; rfl)
              have b2 : decide ((k : Int) < 8) = false := decide_eq_false (by omega)
              obtain ⟨eb, heb⟩ : ∃ eb, enc bq = eb := ⟨_, rfl⟩
              have HB := Lib.hid (HEN.out bq HF.out)
              rw [heb] at HB ⊢
              clear HCN HCC HPF HBS HBC HLT HBQ HEN heb a2
              go_wp2_with fail
              go_quiet (fail)
              go_wp2_with fail
              go_roundg (4 - (q + 1))
              case measure => omega
              case rel => exact ⟨q + 1, by omega, by go_num, HB.out, Lib.hid (HS4.out.drewN _), HN4⟩
            have k7 : k < 8 := by omega
            have b2 : decide ((k : Int) < 8) = true := decide_eq_true (by omega)
            have k70 : (0 : Int) ≤ (k : Int) := by omega
            have k71 : (k : Int) < 9 := by omega
            have k72 : (0 : Int) ≤ (k : Int) + 1 := by omega
            have k73 : (k : Int) + 1 < 9 := by omega
            have k74 : ((k : Int) + 1).toNat = k + 1 := by omega
            have c3 := HCC.out (k + 1) (by omega)
            have c4 := HCC.out k (by omega)
            rw [HPF.out (k + 1) (by omega)] at c3
            rw [HPF.out k (by omega)] at c4
            have y1 := P_le q (k + 1)
            have x1 := P_mono (b := q) hlt k7
            obtain ⟨y, hy⟩ : ∃ y, P q (k + 1) = y := ⟨_, rfl⟩
            obtain ⟨x, hx⟩ : ∃ x, P q k = x := ⟨_, rfl⟩
            rw [hy] at c3 HPR y1 x1
            rw [hx] at c4 HPR x1
            clear hy hx HCC HPF
            by_cases a3 : (y : Int) - x ≤ left
            · have hcq : can L K left q = true := HCN.out.2 ⟨a1, k7, by rw [HPR.out]; exact a3⟩
              have b3 : decide ((y : Int) - x ≤ left) = true := decide_eq_true a3
              by_cases a4 : bq = 4
              · have HF : Hid (bs (can L K left) (ltW L K) (q + 1) = q) := Lib.hid (by
                  rw [HBS.out, hcq, a4]; rfl)
                have HB := Lib.hid ((show Value.int .i64 (q : Int) = Value.int .i64 (enc q) by (unfold enc; rw [if_neg (by omega)])).trans (HEN.out q HF.out))
                rw [show enc bq = -1 by (rw [a4]; rfl)]
                clear HCN HBS HBC HLT HBQ HEN hcq a4 a3
                go_wp2_with fail
                go_quiet (fail)
                go_wp2_with fail
                go_quiet (fail)
                go_wp2_with fail
                go_roundg (4 - (q + 1))
                case measure => omega
                case rel => exact ⟨q + 1, by omega, by go_num, HB.out, Lib.hid (HS4.out.drewN _), HN4⟩
              · have hbl : bq < q := by
                  rcases HBC.out with ⟨h, _⟩ | ⟨h, _⟩
                  · exact absurd h a4
                  · exact h
                have d1 := HR.out.cell HS4.out.1 bq (by omega)
                have d2 : wr.cell? ⟨g8, bq, none⟩ = some (.int .i64 ((K bq : Nat) : Int)) := HK.out.cell HN4.out bq (by omega)
                have m8 := HG.out.few bq
                obtain ⟨m20, m21⟩ := HL.out bq (by omega)
                have HLM := Lib.hid (HLT.out bq)
                obtain ⟨lm, hlm⟩ : ∃ lm, L bq = lm := ⟨_, rfl⟩
                obtain ⟨km, hkm⟩ : ∃ km, K bq = km := ⟨_, rfl⟩
                rw [hlm] at d1 m20 m21 HLM
                rw [hkm] at d2 m8 HLM
                have m0 : (0 : Int) ≤ (bq : Int) := by omega
                have m1 : (bq : Int) < 4 := by omega
                have b4 : decide ((bq : Int) < 0) = false := decide_eq_false (by omega)
                have hq4 : (bq == 4) = false := by simp [a4]
                rw [hq4, hcq] at HBS
                rw [show enc bq = (bq : Int) by (unfold enc; rw [if_neg a4])]
                by_cases a5 : 2 * lm - 3 * (km : Int) < 2 * l - 3 * (k : Int)
                · have b5 : decide (2 * lm - 3 * (km : Int) < 2 * l - 3 * (k : Int)) = true := decide_eq_true a5
                  have HF : Hid (bs (can L K left) (ltW L K) (q + 1) = q) := Lib.hid (by
                    rw [HBS.out, HLM.out, b5]; rfl)
                  have HB := Lib.hid ((show Value.int .i64 (q : Int) = Value.int .i64 (enc q) by (unfold enc; rw [if_neg (by omega)])).trans (HEN.out q HF.out))
                  clear HCN HBS HBC HLT HBQ HEN HLM hcq a3 a4 hq4 hlm hkm
                  go_wp2_with fail
                  go_quiet (fail)
                  have e1 : (wr.drewN nq).cell? ⟨w.heap.size, q, none⟩ = some (.int .i64 l) := c1
                  have e2 : (wr.drewN nq).cell? ⟨g8, q, none⟩ = some (.int .i64 (k : Int)) := c2
                  have e3 : (wr.drewN nq).cell? ⟨w.heap.size, bq, none⟩ = some (.int .i64 lm) := d1
                  have e4 : (wr.drewN nq).cell? ⟨g8, bq, none⟩ = some (.int .i64 (km : Int)) := d2
                  have HS5 := Lib.hid (HS4.out.drewN nq)
                  have HN5 : Hid (At (wr.drewN nq) g8 TK 23) := HN4
                  clear c1 c2 c3 c4 d1 d2 HS4 HN4
                  generalize wr.drewN nq = w5 at HS5 HN5 e1 e2 e3 e4 ⊢
                  go_wp2_with fail
                  go_quiet (fail)
                  go_wp2_with fail
                  go_roundg (4 - (q + 1))
                  case measure => omega
                  case rel => exact ⟨q + 1, by omega, by go_num, HB.out, Lib.hid (HS5.out.drewN _), HN5⟩
                · have b5 : decide (2 * lm - 3 * (km : Int) < 2 * l - 3 * (k : Int)) = false := decide_eq_false a5
                  have HF : Hid (bs (can L K left) (ltW L K) (q + 1) = bq) := Lib.hid (by
                    rw [HBS.out, HLM.out, b5]; rfl)
                  have HB := Lib.hid ((show Value.int .i64 (bq : Int) = Value.int .i64 (enc bq) by (unfold enc; rw [if_neg (by omega)])).trans (HEN.out bq HF.out))
                  clear HCN HBS HBC HLT HBQ HEN HLM hcq a3 a4 hq4 hlm hkm
                  go_wp2_with fail
                  go_quiet (fail)
                  have e1 : (wr.drewN nq).cell? ⟨w.heap.size, q, none⟩ = some (.int .i64 l) := c1
                  have e2 : (wr.drewN nq).cell? ⟨g8, q, none⟩ = some (.int .i64 (k : Int)) := c2
                  have e3 : (wr.drewN nq).cell? ⟨w.heap.size, bq, none⟩ = some (.int .i64 lm) := d1
                  have e4 : (wr.drewN nq).cell? ⟨g8, bq, none⟩ = some (.int .i64 (km : Int)) := d2
                  have HS5 := Lib.hid (HS4.out.drewN nq)
                  have HN5 : Hid (At (wr.drewN nq) g8 TK 23) := HN4
                  clear c1 c2 c3 c4 d1 d2 HS4 HN4
                  generalize wr.drewN nq = w5 at HS5 HN5 e1 e2 e3 e4 ⊢
                  go_wp2_with fail
                  go_quiet (fail)
                  go_wp2_with fail
                  go_roundg (4 - (q + 1))
                  case measure => omega
                  case rel => exact ⟨q + 1, by omega, by go_num, HB.out, Lib.hid (HS5.out.drewN _), HN5⟩
            · have HF : Hid (bs (can L K left) (ltW L K) (q + 1) = bq) := Lib.hid (by
                rw [HBS.out, show can L K left q = false by (rw [Bool.eq_false_iff]; intro h; exact a3 (by rw [← HPR.out]; exact (HCN.out.1 h).2.2))]; rfl)
              have b3 : decide ((y : Int) - x ≤ left) = false := decide_eq_false a3
              obtain ⟨eb, heb⟩ : ∃ eb, enc bq = eb := ⟨_, rfl⟩
              have HB := Lib.hid (HEN.out bq HF.out)
              rw [heb] at HB ⊢
              clear HCN HBS HBC HLT HBQ HEN heb a3
              go_wp2_with fail
              go_quiet (fail)
              go_wp2_with fail
              go_quiet (fail)
              go_wp2_with fail
              go_roundg (4 - (q + 1))
              case measure => omega
              case rel => exact ⟨q + 1, by omega, by go_num, HB.out, Lib.hid (HS4.out.drewN _), HN4⟩
          · obtain rfl : q = 4 := by omega
            by_cases hb4 : bst L K left = 4
            · have HE := Lib.hid (HG.out.stop hb4)
              rw [show enc (bs (can L K left) (ltW L K) 4) = -1 by (rw [show bs (can L K left) (ltW L K) 4 = 4 from hb4]; rfl)]
              go_wp2_with (first
                | refine wpList_load_row rfl 23 _ rfl g8 rfl _ _ (0, 0) _ HN4.out Tryz.underlying23 rfl HIK.out ?_
                | refine wpList_store_row rfl 23 _ _ rfl (w.heap.size + 1) TK rfl rfl _ _ HS4.out.2.1 HIK.out (by rw [HZS.out, HK.out.1]) HK.out.2.1 ?_)
              exact bodyPost_ret (v := .agg TK) (results_cell_row rfl _ _ (w.heap.size + 1) 23 TK (0, 0) _ rfl HS4.out.2.1.setRow Tryz.underlying23 rfl HIK.out) rfl ⟨⟨TK, rfl, HK.out.ext fun i _ => by rw [HE.out]⟩, below_setRow' HS4.out.2.2.2 (by omega) _⟩
            · obtain ⟨d, hd⟩ : ∃ d, bst L K left = d := ⟨_, rfl⟩
              have d4 : d < 4 := by have := bst_le L K left; omega
              have HD := Lib.hid hd
              obtain ⟨z1, z2, z3⟩ := bst_can hd d4
              have c2 : wr.cell? ⟨g8, d, none⟩ = some (.int .i64 ((K d : Nat) : Int)) := HK.out.cell HN4.out d d4
              have HPR := Lib.hid (show pr d (K d) = (P d (K d + 1) : Int) - P d (K d) from rfl)
              have c3 := HTC.out.cell HS4.out.2.2.1 (d * 9 + (K d + 1)) (by omega)
              have c4 := HTC.out.cell HS4.out.2.2.1 (d * 9 + K d) (by omega)
              rw [cf_at (by omega)] at c3 c4
              have y1 := P_le d (K d + 1)
              have x1 := P_mono (b := d) d4 z2
              obtain ⟨m, rfl⟩ : ∃ m, n = m + 1 := ⟨n - 1, by have := HG.out.pos d4 z2; omega⟩
              have HG2 := Lib.hid (HG.out.step hd d4)
              rw [show enc (bs (can L K left) (ltW L K) 4) = (d : Int) by (rw [show bs (can L K left) (ltW L K) 4 = d from hd]; unfold enc; rw [if_neg (by omega)])]
              rw [HPR.out] at z3 HG2
              obtain ⟨k, hk⟩ : ∃ k, K d = k := ⟨_, rfl⟩
              have HKD := Lib.hid hk
              rw [hk] at c2 c3 c4 z2 z3 y1 x1 HG2
              obtain ⟨y, hy⟩ : ∃ y, P d (k + 1) = y := ⟨_, rfl⟩
              obtain ⟨x, hx⟩ : ∃ x, P d k = x := ⟨_, rfl⟩
              rw [hy] at c3 z3 y1 x1 HG2
              rw [hx] at c4 z3 x1 HG2
              have k70 : (0 : Int) ≤ (k : Int) := by omega
              have k71 : (k : Int) < 9 := by omega
              have k72 : (0 : Int) ≤ (k : Int) + 1 := by omega
              have k73 : (k : Int) + 1 < 9 := by omega
              have k74 : ((k : Int) + 1).toNat = k + 1 := by omega
              have d0 : (0 : Int) ≤ (d : Int) := by omega
              have d1 : (d : Int) < 4 := by omega
              have b4 : decide ((d : Int) < 0) = false := decide_eq_false (by omega)
              clear hd hk hy hx HPR hb4
              go_wp2_with fail
              go_quiet (fail)
              have e2 : (wr.drewN nq).cell? ⟨g8, d, none⟩ = some (.int .i64 (k : Int)) := c2
              have HS5 := Lib.hid (HS4.out.drewN nq)
              have HN5 : Hid (At (wr.drewN nq) g8 TK 23) := HN4
              clear c2 c3 c4 HS4 HN4
              generalize wr.drewN nq = w5 at HS5 HN5 e2 ⊢
              have f2 := HN5.out.frozen d
              go_wp2_with fail
              go_roundg m
              case measure => omega
              case rel =>
                exact ⟨inc K d, left - (y - x), _, congrArg (Value.int .i64) (by omega), Lib.hid (HS5.out.other hg8 _ _), Lib.hid HN5.out.setCell, Lib.hid ((HK.out.set (k := d) _ d4).ext fun i _ => by
                  unfold inc
                  by_cases c : i = d
                  · rw [if_pos c, if_pos c, c, HKD.out]; omega
                  · rw [if_neg c, if_neg c]), HG2⟩
end Go.Proofs.YtfohinlldchdpaaGreatDoor.Sp
end
