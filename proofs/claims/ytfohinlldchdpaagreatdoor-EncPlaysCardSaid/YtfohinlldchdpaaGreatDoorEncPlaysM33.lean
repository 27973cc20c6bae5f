/- Texts of the walk, one behind the other. -/
import Derived.Test.YtfohinlldchdpaaGreatDoorEncPlaysM24
import Derived.Test.YtfohinlldchdpaaGreatDoorEncPlaysM27
import Derived.Test.YtfohinlldchdpaaGreatDoorEncPlaysM29
import Derived.Test.YtfohinlldchdpaaGreatDoorEncPlaysM22
import Derived.Test.YtfohinlldchdpaaGreatDoorEncPlaysM31
import Derived.Test.YtfohinlldchdpaaGreatDoorEncPlaysM32
import Derived.Test.YtfohinlldchdpaaGreatDoorEncPlaysM34
import Derived.Test.YtfohinlldchdpaaGreatDoorEncPlaysM23
import Derived.Test.YtfohinlldchdpaaGreatDoorEncPlaysM1

section
/- Contracts: enc's pulses and putPulses. -/
set_option maxRecDepth 100000
set_option linter.unusedVariables false
namespace Go.Proofs.YtfohinlldchdpaaGreatDoor.En
open Go.RowKit Go.Proofs.YtfohinlldchdpaaGreatDoor.Row Go.Proofs.YtfohinlldchdpaaGreatDoor.Rg

/-- A wave brought near. -/
def hdW (x : Nat → Int) (i : Nat) : Int := max (-1048576) (min (x i) 1048576)
theorem hd_bd (x : Nat → Int) (i : Nat) : -1048576 ≤ hdW x i ∧ hdW x i ≤ 1048576 := by unfold hdW; omega
theorem hd_ok (x : Nat → Int) {n : Nat} (h0 : 0 < n) (h8 : n ≤ 8) : Sh.okC (hdW x) n = true := (Sh.okC_iff _ _).2 ⟨h0, h8, fun i _ => hd_bd x i⟩
theorem fs_sm (c : Nat → Int) {n : Nat} (h0 : 0 < n) (k : Nat) : Ve.sm (Sh.fS c n k) n = k := by
  unfold Ve.sm
  rw [S_eq]
  have h := Sh.y_sum (u := Sh.sz c) (n := n) h0 k
  rw [← h]
  exact Sh.S_congr fun i _ => by rw [h]; exact Sh.f_abs _ _ _ _
theorem Keeps.of_below {A : Nat → Prop} {w w' : World} {n : Nat} (hA : ∀ k, A k → k < n) (h : Below n w w') : Keeps A w w' := fun k hk => h.block k (hA k hk)

set_option maxHeartbeats 400000 in
theorem pulses_as (a : Option Addr) (n c K : Nat) (x : Nat → Int) (w : World) (hS : Sl .i64 w a n c x) (h0 : 0 < n) (h8 : n ≤ 8) (hK : K ≤ 8) :
    Calls Tryz.prog 121 #[.slice a n c, .int .i64 K] w fun e w' => Lv.RetRow w w' e n (Sh.fS (hdW x) n K) := by
  obtain ⟨b, o, rfl, hc⟩ := hS.2.2 h0
  have F0 := Lib.hid (Lv.FillS.start w n (hdW x))
  have HC := Lib.hid hc
  have HOK := Lib.hid (hd_ok x h0 h8)
  clear hS hc
  go_enter Tryz.func121, Tryz.ntmps121
  go_wp2_with (at_make; refine wpList_make_rowL (hdW x) rfl _ _ rfl n _ _ rfl rfl (by omega) ?_)
  go_loopw [15] (fun i w' => ∃ k : Nat, k ≤ n ∧ i = .int .i64 k ∧ Hid (Lv.FillS w n (hdW x) k w')) (fun i _ => n - (intOf i).toNat)
  case atStart => exact ⟨0, Nat.zero_le _, rfl, F0⟩
  case round =>
    obtain ⟨k, hk, rfl, HS⟩ := hrel
    clear F0
    by_cases hlt : k < n
    · have c0 := (Below.cell HS.out.1 (block_lt_of_cell (HC.out k hlt))).trans (HC.out k hlt)
      have c1 := rowL_cell HS.out.2 k hlt
      have f1 := HS.out.2.frozen k
      have HV := Lib.hid (show hdW x k = max (-1048576) (min (x k) 1048576) from rfl)
      obtain ⟨y, hy⟩ : ∃ y, x k = y := ⟨_, rfl⟩
      rw [hy] at c0 HV
      obtain ⟨u, hu⟩ : ∃ u, min y 1048576 = u := ⟨_, rfl⟩
      have hmin : ∀ W, (Builtin.min_ #[3, 3] 3 #[.int .i64 y, .int .i64 1048576]).run Tryz.prog W = .ok (.int .i64 u) W := fun W => by
        rw [← hu]
        simp [Builtin.min_, Builtin.min2]
        split <;> omega
      rw [hu] at HV
      obtain ⟨v, hv⟩ : ∃ v, max (-1048576) u = v := ⟨_, rfl⟩
      have hmax : ∀ W, (Builtin.max_ #[3, 3] 3 #[.int .i64 (-1048576), .int .i64 u]).run Tryz.prog W = .ok (.int .i64 v) W := fun W => by
        rw [← hv]
        simp [Builtin.max_, Builtin.max2]
        split <;> omega
      rw [hv] at HV
      clear hy hu hv
      go_wp2_with fail
      go_roundw
      case rel => exact ⟨k + 1, by omega, by go_num, Lib.hid (by rw [← HV.out]; exact HS.out.put hlt)⟩
      case measure => simp [intOf]; omega
    · obtain rfl : k = n := by omega
      have HR := Lib.hid (show Sl .i64 wr (some ⟨w.heap.size, 0, none⟩) k k (hdW x) from ⟨Nat.le_refl _, by unfold maxLen; omega, fun _ => ⟨_, _, rfl, fun i hi => by rw [Nat.zero_add]; exact (isRow k (hdW x)).cell HS.out.2 i hi⟩⟩)
      have HF := Lib.hid (Sh.find_yes _ k k K (hdW x) wr HR.out HOK.out hK)
      go_wp2_with fail
      refine HF.out.mono ?_
      rintro e w1 ⟨g, U, rfl, hg, hU, hA, hb⟩
      have HZ := Lib.hid (show Lv.RetRow w w1 (.returned (.slice (some ⟨g, 0, none⟩) k k)) k (Sh.fS (hdW x) k K) from ⟨g, U, rfl, by have := HS.out.1.size; omega, hU, hA, below_trans HS.out.1 hb HS.out.1.size⟩)
      clear hg hU hA hb
      go_wp2_with fail
      go_ret
      exact HZ.out

set_option maxHeartbeats 400000 in
theorem putPulses_off (w0 w : World) (b size : Nat) (x : St) (A : Nat → Prop) (a : Option Addr) (n c K P : Nat) (u : Nat → Int) (hE : EncOff w0 b size x A w) (hx : x.ok) (hsz : size ≤ 4096) (hg : x.g ≤ 90000)
    (hS : Sl .i64 w a n c u) (h0 : 0 < n) (h8 : n ≤ 8) (hK : K ≤ 8) (hP : Ve.bI n K = P) (hP24 : P ≤ 24) (hI : Ve.num (Sh.fS (hdW u) n K) n K < 2 ^ P) :
    Calls Tryz.prog 78 #[.pointer (some ⟨b, 0, none⟩), .slice a n c, .int .i64 K] w fun e w' => e = .returned (.tuple #[]) ∧ EncOff w0 b size (x.run (bitsC 3 (Ve.num (Sh.fS (hdW u) n K) n K) P)) A w' ∧ Keeps A w w' := by
  have HU := Lib.hid (pulses_as a n c K u w hS h0 h8 hK)
  have HSM := Lib.hid (fs_sm (hdW u) h0 K)
  obtain ⟨f, hf⟩ : ∃ f, Sh.fS (hdW u) n K = f := ⟨_, rfl⟩
  rw [hf] at HU HSM hI ⊢
  have HPI := Lib.hid (show Ve.pI f n = K by unfold Ve.pI; rw [if_pos h8, HSM.out]; omega)
  have HFB := Lib.hid (show ∀ i, i < n → -9223372036854775808 ≤ f i ∧ f i ≤ 9223372036854775807 from fun i hi => by
    have := De.sm_at (f := f) hi
    rw [HSM.out] at this
    omega)
  obtain ⟨q, hq⟩ : ∃ q, Ve.num f n K = q := ⟨_, rfl⟩
  have HNU := Lib.hid (fun (g : Nat) w' (h : Sl .i64 w' (some ⟨g, 0, none⟩) n n f) => Ve.number_yes (some ⟨g, 0, none⟩) n n K f w' h HFB.out HPI.out hK)
  rw [hq] at HNU hI ⊢
  have HE := Lib.hid hE
  have HX := Lib.hid hx
  have HI := Lib.hid hI
  have HBI := Lib.hid hP
  clear hE hx hS hf hq hI hP
  go_enter Tryz.func78, Tryz.ntmps78
  go_wp2_with fail
  refine HU.out.mono ?_
  rintro e w1 ⟨g, U, rfl, hg1, hU1, hA1, hb1⟩
  have HB1 := Lib.hid hb1
  have HS1 := Lib.hid (show Sl .i64 w1 (some ⟨g, 0, none⟩) n n f from ⟨Nat.le_refl _, by unfold maxLen; omega, fun _ => ⟨_, _, rfl, fun i hi => by rw [Nat.zero_add]; exact hU1.cell hA1 i hi⟩⟩)
  clear hg1 hU1 hA1 hb1
  go_wp2_with fail
  refine (HNU.out g w1 HS1.out).mono ?_
  rintro e w2 ⟨rfl, hb2⟩
  have HB2 := Lib.hid (below_trans HB1.out hb2 HB1.out.size)
  clear hb2
  go_wp2_with fail
  refine (Ve.bits_as n K P _ HBI.out).mono ?_
  rintro e w3 ⟨rfl, hb3⟩
  have HB3 := Lib.hid (below_trans HB2.out hb3 HB2.out.size)
  clear hb3
  have HE3 := Lib.hid (HE.out.below HB3.out)
  have HK3 := Lib.hid (show Keeps A w w3 from by obtain ⟨_, _, _, _, h4⟩ := HE.out; exact Keeps.of_below h4 HB3.out)
  obtain ⟨T, t1, t2, t3, t4⟩ := HE3.out
  have HT := Lib.hid t1
  have HT2 := Lib.hid t2
  have HT3 := Lib.hid t3
  have HT4 := Lib.hid t4
  clear t1 t2 t3 t4
  go_wp2_with fail
  refine (encBits_as w3 b T size x q P HT.out HX.out hsz hg hP24 HI.out).mono ?_
  rintro e w4 ⟨rfl, h4⟩
  have HG := Lib.hid (EncOff.go HT2.out HT3.out HT4.out h4)
  clear h4
  go_wp2_with fail
  go_end0
  exact ⟨rfl, HG.out.1, HK3.out.trans HG.out.2⟩
end Go.Proofs.YtfohinlldchdpaaGreatDoor.En
end

section
/- Contract: enc's pack. -/
set_option maxRecDepth 100000
set_option linter.unusedVariables false
namespace Go.Proofs.YtfohinlldchdpaaGreatDoor.En
open Go.RowKit Go.Proofs.YtfohinlldchdpaaGreatDoor.Row Go.Proofs.YtfohinlldchdpaaGreatDoor.Rg

theorem lput_off (w0 w : World) (b : Nat) (size : Nat) (x : St) (A : Nat → Prop) (v : Int) (h : EncOff w0 b size x A w) (hx : x.ok) (hv : -24 ≤ v ∧ v ≤ 24) (hsz : size ≤ 4096) (hg : x.g ≤ 100000) :
    Calls Tryz.prog 74 #[.pointer (some ⟨b, 0, none⟩), .int .i64 v] w fun e w' => e = .returned (.int .i64 0) ∧ EncOff w0 b size (x.put (Lp.cl v)) A w' ∧ Keeps A w w' := by
  obtain ⟨T, h1, h2, h3, h4⟩ := h
  exact (Lp.lput_as w b T size x v h1 hx hv hsz hg).mono fun e w' ⟨he, hg⟩ => ⟨he, EncOff.go h2 h3 h4 hg⟩
theorem enter_used (args : Array Value) (w : World) : (callFunc 77 args).run Tryz.prog w = .ok (.enter 77 args) w := run_enter Tryz.func77 (by kernel_rfl) rfl args w
theorem enter_room (args : Array Value) (w : World) : (callFunc 76 args).run Tryz.prog w = .ok (.enter 76 args) w := run_enter Tryz.func76 (by kernel_rfl) rfl args w
theorem enter_spulses (args : Array Value) (w : World) : (callFunc 75 args).run Tryz.prog w = .ok (.enter 75 args) w := run_enter Tryz.func75 (by kernel_rfl) rfl args w
theorem asR {fn : FuncId} {args : Array Value} {R : Array Value} {h : Nat → Int} {k : Nat} {w : World} (H : Calls Tryz.prog fn args w (Sp.RetR k w h)) (hR : IsRow k h R) :
    Calls Tryz.prog fn args w fun e w' => e = .returned (.agg R) ∧ Below w.heap.size w w' := by
  refine H.mono ?_
  rintro e w' ⟨⟨R', rfl, hR'⟩, hb⟩
  obtain rfl := hR'.eq hR fun _ _ => rfl
  exact ⟨rfl, hb⟩

theorem EncOff.begin {w0 w w1 : World} {b size : Nat} {x : St} {A : Nat → Prop} (h0 : Below w0.heap.size w0 w) (h : EncOff w b size x A w1) : EncOff w0 b size x A w1 := by
  obtain ⟨T, h1, h2, h3, h4⟩ := h
  exact ⟨T, h1, fun k hk => ⟨Nat.le_trans h0.size (h2 k hk).1, (h2 k hk).2⟩, below_trans h0 h3 h0.size, h4⟩

/-- What stands while pack works: the two rows that came in, the coder, the levels' row. -/
def PkS (w : World) (TW TL : Array Value) (bc m bl : Nat) (V : Array Value) (x : St) (w' : World) : Prop :=
  EncOff w bc m x (fun k => k = w.heap.size ∨ k = w.heap.size + 1 ∨ k = bl) w' ∧ At w' w.heap.size TW 32 ∧ At w' (w.heap.size + 1) TL 23 ∧ At w' bl V 23
section
variable {w w1 w2 : World} {TW TL V : Array Value} {bc m bl : Nat} {x y : St}
theorem PkS.next (h : PkS w TW TL bc m bl V x w1) (hb : Below w1.heap.size w1 w2) : PkS w TW TL bc m bl V x w2 :=
  ⟨h.1.below hb, h.2.1.below hb h.2.1.lt, h.2.2.1.below hb h.2.2.1.lt, h.2.2.2.below hb h.2.2.2.lt⟩
theorem At.keeps {A : Nat → Prop} {b : Nat} {T : Array Value} {t : TypeId} (h : At w1 b T t) (hk : Keeps A w1 w2) (hA : A b) : At w2 b T t := (hk b hA).trans h
theorem PkS.go (h : PkS w TW TL bc m bl V x w1) (h2 : EncOff w bc m y (fun k => k = w.heap.size ∨ k = w.heap.size + 1 ∨ k = bl) w2) (hk : Keeps (fun k => k = w.heap.size ∨ k = w.heap.size + 1 ∨ k = bl) w1 w2) : PkS w TW TL bc m bl V y w2 :=
  ⟨h2, At.keeps h.2.1 hk (.inl rfl), At.keeps h.2.2.1 hk (.inr (.inl rfl)), At.keeps h.2.2.2 hk (.inr (.inr rfl))⟩
theorem PkS.tab (h : PkS w TW TL bc m bl V x w1) (hT : Lv.Tab w) : Lv.Tab w1 := hT.next h.1.out
end

set_option maxHeartbeats 2000000 in
theorem pack_as (TW TL : Array Value) (W L : Nat → Int) (m : Nat) (B : ByteArray) (w : World) (hW : IsRow 16 W TW) (hL : IsRow 4 L TL) (hok : Sp.okL L) (h10 : 10 ≤ m) (h32 : m ≤ 32) (hB : ⟨(pkE L (Lv.lvB W) W m).toArray⟩ = B) (hTab : Lv.Tab w) :
    Calls Tryz.prog 28 #[.agg TW, .agg TL, .int .i64 m] w fun e w' => e = .returned (.string B) ∧ Below w.heap.size w w' := by
  obtain ⟨_, _, _, _, hib⟩ := Sta.zero_b
  obtain ⟨Z4, hZ4, _, hz4, hi4⟩ := Sta.zero_4
  obtain ⟨l, hl⟩ : ∃ l, Lv.lvB W = l := ⟨_, rfl⟩
  have hlo : Sp.okL l := by rw [← hl]; exact fun i _ => by unfold Lv.lvB Lv.lv; omega
  have HLV := Lib.hid (fun w' hT => Lv.levels_any TW W w' hW hT)
  rw [hl] at HLV hB
  have HW := Lib.hid hW
  have HL := Lib.hid hL
  have HOK := Lib.hid hok
  have HLO := Lib.hid hlo
  have HB := Lib.hid hB
  have HTAB := Lib.hid hTab
  have HIB := Lib.hid hib
  have HI4 := Lib.hid hi4
  have HZ4 := Lib.hid hZ4.1
  have HT2 := Lib.hid (show Below w.heap.size w ((w.alloc (.cells TW 32)).alloc (.cells TL 23)) ∧ At ((w.alloc (.cells TW 32)).alloc (.cells TL 23)) w.heap.size TW 32 ∧ At ((w.alloc (.cells TW 32)).alloc (.cells TL 23)) (w.heap.size + 1) TL 23 from by
    have a1 := At.new (w.alloc (.cells TW 32)) TL 23
    simp only [World.size_alloc] at a1
    exact ⟨((Below.refl _ _).alloc (Nat.le_refl _) _).alloc (by simp) _, (At.new w TW 32).alloc _, a1⟩)
  clear hW hL hok hlo hB hTab hib hi4 hZ4 hl
  go_enter Tryz.func28, Tryz.ntmps28
  go_wp2_with fail
  revert HT2
  generalize World.alloc _ _ = W0
  intro HT2
  refine (newEnc_yes m W0 (by omega) (by omega)).mono ?_
  intro e W1 h
  obtain ⟨bc, rfl, hE⟩ := EncOn.new h
  clear h
  have HE := Lib.hid (En.EncOff.begin HT2.out.1 (EncOff.of hE (fun k => k = w.heap.size ∨ k = w.heap.size + 1) (fun k hk => by have := HT2.out.2.2.lt; omega)))
  have HT3 := Lib.hid (show At W1 w.heap.size TW 32 ∧ At W1 (w.heap.size + 1) TL 23 from by
    obtain ⟨_, _, _, hb⟩ := hE
    exact ⟨HT2.out.2.1.below hb HT2.out.2.1.lt, HT2.out.2.2.below hb HT2.out.2.2.lt⟩)
  clear hE HT2
  go_wp2_with (refine wpList_load_all (by rfl) 32 _ rfl w.heap.size rfl HW.out HT3.out.1 Tryz.underlying32 rfl HIB.out ?_)
  refine (HLV.out W1 (HTAB.out.next HE.out.out)).mono ?_
  rintro e W2 ⟨V, rfl, hV, hb⟩
  have HV := Lib.hid hV
  have HS0 := Lib.hid (show PkS w TW TL bc m W2.heap.size V St.new (W2.alloc (.cells V 23)) from by
    have hb2 : Below W1.heap.size W1 (W2.alloc (.cells V 23)) := hb.alloc hb.size _
    exact ⟨HE.out.add hb2 (fun k hk => by
      rcases hk with h | h | h
      · exact .inl (.inl h)
      · exact .inl (.inr h)
      · exact .inr (by subst h; exact ⟨hb.size, by simp⟩)), HT3.out.1.below hb2 HT3.out.1.lt, HT3.out.2.below hb2 HT3.out.2.lt, At.new _ _ _⟩)
  clear hV hb HE HT3
  go_wp2_with (first
    | (refine wpList_store_row rfl 23 _ _ rfl W2.heap.size V rfl rfl _ _ (heap_alloc_new _ _) (HI4.out _ HV.out.1) (by rw [HZ4.out, HV.out.1]) HV.out.2.1 ?_; rw [World.setRow_alloc_new]
       revert HS0
       generalize W2.heap.size = bl
       generalize World.alloc _ _ = W3
       intro HS0)
    | refine wpList_load_all (by rfl) 23 _ rfl bl rfl HV.out HS0.out.2.2.2 Tryz.underlying23 rfl HI4.out ?_)
  go_loopw [24] (fun i w' => ∃ k : Nat, k ≤ 4 ∧ i = .int .i64 k ∧ Hid (PkS w TW TL bc m bl V (xL L l k) w')) (fun i _ => 4 - (intOf i).toNat)
  case atStart => exact ⟨0, Nat.zero_le _, rfl, HS0⟩
  case round =>
    obtain ⟨k, hk, rfl, HS⟩ := hrel
    clear HS0
    by_cases hk4 : k < 4
    · have k1 : (k : Int) < 4 := by omega
      have k0 : (0 : Int) ≤ (k : Int) := by omega
      have hc := HV.out.2.2 k hk4
      have c1 := HL.out.cell HS.out.2.2.1 k hk4
      have hd := df_bd HOK.out HLO.out hk4
      have o1 := HOK.out k hk4
      have o2 := HLO.out k hk4
      have HX := Lib.hid (xL_ok HOK.out HLO.out k (by omega))
      have hg := xL_g HOK.out HLO.out k (by omega)
      have HN := Lib.hid (xL_next L l k)
      obtain ⟨lk, hlk⟩ : ∃ q, l k = q := ⟨_, rfl⟩
      obtain ⟨la, hla⟩ : ∃ q, L k = q := ⟨_, rfl⟩
      rw [hlk] at hc hd o2 HN
      rw [hla] at c1 hd o1 HN
      have hr := run_index Tryz.underlying23 hk4 hc
      have HP := Lib.hid (lput_off w wr bc m (xL L l k) _ (lk - la) HS.out.1 HX.out hd (by omega) (by omega))
      clear hc hlk hla hd
      go_wp2_with fail
      refine HP.out.mono ?_
      rintro e w1 ⟨rfl, hE, hK⟩
      have HS1 := Lib.hid (HS.out.go hE hK)
      clear hE hK HP HS
      go_wp2_with fail
      go_roundw
      case rel => exact ⟨k + 1, by omega, by go_num, by rw [HN.out]; exact HS1⟩
      case measure => simp [intOf]; omega
    · obtain rfl : k = 4 := by omega
      rw [show ((4 : Nat) : Int) = 4 from rfl]
      have HX4 := Lib.hid (xL_ok HOK.out HLO.out 4 (Nat.le_refl _))
      have hg4 := xL_g HOK.out HLO.out 4 (Nat.le_refl _)
      have hu0 := used_nonneg HX4.out
      have hu4 := fit_used HX4.out (xL_fit HOK.out HLO.out 4 (Nat.le_refl _)) (by omega)
      have HKE := Lib.hid (show Sp.given l (Sp.rm m (xL L l 4).used) = kE L l m from rfl)
      have HKL := Lib.hid (kE_le L l m)
      have HFT := Lib.hid (pkE_fits HOK.out HLO.out W h10 h32)
      have HXE := Lib.hid (show xW (xL L l 4) W (kE L l m) 4 = xE L l W m from rfl)
      have HPK := Lib.hid (show (xE L l W m).text m = pkE L l W m from rfl)
      have HXG := Lib.hid (fun b => xW_g HX4.out W (kE L l m) b)
      have HXO := Lib.hid (fun b => xW_ok HX4.out W (kE L l m) b)
      obtain ⟨x, hx⟩ : ∃ x, xL L l 4 = x := ⟨_, rfl⟩
      rw [hx] at HS HX4 hg4 hu0 hu4 HKE HXE HXG HXO
      obtain ⟨kk, hkk⟩ : ∃ q, kE L l m = q := ⟨_, rfl⟩
      rw [hkk] at HKE HKL HXE HXG HXO
      obtain ⟨us, hus⟩ : ∃ q, x.used = q := ⟨_, rfl⟩
      have HUS := Lib.hid hus
      rw [hus] at hu0 hu4 HKE
      obtain ⟨rm, hrm⟩ : ∃ q, Sp.rm m us = q := ⟨_, rfl⟩
      have HRM := Lib.hid (fun w => Sp.room_any m us w (by omega))
      have hrb : 0 ≤ rm ∧ rm ≤ 1048576 := by
        rw [← hrm]
        unfold Sp.rm
        split <;> omega
      rw [hrm] at HRM HKE
      obtain ⟨K, hK⟩ : ∃ K, IsRow 4 (fun i => (kk i : Int)) K := ⟨_, isRow _ _⟩
      have HPU := Lib.hid (fun w' hT => asR (Sp.pulses_yes V l rm w' HV.out HLO.out hrb.1 hrb.2 hT) (HKE.out ▸ hK))
      have HK := Lib.hid hK
      have hxr := HX4.out.2.1
      clear hx hkk hus hrm hK hk hk4
      go_wp2_with fail
      refine mv_startS (PkS w TW TL bc m bl V x) (HS.out.next (Below.refl _ _).drew) fun hS => ?_
      refine mv_yield (i := 0) (d := 36) (.agg V) rfl rfl (by kernel_rfl) (by kernel_rfl) (by kernel_rfl) hS (y_loadS (by rfl) rfl rfl (fun _ h => h.2.2.2) Tryz.underlying23 (HI4.out _ HV.out.1)) ?_
      simp only [Act.put, List.setIfInBounds_toArray, List.set_cons_zero, List.set_cons_succ]
      refine mv_yield (i := 1) (d := 37) (.int .i64 m) rfl rfl (by kernel_rfl) (by kernel_rfl) (by kernel_rfl) hS (y_run (by rfl) fun _ => by rfl) ?_
      simp only [Act.put, List.setIfInBounds_toArray, List.set_cons_zero, List.set_cons_succ]
      refine mv_yield (i := 2) (d := 38) (.pointer (some ⟨bc, 0, none⟩)) rfl rfl (by kernel_rfl) (by kernel_rfl) (by kernel_rfl) hS (y_run (by rfl) fun _ => by rfl) ?_
      simp only [Act.put, List.setIfInBounds_toArray, List.set_cons_zero, List.set_cons_succ]
      refine mv_yield (i := 6) (d := 42) (.int .i64 0) rfl rfl (by kernel_rfl) (by kernel_rfl) (by kernel_rfl) hS (y_run (by rfl) fun _ => by rfl) ?_
      simp only [Act.put, List.setIfInBounds_toArray, List.set_cons_zero, List.set_cons_succ]
      refine mv_ready [3] (by kernel_rfl) (by simp) (ar_callP (d := 39) #[.pointer (some ⟨bc, 0, none⟩)] rfl rfl (by rfl) rfl enter_used (by kernel_rfl) (used_off w _ bc m x _ us hS.1 (by omega) (by omega) HUS.out) (fun w' h => hS.next h.2) ?_ AllReadyH.nil)
      clear hS
      rintro w5 _ hS
      simp only [Act.put, List.setIfInBounds_toArray, List.set_cons_zero, List.set_cons_succ]
      refine mv_ready [4] (by kernel_rfl) (by simp) (ar_callP (d := 40) #[.int .i64 m, .int .i64 us] rfl rfl (by rfl) rfl enter_room (by kernel_rfl) (HRM.out _) (fun w' h => by rw [← h]; exact hS) ?_ AllReadyH.nil)
      clear hS
      rintro w6 _ hS
      simp only [Act.put, List.setIfInBounds_toArray, List.set_cons_zero, List.set_cons_succ]
      refine mv_ready [5] (by kernel_rfl) (by simp) (ar_callP (d := 41) #[.agg V, .int .i64 rm] rfl rfl (by rfl) rfl enter_spulses (by kernel_rfl) (HPU.out _ (hS.tab HTAB.out)) (fun w' h => hS.next h) ?_ AllReadyH.nil)
      clear hS
      rintro w7 _ hS
      simp only [Act.put, List.setIfInBounds_toArray, List.set_cons_zero, List.set_cons_succ]
      refine mv_done (by kernel_rfl) ?_
      have HS7 := Lib.hid (show PkS w TW TL bc m bl V (xW x W kk 0) w7 from hS)
      clear hS HS HPU HRM
      go_wp2_with fail
      go_loopw [42] (fun i w' => ∃ k : Nat, k ≤ 4 ∧ i = .int .i64 k ∧ Hid (PkS w TW TL bc m bl V (xW x W kk k) w')) (fun i _ => 4 - (intOf i).toNat)
      case atStart => exact ⟨0, Nat.zero_le _, rfl, HS7⟩
      case round =>
        obtain ⟨k, hk, rfl, HS⟩ := hrel
        clear HS7
        by_cases hk4 : k < 4
        · have k1 : (k : Int) < 4 := by omega
          have k0 : (0 : Int) ≤ (k : Int) := by omega
          have hc : K[k]? = some (.int .i64 (kk k : Int)) := HK.out.2.2 k hk4
          have hkl := HKL.out k
          have HXk := Lib.hid (HXO.out k)
          have hgk := HXG.out k
          have HN := Lib.hid (xW_next x W kk k)
          have hP24 := De.P_24 k hk4 (kk k) hkl
          have HIB2 := Lib.hid (iE_bits W hk4 hkl)
          have HBI := Lib.hid (show Ve.bI (Sp.sB k : Nat) (kk k : Nat) = Sp.P k (kk k) from rfl)
          obtain ⟨e1, e2, e3, e4⟩ := De.sB_fs k hk4
          have HBC := Lib.hid (show kk k ≠ 0 → bC W kk k = bitsC 3 (Ve.num (Sh.fS (hdW fun i => W (Lv.fs k + i)) (Sp.sB k) (kk k)) (Sp.sB k) (kk k)) (Sp.P k (kk k)) from fun h => by unfold bC; rw [if_neg h]; rfl)
          have HB0 := Lib.hid (show kk k = 0 → bC W kk k = [] from fun h => by unfold bC; rw [if_pos h])
          have HBN := Lib.hid (fun w' hT => Lv.band_some TW W (k : Int) (Lv.fs k) (Lv.fs (k + 1)) (Sp.sB k) w' HW.out hT (Lv.lo_nat k hk4) (Lv.hi_nat k hk4) e1.symm (by omega) e4)
          obtain ⟨q, hq⟩ : ∃ q, kk k = q := ⟨_, rfl⟩
          rw [hq] at hc hkl hP24 HIB2 HBI HBC HB0
          have hr := run_index Tryz.underlying23 hk4 hc
          clear hc hq
          by_cases hq0 : q = 0
          · subst hq0
            have HZ := Lib.hid (show xW x W kk (k + 1) = xW x W kk k by rw [HN.out, HB0.out rfl]; rfl)
            clear HN HB0 HBC
            go_wp2_with fail
            go_roundw
            case rel => exact ⟨k + 1, by omega, by go_num, by rw [HZ.out]; exact HS⟩
            case measure => simp [intOf]; omega
          · have hq1 : ((q : Int) == 0) = false := by rw [beq_eq_false_iff_ne]; omega
            have hq2 : ((q : Int) != 0) = true := by rw [bne, hq1]; rfl
            have HBK := Lib.hid (HBC.out hq0)
            clear HBC HB0
            go_wp2_with (refine wpList_load_all (by rfl) 32 _ rfl w.heap.size rfl HW.out HS.out.2.1 Tryz.underlying32 rfl HIB.out ?_)
            refine (HBN.out _ (HS.out.tab HTAB.out)).mono ?_
            rintro e w8 ⟨g, U, rfl, hg8, hU8, hA8, hb8⟩
            have HS8 := Lib.hid (HS.out.next hb8)
            have HSL := Lib.hid (show Sl .i64 w8 (some ⟨g, 0, none⟩) (Sp.sB k) (Sp.sB k) (fun i => W (Lv.fs k + i)) from ⟨Nat.le_refl _, by unfold maxLen; omega, fun _ => ⟨_, _, rfl, fun i hi => by rw [Nat.zero_add]; exact hU8.cell hA8 i hi⟩⟩)
            clear hg8 hU8 hA8 hb8 HS HBN
            go_wp2_with fail
            refine (putPulses_off w w8 bc m (xW x W kk k) _ (some ⟨g, 0, none⟩) (Sp.sB k) (Sp.sB k) q (Sp.P k q) (fun i => W (Lv.fs k + i)) HS8.out.1 HXk.out (by omega) (by omega) HSL.out (by omega) e3 hkl HBI.out hP24 HIB2.out).mono ?_
            rintro e w9 ⟨rfl, hE, hK⟩
            have HS9 := Lib.hid (HS8.out.go hE hK)
            clear hE hK HSL HS8
            go_wp2_with fail
            go_roundw
            case rel => exact ⟨k + 1, by omega, by go_num, by rw [HN.out, HBK.out]; exact HS9⟩
            case measure => simp [intOf]; omega
        · obtain rfl : k = 4 := by omega
          rw [HXE.out] at HS
          have HOUT := Lib.hid (show (⟨((xE L l W m).out m).toArray⟩ : ByteArray) = B by unfold St.out; rw [if_pos HFT.out, HPK.out]; exact HB.out)
          have HERR := Lib.hid (show (xE L l W m).err m = 0 by unfold St.err; rw [if_pos HFT.out])
          go_wp2_with fail
          refine (done_off w wr bc m _ _ B 0 HS.out.1 (by omega) HOUT.out HERR.out).mono ?_
          rintro e w9 ⟨rfl, hE, _⟩
          have HZ := Lib.hid hE.out
          clear hE
          go_wp2_with fail
          go_ret
          exact ⟨rfl, HZ.out⟩
end Go.Proofs.YtfohinlldchdpaaGreatDoor.En
end
