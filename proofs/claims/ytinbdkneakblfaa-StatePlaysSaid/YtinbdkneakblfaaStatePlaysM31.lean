/- Texts of the walk, one behind the other. -/
import Derived.Test.YtinbdkneakblfaaStatePlaysM30
import Derived.Laws.EntriesVeiled

section
/- Contracts: state.parse. -/
set_option maxRecDepth 100000
set_option linter.unusedVariables false
namespace Go.Proofs.Ytinbdkneakblfaa.Sta
open Go.RowKit Go.Proofs.Ytinbdkneakblfaa.Row

/-- What is left of a text. -/
def txt (l : List UInt8) (o : Nat) : ByteArray := ⟨(l.drop o).toArray⟩

theorem numberAt_as (l : List UInt8) (o : Nat) (x : Int) (b c : Nat) (w : World) (hA : At w b #[.string (txt l o)] 9) (hC : At w c #[.func (.func 34) #[] #[.pointer (some ⟨b, 0, none⟩)]] 64) (hl : l.length = 137) (ho : o + 4 ≤ 137)
    (hx : sgn (numAt l o) = x) :
    Calls Try.prog 35 #[.pointer (some ⟨c, 0, none⟩)] w fun e w' => e = .returned (.int .i64 x) ∧ w' = w.setCell ⟨b, 0, none⟩ (.string (txt l (o + 4))) := by
  refine (number_as (l.drop o) x b c w hA hC (by rw [List.length_drop]; omega) (by rw [List.length_drop]; omega) hx).mono ?_
  rintro e w1 ⟨rfl, rfl⟩
  refine ⟨rfl, ?_⟩
  unfold txt
  rw [List.drop_drop]
theorem takeAt_as (l : List UInt8) (o b : Nat) (c : UInt8) (w : World) (hA : At w b #[.string (txt l o)] 9) (hl : l.length = 137) (ho : o < 137) (hc : l[o]? = some c) :
    Calls Try.prog 34 #[.int .i64 1, .pointer (some ⟨b, 0, none⟩)] w fun e w' => e = .returned (.string ⟨#[c]⟩) ∧ w' = w.setCell ⟨b, 0, none⟩ (.string (txt l (o + 1))) := by
  refine (take_as (l.drop o) 1 b w hA (by rw [List.length_drop]; omega) (by rw [List.length_drop]; omega)).mono ?_
  rintro e w1 ⟨rfl, rfl⟩
  refine ⟨?_, ?_⟩
  · rw [List.take_one, List.head?_drop, hc]; rfl
  · unfold txt
    rw [List.drop_drop]

/-- The first p numbers that are read, the others 0. -/
def upto (l : List UInt8) (p j : Nat) : Int := if j < p then rdF l j else 0
theorem upto_next (l : List UInt8) (p j : Nat) : (if j = p then rdF l p else upto l p j) = upto l (p + 1) j := by
  unfold upto
  by_cases c : j = p
  · rw [if_pos c, if_pos (by omega), c]
  · rw [if_neg c]
    by_cases c2 : j < p
    · rw [if_pos c2, if_pos (by omega)]
    · rw [if_neg c2, if_neg (by omega)]

theorem up_set {l : List UInt8} {p : Nat} {x : Int} {T : Array Value} (hT : IsRow 38 (upto l p) T) (hp : p < 38) (hx : rdF l p = x) : IsRow 38 (upto l (p + 1)) (T.setIfInBounds p (.int .i64 x)) :=
  (hT.set x hp).ext fun j _ => by rw [← hx]; exact upto_next l p j
theorem byteAt_of {l : List UInt8} {o : Nat} {c : UInt8} (h : l[o]? = some c) : byteAt l o = (c.toNat : Int) := by
  unfold byteAt
  rw [List.getD_eq_getElem?_getD, h, Option.getD_some]

theorem one_text (c : UInt8) : ∃ t : ByteArray, (⟨#[c]⟩ : ByteArray) = t ∧ t.size = 1 ∧ ∃ h : 0 < t.size, (t[0]'h).toNat = c.toNat := ⟨_, rfl, rfl, by show 0 < 1; omega, rfl⟩

/-- What stands while a state is read. -/
def PaI (w : World) (l : List UInt8) (Z T : Array Value) (o : Nat) (w' : World) : Prop :=
  Below w.heap.size w w' ∧ At w' w.heap.size #[.string (txt l o)] 9 ∧ At w' (w.heap.size + 1) Z 32 ∧ At w' (w.heap.size + 1 + 1) T 32 ∧
    At w' (w.heap.size + 1 + 1 + 1) #[.func (.func 34) #[] #[.pointer (some ⟨w.heap.size, 0, none⟩)]] 64
theorem PaI.took {w w' : World} {l : List UInt8} {Z T : Array Value} {o : Nat} (h : PaI w l Z T o w') (o' : Nat) : PaI w l Z T o' (w'.setCell ⟨w.heap.size, 0, none⟩ (.string (txt l o'))) :=
  ⟨h.1.setCell (by dsimp only; omega) _, h.2.1.setCell, h.2.2.1.setCell_other (by dsimp only; omega), h.2.2.2.1.setCell_other (by dsimp only; omega), h.2.2.2.2.setCell_other (by dsimp only; omega)⟩
theorem PaI.put {w w' : World} {l : List UInt8} {Z T : Array Value} {o : Nat} (h : PaI w l Z T o w') (p : Nat) (v : Value) : PaI w l Z (T.setIfInBounds p v) o (w'.setCell ⟨w.heap.size + 1 + 1, p, none⟩ v) :=
  ⟨h.1.setCell (by dsimp only; omega) _, h.2.1.setCell_other (by dsimp only; omega), h.2.2.1.setCell_other (by dsimp only; omega), h.2.2.2.1.setCell, h.2.2.2.2.setCell_other (by dsimp only; omega)⟩
theorem PaI.start (w : World) (l : List UInt8) (Z : Array Value) : PaI w l Z Z 0 ((((w.alloc (.cells #[.string ⟨l.toArray⟩] 9)).alloc (.cells Z 32)).alloc (.cells Z 32)).alloc (.cells #[.func (.func 34) #[] #[.pointer (some ⟨w.heap.size, 0, none⟩)]] 64)) := by
  refine ⟨((((Below.refl _ _).alloc (Nat.le_refl _) _).alloc (by simp) _).alloc (by simp; omega) _).alloc (by simp; omega) _, ?_, ?_, ?_, ?_⟩
  · unfold txt
    rw [List.drop_zero]
    exact (((At.new _ _ _).alloc _).alloc _).alloc _
  · have := ((At.new (w.alloc (.cells #[.string ⟨l.toArray⟩] 9)) Z 32).alloc (.cells Z 32)).alloc (.cells #[.func (.func 34) #[] #[.pointer (some ⟨w.heap.size, 0, none⟩)]] 64)
    simpa using this
  · have := (At.new ((w.alloc (.cells #[.string ⟨l.toArray⟩] 9)).alloc (.cells Z 32)) Z 32).alloc (.cells #[.func (.func 34) #[] #[.pointer (some ⟨w.heap.size, 0, none⟩)]] 64)
    simpa using this
  · have := At.new (((w.alloc (.cells #[.string ⟨l.toArray⟩] 9)).alloc (.cells Z 32)).alloc (.cells Z 32)) #[.func (.func 34) #[] #[.pointer (some ⟨w.heap.size, 0, none⟩)]] 64
    simpa using this

set_option maxHeartbeats 1000000 in
theorem parse_as (l : List UInt8) (hl : l.length = 137) (w : World) :
    Calls Try.prog 23 #[.string ⟨l.toArray⟩] w fun e w' => (∃ T, e = .returned (.agg T) ∧ IsRow 38 (rdF l) T) ∧ Below w.heap.size w w' := by
  obtain ⟨Z, hZ, hZ0, hz, hi⟩ := zero_p
  have HI := Lib.hid hi
  have HL := Lib.hid hl
  have HZ := Lib.hid hZ.1
  have HS := Lib.hid (PaI.start w l Z)
  have HR := Lib.hid (hZ.ext fun k _ => show (0 : Int) = upto l 0 k by unfold upto; simp)
  have hmf : ∀ (fn : Fn) (first cap : Array Value) (w : World), (Instr.makeFunc fn first cap).run Try.prog w = .ok (.func fn first cap) w := fun _ _ _ _ => rfl
  obtain ⟨s, hs⟩ : ∃ s, (⟨l.toArray⟩ : ByteArray) = s := ⟨_, rfl⟩
  rw [hs] at HS
  rw [hs]
  clear hZ hZ0 hi hl hs
  go_enter Try.func23, Try.ntmps23
  go_wp2_with fail
  go_loopw [11] (fun i w' => ∃ (k : Nat) (T : Array Value), k ≤ 16 ∧ i = .int .i64 k ∧ Hid (PaI w l Z T (4 * k) w') ∧ Hid (IsRow 38 (upto l k) T)) (fun i _ => 16 - (intOf i).toNat)
  case atStart => exact ⟨0, Z, by omega, rfl, HS, HR⟩
  case round =>
    obtain ⟨k, T, hk, rfl, HW, HT⟩ := hrel
    clear HS HR hmf
    obtain ⟨x, hx⟩ : ∃ x, rdF l k = x := ⟨_, rfl⟩
    have HX := Lib.hid hx
    have HN := Lib.hid (show sgn (numAt l (4 * k)) = x by
      rw [← hx]
      unfold rdF
      by_cases c : k < 16
      · rw [stF_mem _ _ _ _ _ c]
      · obtain rfl : k = 16 := by omega
        rw [stF_last])
    have HW1 := Lib.hid (HW.out.took (4 * k + 4))
    have c2 := HT.out.cell HW1.out.2.2.2.1 k (by omega)
    have f2 := HW1.out.2.2.2.1.frozen k
    have HW2 := Lib.hid (HW1.out.put k (.int .i64 x))
    have HT2 := Lib.hid (up_set HT.out (show k < 38 by omega) hx)
    clear hx
    by_cases hlt : k < 16
    · have k1 : (k : Int) < 16 := by omega
      go_wp2_with fail
      refine (numberAt_as l (4 * k) x _ _ wr HW.out.2.1 HW.out.2.2.2.2 HL.out (by omega) HN.out).mono ?_
      rintro e w1 ⟨rfl, rfl⟩
      go_wp2_with fail
      go_roundw
      case rel => exact ⟨k + 1, _, by omega, by go_num, HW2, HT2⟩
      case measure => simp [intOf]; omega
    · obtain rfl : k = 16 := by omega
      go_wp2_with fail
      refine (numberAt_as l (4 * 16) x _ _ wr HW.out.2.1 HW.out.2.2.2.2 HL.out (by omega) HN.out).mono ?_
      rintro e w1 ⟨rfl, rfl⟩
      go_wp2_with fail
      clear HW HW1 HT c2 f2 HN HX
      go_loopw [23] (fun i w' => ∃ (k : Nat) (T : Array Value), k ≤ 4 ∧ i = .int .i64 k ∧ Hid (PaI w l Z T (68 + k) w') ∧ Hid (IsRow 38 (upto l (17 + k)) T)) (fun i _ => 4 - (intOf i).toNat)
      case atStart => exact ⟨0, _, by omega, rfl, HW2, HT2⟩
      case round =>
        obtain ⟨k, T', hk, rfl, HW, HT⟩ := hrel
        clear HW2 HT2
        by_cases hlt : k < 4
        · have k1 : (k : Int) < 4 := by omega
          obtain ⟨c, hc⟩ : ∃ c, l[68 + k]? = some c := ⟨l[68 + k]'(by rw [HL.out]; omega), List.getElem?_eq_getElem _⟩
          have hcb := c.toNat_lt
          have HC := Lib.hid hc
          have HW1 := Lib.hid (HW.out.took (68 + k + 1))
          have hx : rdF l (17 + k) = (c.toNat : Int) := by
            unfold rdF
            rw [stF_lev _ _ _ _ _ hlt, byteAt_of hc]
          have c2 := HT.out.cell HW1.out.2.2.2.1 (17 + k) (by omega)
          have f2 := HW1.out.2.2.2.1.frozen (17 + k)
          have HW2 := Lib.hid (HW1.out.put (17 + k) (.int .i64 (c.toNat : Int)))
          have HT2 := Lib.hid (up_set HT.out (show 17 + k < 38 by omega) hx)
          have c4 := cell_of_row _ _ 0 _ _ _ HW.out.2.2.2.2
          simp only [List.getElem?_toArray, List.getElem?_cons_zero] at c4
          clear hx hc
          go_wp2_with fail
          have CT := takeAt_as l (68 + k) _ c wr HW.out.2.1 HL.out (by omega) HC.out
          obtain ⟨t, ht, t1, t0, t2⟩ := one_text c
          rw [ht] at CT
          clear ht
          refine CT.mono ?_
          clear CT
          rintro e w1 ⟨rfl, rfl⟩
          go_wp2_with fail
          go_roundw
          case rel => exact ⟨k + 1, _, by omega, by go_num, by rw [show 68 + (k + 1) = 68 + k + 1 by omega]; exact HW2, HT2⟩
          case measure => simp [intOf]; omega
        · have e4 : k = 4 := by omega
          have hn4 : ¬ (k : Int) < 4 := by omega
          rw [e4] at HW HT
          clear e4 hk hlt
          go_wp2_with fail
          clear hn4
          go_loopw [34] (fun i w' => ∃ (k : Nat) (T : Array Value), k ≤ 16 ∧ i = .int .i64 k ∧ Hid (PaI w l Z T (72 + 4 * k) w') ∧ Hid (IsRow 38 (upto l (21 + k)) T)) (fun i _ => 16 - (intOf i).toNat)
          case atStart => exact ⟨0, _, by omega, rfl, HW, HT⟩
          case round =>
            clear HW HT
            obtain ⟨k, T, hk, rfl, HW, HT⟩ := hrel
            by_cases hlt : k < 16
            · have k1 : (k : Int) < 16 := by omega
              obtain ⟨x, hx⟩ : ∃ x, rdF l (21 + k) = x := ⟨_, rfl⟩
              have HN := Lib.hid (show sgn (numAt l (72 + 4 * k)) = x by
                rw [← hx]
                unfold rdF
                rw [stF_wav _ _ _ _ _ hlt])
              have HW1 := Lib.hid (HW.out.took (72 + 4 * k + 4))
              have c2 := HT.out.cell HW1.out.2.2.2.1 (21 + k) (by omega)
              have f2 := HW1.out.2.2.2.1.frozen (21 + k)
              have HW2 := Lib.hid (HW1.out.put (21 + k) (.int .i64 x))
              have HT2 := Lib.hid (up_set HT.out (show 21 + k < 38 by omega) hx)
              clear hx
              go_wp2_with fail
              refine (numberAt_as l (72 + 4 * k) x _ _ wr HW.out.2.1 HW.out.2.2.2.2 HL.out (by omega) HN.out).mono ?_
              rintro e w1 ⟨rfl, rfl⟩
              go_wp2_with fail
              go_roundw
              case rel => exact ⟨k + 1, _, by omega, by go_num, HW2, HT2⟩
              case measure => simp [intOf]; omega
            · obtain rfl : k = 16 := by omega
              obtain ⟨c, hc⟩ : ∃ c, l[136]? = some c := ⟨l[136]'(by rw [HL.out]; omega), List.getElem?_eq_getElem _⟩
              have hcb := c.toNat_lt
              have HC := Lib.hid hc
              have HW1 := Lib.hid (HW.out.took 137)
              have hx : rdF l 37 = (c.toNat : Int) := by
                unfold rdF
                rw [stF_lost, byteAt_of hc]
              have c2 := HT.out.cell HW1.out.2.2.2.1 37 (by omega)
              have f2 := HW1.out.2.2.2.1.frozen 37
              have HW2 := Lib.hid (HW1.out.put 37 (.int .i64 (c.toNat : Int)))
              have HT2 := Lib.hid (show IsRow 38 (rdF l) _ from (up_set HT.out (show 37 < 38 by omega) hx).ext fun j hj => by unfold upto; rw [if_pos hj])
              have c4 := cell_of_row _ _ 0 _ _ _ HW.out.2.2.2.2
              simp only [List.getElem?_toArray, List.getElem?_cons_zero] at c4
              clear hx hc
              obtain ⟨T2, hT2⟩ : ∃ T2, T.setIfInBounds 37 (.int .i64 (c.toNat : Int)) = T2 := ⟨_, rfl⟩
              rw [hT2] at HW2 HT2
              clear hT2
              go_wp2_with fail
              have CT := takeAt_as l 136 _ c wr HW.out.2.1 HL.out (by omega) HC.out
              obtain ⟨t, ht, t1, t0, t2⟩ := one_text c
              rw [ht] at CT
              clear ht
              refine CT.mono ?_
              clear CT
              rintro e w1 ⟨rfl, rfl⟩
              go_wp2_with (first
                | refine wpList_load_all (by rfl) 32 _ rfl (w.heap.size + 1 + 1) rfl HT2.out HW2.out.2.2.2.1 Try.underlying32 rfl HI.out ?_
                | refine wpList_store_row rfl 32 _ _ rfl (w.heap.size + 1) T2 rfl rfl _ _ HW2.out.2.2.1 (HI.out _ HT2.out.1) (by rw [HZ.out, HT2.out.1]) HT2.out.2.1 ?_)
              exact bodyPost_ret (v := .agg T2) (results_cell_row rfl _ _ (w.heap.size + 1) 32 T2 (0, 0) _ rfl HW2.out.2.2.1.setRow Try.underlying32 rfl (HI.out _ HT2.out.1)) rfl ⟨⟨T2, rfl, HT2.out⟩, below_setRow' HW2.out.1 (by omega) _⟩
end Go.Proofs.Ytinbdkneakblfaa.Sta
end
