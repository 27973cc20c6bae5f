/- Contracts of rang's used, with, shift (of a coder). -/
import Derived.Test.YtidbagkkkpfkbaaDoorRgA
import Derived.Test.YtidbagkkkpfkbaaDoorRgRep
import Derived.Lib.UnsafeStr
set_option maxRecDepth 100000
set_option linter.unusedVariables false
namespace Go.Proofs.YtidbagkkkpfkbaaDoor.Rg
open Go.RowKit Go.Proofs.YtidbagkkkpfkbaaDoor.Row

theorem length_as (x r : Int) (w : World) (h1 : -9223372036854775808 ≤ x) (h2 : x ≤ 9223372036854775807) (h : ((Lib.bitLen x.natAbs : Nat) : Int) = r) :
    Calls Tryd.prog 30 #[.int .i64 x] w fun e w' => e = .returned (.int .i64 r) ∧ w = w' := by
  subst h; exact Fix.length_any x w h1 h2

theorem used_as (b o : Nat) (r g : Nat) (u : Int) (w : World) (hr : w.cell? ⟨b, o, none⟩ = some (.int .u32 r)) (hg : w.cell? ⟨b, o + 1, none⟩ = some (.int .i64 g)) (r1 : r ≤ 4294967295) (g1 : g ≤ 1000000000)
    (h : 8 * (g : Int) + 32 - (Lib.bitLen r : Nat) = u) :
    Calls Tryd.prog 15 #[.pointer (some ⟨b, o, none⟩)] w fun e w' => e = .returned (.int .i64 u) ∧ Below w.heap.size w w' := by
  obtain ⟨l, hl⟩ : ∃ l : Nat, Lib.bitLen r = l := ⟨_, rfl⟩
  have l1 : l ≤ 32 := by rw [← hl]; exact Lib.bitLen_le r 32 (by omega) (by omega)
  have HL := Lib.hid (show ((Lib.bitLen (r : Int).natAbs : Nat) : Int) = (l : Int) by rw [Int.natAbs_natCast, hl])
  have HU := Lib.hid (show 8 * (g : Int) + 32 - (l : Int) = u by rw [← hl]; exact h)
  obtain ⟨R, hR⟩ : ∃ R : Int, (r : Int) = R := ⟨_, rfl⟩
  have R0 : 0 ≤ R := by omega
  have R1 : R ≤ 4294967295 := by omega
  rw [hR] at hr HL
  clear h hl hR
  go_enter Tryd.func15, Tryd.ntmps15
  go_wp2
  go_quiet ((go_at_call 30; exact Calls.quiet_of_same ((length_as R l _ (by omega) (by omega) HL.out).mono fun _ _ ⟨he, hw⟩ => ⟨he, hw.symm⟩)))
  go_wp2
  go_ret
  exact ⟨ret_int (by rw [← HU.out]), below_drewN (Below.refl _ _) _⟩

theorem with_as (r b x : Nat) (w : World) (h : withR r b = x) :
    Calls Tryd.prog 45 #[.int .i64 r, .int .u8 b] w fun e w' => e = .returned (.int .i64 x) ∧ w = w' := by
  subst h
  have hw := show withR r b = if r = 0 ∨ r = alone b then alone b else 3 from rfl
  rcases alone_cases b with ⟨rfl, h⟩ | ⟨rfl, h⟩ | ⟨h1, h2, h⟩
  · rw [h] at hw
    have H := Lib.hid hw
    clear h hw
    by_cases c : r = 0
    · subst c
      go_enter Tryd.func45, Tryd.ntmps45
      go_wp2
      go_ret
      exact ⟨by rw [H.out]; rfl, rfl⟩
    · have c1 : ((r : Int) == 0) = false := by rw [beq_eq_false_iff_ne]; omega
      by_cases d : r = 1
      · subst d
        go_enter Tryd.func45, Tryd.ntmps45
        go_wp2
        go_ret
        exact ⟨by rw [H.out]; rfl, rfl⟩
      · have d1 : ((r : Int) == 1) = false := by rw [beq_eq_false_iff_ne]; omega
        have C := Lib.hid c
        have D := Lib.hid d
        clear c d
        go_enter Tryd.func45, Tryd.ntmps45
        go_wp2
        go_ret
        exact ⟨by rw [H.out, if_neg (by have := C.out; have := D.out; omega)]; rfl, rfl⟩
  · rw [h] at hw
    have H := Lib.hid hw
    clear h hw
    by_cases c : r = 0
    · subst c
      go_enter Tryd.func45, Tryd.ntmps45
      go_wp2
      go_ret
      exact ⟨by rw [H.out]; rfl, rfl⟩
    · have c1 : ((r : Int) == 0) = false := by rw [beq_eq_false_iff_ne]; omega
      by_cases d : r = 2
      · subst d
        go_enter Tryd.func45, Tryd.ntmps45
        go_wp2
        go_ret
        exact ⟨by rw [H.out]; rfl, rfl⟩
      · have d1 : ((r : Int) == 2) = false := by rw [beq_eq_false_iff_ne]; omega
        have C := Lib.hid c
        have D := Lib.hid d
        clear c d
        go_enter Tryd.func45, Tryd.ntmps45
        go_wp2
        go_ret
        exact ⟨by rw [H.out, if_neg (by have := C.out; have := D.out; omega)]; rfl, rfl⟩
  · rw [h] at hw
    have e : withR r b = 3 := by rw [hw]; split <;> rfl
    have b1 : ((b : Int) == 0) = false := by rw [beq_eq_false_iff_ne]; omega
    have b2 : ((b : Int) == 255) = false := by rw [beq_eq_false_iff_ne]; omega
    have H := Lib.hid e
    clear h hw e h1 h2
    by_cases c : r = 0
    · subst c
      go_enter Tryd.func45, Tryd.ntmps45
      go_wp2
      go_ret
      exact ⟨by rw [H.out]; rfl, rfl⟩
    · have c1 : ((r : Int) == 0) = false := by rw [beq_eq_false_iff_ne]; omega
      clear c
      by_cases d : r = 3
      · subst d
        go_enter Tryd.func45, Tryd.ntmps45
        go_wp2
        go_ret
        exact ⟨by rw [H.out]; rfl, rfl⟩
      · have d1 : ((r : Int) == 3) = false := by rw [beq_eq_false_iff_ne]; omega
        clear d
        go_enter Tryd.func45, Tryd.ntmps45
        go_wp2
        go_ret
        exact ⟨by rw [H.out]; rfl, rfl⟩

/-- A coder's fields. -/
def encRow (size r g low rest : Nat) (a : Option Addr) (n c : Nat) : Array Value := #[.int .i64 size, .int .u32 r, .int .i64 g, .int .u32 low, .slice a n c, .int .i64 rest]
/-- A coder stands at block b: its fields, and its bytes, in T's blocks. -/
def EncMem (w : World) (b : Nat) (T : Nat → Prop) (size r g low : Nat) (bs : List UInt8) (rest : Nat) : Prop :=
  T b ∧ ∃ a c, At w b (encRow size r g low rest a bs.length c) 47 ∧ w.ownsRow 0 5 1 (.slice a bs.length c) bs.length (Lib.byteCells bs) ∧ ∀ k, (Value.slice a bs.length c).ownBlock = some k → T k ∧ k ≠ b
/-- What a call leaves: the coder with other fields, in the same blocks or new ones, and nothing else changed. -/
def EncTo (w : World) (b : Nat) (T : Nat → Prop) (size r g low : Nat) (bs : List UInt8) (rest : Nat) (w' : World) : Prop :=
  ∃ T' : Nat → Prop, EncMem w' b T' size r g low bs rest ∧ Fr T w w' ∧ ∀ k, T' k → T k ∨ w.heap.size ≤ k

theorem info_u8 : ∃ i, Tryd.prog.info? 5 = some i ∧ i.zero = some (.int .u8 0) ∧ i.size = 1 ∧ i.bytes = 1 := info_parts (by kernel_rfl)

/-- 'p = append(p, y)', one byte. -/
theorem wpList_append_byte {ops : Array Oper} {rest : List Oper} {o : Oper} {a : Act} {w : World} {Q : Exit → Act → World → Prop} (hgd : o.guard = none) (s x : Operand)
    (ho : o.op = .call { callee := .builtin .append, args := #[s, x], argTypes := #[44, 44] })
    (bs : List UInt8) (y : UInt8) (ao : Option Addr) (c : Nat) (hs : a.eval s = .slice ao bs.length c) (hown : w.ownsRow 0 5 1 (.slice ao bs.length c) bs.length (Lib.byteCells bs))
    (b : Nat) (hx : a.eval x = .slice (some ⟨b, 0, none⟩) 1 1) (hnew : w.cell? ⟨b, 0, none⟩ = some (.int .u8 y.toNat)) (hn : bs.length + 1 ≤ 1000000000)
    (h : ∀ g c' w', w'.ownsRow 0 5 1 (.slice (some ⟨g, 0, none⟩) (bs.length + 1) c') (bs.length + 1) (Lib.byteCells (bs ++ [y])) → w.grownBy w' (Value.slice ao bs.length c).ownBlock →
      ((Value.slice ao bs.length c).ownBlock = some g ∨ g = w.heap.size) → wpList Tryd.prog ops Q rest (a.put o.dst (.slice (some ⟨g, 0, none⟩) (bs.length + 1) c')) w') : wpList Tryd.prog ops Q (o :: rest) a w := by
  obtain ⟨i, hi, hz, hsz, hby⟩ := info_u8
  refine wpList_append_own_at w hgd s x 44 ho 0 5 i (.int .u8 0) 1 1 Tryd.underlying44 hi hz hsz hby rfl (by decide) (.slice ao bs.length c) bs.length (Lib.byteCells bs) hs hown ⟨b, 0, none⟩ 1 1 [.int .u8 y.toNat] hx rfl ?_ ?_ (by unfold maxLen; omega) (by omega) (Nat.zero_le _) ?_
  · intro j u hj
    match j, hj with
    | 0, hj => simp at hj; subst hj; simpa [Addr.add] using hnew
  · intro u hu; simp at hu; subst hu; rfl
  · intro v' w' hown' hg _ hat
    have e1 : Lib.byteCells bs ++ [.int .u8 y.toNat] = Lib.byteCells (bs ++ [y]) := by rw [Lib.byteCells_append]; rfl
    rw [e1] at hown'
    obtain ⟨_, h2⟩ := id hown'
    rcases h2 with ⟨_, h0⟩ | ⟨g, c', cur, rfl, _⟩
    · simp at h0
    · have hat' : (Value.slice ao bs.length c).ownBlock = some g ∨ g = w.heap.size := by
        rcases hat with e | e
        · exact .inl (e.symm.trans rfl)
        · exact .inr (by simpa [Value.ownBlock] using e)
      exact h g c' w' hown' hg hat'

theorem EncMem.start {w : World} {b size r g low rest : Nat} {T : Nat → Prop} {bs : List UInt8} (h : EncMem w b T size r g low bs rest) :
    ∃ a c, At w b (encRow size r g low rest a bs.length c) 47 ∧ w.ownsRow 0 5 1 (.slice a bs.length c) bs.length (Lib.byteCells bs) ∧ (∀ k, (Value.slice a bs.length c).ownBlock = some k → T k ∧ k ≠ b) ∧
      w.cell? ⟨b, 0, none⟩ = some (.int .i64 size) ∧ w.cell? ⟨b, 1, none⟩ = some (.int .u32 r) ∧ w.cell? ⟨b, 2, none⟩ = some (.int .i64 g) ∧ w.cell? ⟨b, 3, none⟩ = some (.int .u32 low) ∧
      w.cell? ⟨b, 4, none⟩ = some (.slice a bs.length c) ∧ w.cell? ⟨b, 5, none⟩ = some (.int .i64 rest) ∧ w.frozen? ⟨b, 3, none⟩ = false ∧ w.frozen? ⟨b, 4, none⟩ = false ∧ w.frozen? ⟨b, 5, none⟩ = false := by
  obtain ⟨_, a, c, hA, hO, hK⟩ := h
  exact ⟨a, c, hA, hO, hK, by rw [hA.cell]; rfl, by rw [hA.cell]; rfl, by rw [hA.cell]; rfl, by rw [hA.cell]; rfl, by rw [hA.cell]; rfl, by rw [hA.cell]; rfl, hA.frozen _, hA.frozen _, hA.frozen _⟩

theorem byte_nat {n : Nat} (h : n ≤ 255) : (UInt8.ofNat n).toNat = n := by
  rw [UInt8.toNat_ofNat']; omega
theorem new_byte (w : World) (x : Int) (y : UInt8) (h : (y.toNat : Int) = x) : (w.alloc (.cells #[.int .u8 x] 5)).cell? ⟨w.heap.size, 0, none⟩ = some (.int .u8 y.toNat) := by
  rw [(At.new w _ _).cell, h]; rfl

/-- Behind an append to the coder's bytes, and the store of the new slice and of low. -/
theorem EncMem.pushed {w w0 w1 : World} {b size r g low rest low' k c c' : Nat} {a : Option Addr} {T : Nat → Prop} {bs : List UInt8} {y : UInt8} (h : EncMem w b T size r g low bs rest)
    (hA : At w b (encRow size r g low rest a bs.length c) 47) (hK : ∀ k, (Value.slice a bs.length c).ownBlock = some k → T k ∧ k ≠ b) (h0 : Below w.heap.size w w0) (hg : w0.grownBy w1 (Value.slice a bs.length c).ownBlock)
    (ho : w1.ownsRow 0 5 1 (.slice (some ⟨k, 0, none⟩) (bs.length + 1) c') (bs.length + 1) (Lib.byteCells (bs ++ [y]))) (hk : (Value.slice a bs.length c).ownBlock = some k ∨ k = w0.heap.size) :
    At w1 b (encRow size r g low rest a bs.length c) 47 ∧
    EncTo w b T size r g low' (bs ++ [y]) rest ((w1.setCell ⟨b, 4, none⟩ (.slice (some ⟨k, 0, none⟩) (bs.length + 1) c')).setCell ⟨b, 3, none⟩ (.int .u32 low')) := by
  have hA0 := hA.below h0 hA.lt
  have hA1 : At w1 b (encRow size r g low rest a bs.length c) 47 := (hg.block b hA0.lt fun e => (hK b e.symm).2 rfl).trans hA0
  have hF : Fr T w w1 := (Fr.of_below h0).grown hg fun k hk => .inl (hK k hk).1
  have hkb : k ≠ b := by
    rcases hk with hk | hk
    · exact (hK k hk).2
    · have := hA0.lt; omega
  have el : (bs ++ [y]).length = bs.length + 1 := by simp
  rw [← el] at ho ⊢
  refine ⟨hA1, fun i => T i ∨ i = k, ⟨.inl h.1, some ⟨k, 0, none⟩, c', hA1.setCell.setCell, ?_, fun i hi => ?_⟩, (hF.setCell (.inl h.1) _).setCell (.inl h.1) _, fun i hi => ?_⟩
  · refine Fr.owns (T := Just b) ((Fr.refl _ _).setCell (.inl (Just.self b)) _ |>.setCell (.inl (Just.self b)) _) ho fun i hi e => ?_
    simp only [Value.ownBlock, Option.some.injEq] at hi
    exact hkb (hi.trans e)
  · simp only [Value.ownBlock, Option.some.injEq] at hi
    subst hi
    exact ⟨.inr rfl, hkb⟩
  · rcases hi with hi | rfl
    · exact .inl hi
    · rcases hk with hk | hk
      · exact .inl (hK _ hk).1
      · exact .inr (by have := h0.size; omega)

set_option maxHeartbeats 400000 in
theorem shift_room (w : World) (b : Nat) (T : Nat → Prop) (size r g low : Nat) (bs : List UInt8) (rest : Nat) (h : EncMem w b T size r g low bs rest) (hl : low ≤ 4294967295) (hs : size ≤ 4096) (hb : bs.length < size) :
    Calls Tryd.prog 29 #[.pointer (some ⟨b, 0, none⟩)] w fun e w' => e = .returned (.tuple #[]) ∧ EncTo w b T size r g (low * 256 % 4294967296) (bs ++ [UInt8.ofNat (low / 16777216)]) rest w' := by
  obtain ⟨a, c, hA, hO, hK, c0, c1, c2, c3, c4, c5, f3, f4, f5⟩ := h.start
  obtain ⟨L, hL⟩ : ∃ L : Int, (low : Int) = L := ⟨_, rfl⟩
  rw [hL] at c3
  have l0 : 0 ≤ L := by omega
  have l1 : L ≤ 4294967295 := by omega
  have HL := Lib.hid hL
  have HA := Lib.hid hA
  have HO := Lib.hid hO
  have HK := Lib.hid hK
  have H := Lib.hid h
  have hlt : (bs.length : Int) < (size : Int) := by omega
  have HY := Lib.hid (show ((UInt8.ofNat (low / 16777216)).toNat : Int) = L / 16777216 by rw [byte_nat (by omega), ← hL]; exact Int.natCast_ediv _ _)
  clear hA hO hK h hL c1 c2 c5 f5
  go_enter Tryd.func29, Tryd.ntmps29
  go_wp2
  go_quiet (fail)
  go_wp2_with (at_builtin; refine wpList_append_byte rfl _ _ rfl bs (UInt8.ofNat (low / 16777216)) a c rfl (owns_below HO.out ((below_drewN (Below.refl _ _) nq).alloc (Nat.le_refl _) _)) w.heap.size rfl (new_byte _ _ _ HY.out) (by omega) ?_)
  intro k c' w1 hown hgr hat
  have hp := H.out.pushed (low' := low * 256 % 4294967296) HA.out HK.out ((below_drewN (Below.refl _ _) nq).alloc (Nat.le_refl _) _) hgr hown (hat.imp_right fun e => e.trans (by simp))
  have d3 : w1.cell? ⟨b, 3, none⟩ = some (.int .u32 L) := by rw [hp.1.cell, ← HL.out]; rfl
  have d4 : w1.cell? ⟨b, 4, none⟩ = some (.slice a bs.length c) := by rw [hp.1.cell]; rfl
  have e4 := hp.1.frozen 4
  have e3 := hp.1.frozen 3
  have HP := Lib.hid hp.2
  clear hp hown hgr hat c0 c3 c4 f3 f4
  have HW := Lib.hid (show L * 256 % 4294967296 = ((low * 256 % 4294967296 : Nat) : Int) by rw [← HL.out]; rfl)
  go_wp2
  go_end0
  exact ⟨rfl, by rw [HW.out]; exact HP.out⟩

/-- Behind other numbers for low and for the rest. -/
theorem EncMem.told {w : World} {b size r g low rest low' rest' c : Nat} {a : Option Addr} {T : Nat → Prop} {bs : List UInt8} (h : EncMem w b T size r g low bs rest)
    (hA : At w b (encRow size r g low rest a bs.length c) 47) (hO : w.ownsRow 0 5 1 (.slice a bs.length c) bs.length (Lib.byteCells bs)) (hK : ∀ k, (Value.slice a bs.length c).ownBlock = some k → T k ∧ k ≠ b) {w0 : World} (h0 : Below w.heap.size w w0) :
    EncTo w b T size r g low' bs rest' ((w0.setCell ⟨b, 5, none⟩ (.int .i64 rest')).setCell ⟨b, 3, none⟩ (.int .u32 low')) := by
  have hA0 := hA.below h0 hA.lt
  refine ⟨T, ⟨h.1, a, c, hA0.setCell.setCell, ?_, hK⟩, ((Fr.of_below h0).setCell (.inl h.1) _).setCell (.inl h.1) _, fun i hi => .inl hi⟩
  exact Fr.owns (T := Just b) ((Fr.refl _ _).setCell (.inl (Just.self b)) _ |>.setCell (.inl (Just.self b)) _) (owns_below hO h0) fun i hi e => (hK i hi).2 e

set_option maxHeartbeats 400000 in
theorem shift_full (w : World) (b : Nat) (T : Nat → Prop) (size r g low : Nat) (bs : List UInt8) (rest : Nat) (h : EncMem w b T size r g low bs rest) (hl : low ≤ 4294967295) (hb : bs.length = size) :
    Calls Tryd.prog 29 #[.pointer (some ⟨b, 0, none⟩)] w fun e w' => e = .returned (.tuple #[]) ∧ EncTo w b T size r g (low * 256 % 4294967296) bs (withR rest (low / 16777216)) w' := by
  obtain ⟨a, c, hA, hO, hK, c0, c1, c2, c3, c4, c5, f3, f4, f5⟩ := h.start
  obtain ⟨L, hL⟩ : ∃ L : Int, (low : Int) = L := ⟨_, rfl⟩
  rw [hL] at c3
  have l0 : 0 ≤ L := by omega
  have l1 : L ≤ 4294967295 := by omega
  obtain ⟨y, hy⟩ : ∃ y : Nat, low / 16777216 = y := ⟨_, rfl⟩
  have y1 : y ≤ 255 := by omega
  have e1 : L / 16777216 = (y : Int) := by rw [← hL, ← hy]; exact Int.natCast_ediv _ _
  obtain ⟨x, hx⟩ : ∃ x, withR rest y = x := ⟨_, rfl⟩
  rw [hy, hx]
  have HX := Lib.hid hx
  have HW := Lib.hid (show L * 256 % 4294967296 = ((low * 256 % 4294967296 : Nat) : Int) by rw [← hL]; rfl)
  have HT := Lib.hid (fun w0 (h0 : Below w.heap.size w w0) => h.told (low' := low * 256 % 4294967296) (rest' := x) hA hO hK h0)
  have hlt : decide ((bs.length : Int) < (size : Int)) = false := by simp; omega
  clear hA hO hK h hL c1 c2 hx hy
  go_enter Tryd.func29, Tryd.ntmps29
  go_wp2
  go_quiet (fail)
  go_wp2_with (go_at_call 45; (with_reducible refine (with_as rest y x _ HX.out).mono ?_); rintro e w' ⟨rfl, rfl⟩)
  go_end0
  exact ⟨rfl, by have := HT.out _ (below_drewN (Below.refl _ _) nq); rw [HW.out]; exact this⟩

theorem shift_as (w : World) (b : Nat) (T : Nat → Prop) (size r g low : Nat) (bs : List UInt8) (rest low' : Nat) (bs' : List UInt8) (rest' : Nat) (h : EncMem w b T size r g low bs rest) (hl : low ≤ 4294967295) (hs : size ≤ 4096) (hb : bs.length ≤ size)
    (e1 : low * 256 % 4294967296 = low') (e2 : (if bs.length < size then bs ++ [UInt8.ofNat (low / 16777216)] else bs) = bs') (e3 : (if bs.length < size then rest else withR rest (low / 16777216)) = rest') :
    Calls Tryd.prog 29 #[.pointer (some ⟨b, 0, none⟩)] w fun e w' => e = .returned (.tuple #[]) ∧ EncTo w b T size r g low' bs' rest' w' := by
  subst e1 e2 e3
  by_cases hc : bs.length < size
  · rw [if_pos hc, if_pos hc]
    exact shift_room w b T size r g low bs rest h hl hs hc
  · rw [if_neg hc, if_neg hc]
    exact shift_full w b T size r g low bs rest h hl (by omega)
end Go.Proofs.YtidbagkkkpfkbaaDoor.Rg
