/- Texts of the walk, one behind the other. -/
import Derived.Test.YtfohinlldchdpaaGreatDoorEncPlaysM17
import Derived.Test.YtfohinlldchdpaaGreatDoorEncPlaysM11
import Derived.Lib.UnsafeStr

section
/- Contracts of rang's used, with, shift (of a coder). -/
set_option maxRecDepth 100000
set_option linter.unusedVariables false
namespace Go.Proofs.YtfohinlldchdpaaGreatDoor.Rg
open Go.RowKit Go.Proofs.YtfohinlldchdpaaGreatDoor.Row

theorem with_as (r b x : Nat) (w : World) (h : withR r b = x) :
    Calls Tryz.prog 196 #[.int .i64 r, .int .u8 b] w fun e w' => e = .returned (.int .i64 x) ∧ w = w' := by
  subst h
  have hw := show withR r b = if r = 0 ∨ r = alone b then alone b else 3 from rfl
  rcases alone_cases b with ⟨rfl, h⟩ | ⟨rfl, h⟩ | ⟨h1, h2, h⟩
  · rw [h] at hw
    have H := Lib.hid hw
    clear h hw
    by_cases c : r = 0
    · subst c
      go_enter Tryz.func196, Tryz.ntmps196
      go_wp2
      go_ret
      exact ⟨by rw [H.out]; rfl, rfl⟩
    · have c1 : ((r : Int) == 0) = false := by rw [beq_eq_false_iff_ne]; omega
      by_cases d : r = 1
      · subst d
        go_enter Tryz.func196, Tryz.ntmps196
        go_wp2
        go_ret
        exact ⟨by rw [H.out]; rfl, rfl⟩
      · have d1 : ((r : Int) == 1) = false := by rw [beq_eq_false_iff_ne]; omega
        have C := Lib.hid c
        have D := Lib.hid d
        clear c d
        go_enter Tryz.func196, Tryz.ntmps196
        go_wp2
        go_ret
        exact ⟨by rw [H.out, if_neg (by have := C.out; have := D.out; omega)]; rfl, rfl⟩
  · rw [h] at hw
    have H := Lib.hid hw
    clear h hw
    by_cases c : r = 0
    · subst c
      go_enter Tryz.func196, Tryz.ntmps196
      go_wp2
      go_ret
      exact ⟨by rw [H.out]; rfl, rfl⟩
    · have c1 : ((r : Int) == 0) = false := by rw [beq_eq_false_iff_ne]; omega
      by_cases d : r = 2
      · subst d
        go_enter Tryz.func196, Tryz.ntmps196
        go_wp2
        go_ret
        exact ⟨by rw [H.out]; rfl, rfl⟩
      · have d1 : ((r : Int) == 2) = false := by rw [beq_eq_false_iff_ne]; omega
        have C := Lib.hid c
        have D := Lib.hid d
        clear c d
        go_enter Tryz.func196, Tryz.ntmps196
        go_wp2
        go_ret
        exact ⟨by rw [H.out, if_neg (by have := C.out; have := D.out; omega)]; rfl, rfl⟩
  · rw [h] at hw
    have e : withR r b = 3 := by rw [hw]; split <;> rfl
    have b1 : ((b : Int) == 0) = false := by rw [beq_eq_false_iff_ne]; omega
    have b2 : ((b : Int) == 255) = false := by rw [beq_eq_false_iff_ne]; omega
    have H := Lib.hid e
    clear h hw e h1 h2
    by_cases c : r = 0
    · subst c
      go_enter Tryz.func196, Tryz.ntmps196
      go_wp2
      go_ret
      exact ⟨by rw [H.out]; rfl, rfl⟩
    · have c1 : ((r : Int) == 0) = false := by rw [beq_eq_false_iff_ne]; omega
      clear c
      by_cases d : r = 3
      · subst d
        go_enter Tryz.func196, Tryz.ntmps196
        go_wp2
        go_ret
        exact ⟨by rw [H.out]; rfl, rfl⟩
      · have d1 : ((r : Int) == 3) = false := by rw [beq_eq_false_iff_ne]; omega
        clear d
        go_enter Tryz.func196, Tryz.ntmps196
        go_wp2
        go_ret
        exact ⟨by rw [H.out]; rfl, rfl⟩

/-- A coder's fields. -/
def encRow (size r g low rest : Nat) (a : Option Addr) (n c : Nat) : Array Value := #[.int .i64 size, .int .u32 r, .int .i64 g, .int .u32 low, .slice a n c, .int .i64 rest]
/-- A coder stands at block b: its fields, and its bytes, in T's blocks. -/
def EncMem (w : World) (b : Nat) (T : Nat → Prop) (size r g low : Nat) (bs : List UInt8) (rest : Nat) : Prop :=
  T b ∧ ∃ a c, At w b (encRow size r g low rest a bs.length c) 152 ∧ w.ownsRow 0 5 1 (.slice a bs.length c) bs.length (Lib.byteCells bs) ∧ ∀ k, (Value.slice a bs.length c).ownBlock = some k → T k ∧ k ≠ b
/-- What a call leaves: the coder with other fields, in the same blocks or new ones, and nothing else changed. -/
def EncTo (w : World) (b : Nat) (T : Nat → Prop) (size r g low : Nat) (bs : List UInt8) (rest : Nat) (w' : World) : Prop :=
  ∃ T' : Nat → Prop, EncMem w' b T' size r g low bs rest ∧ Fr T w w' ∧ ∀ k, T' k → T k ∨ w.heap.size ≤ k

theorem info_u8 : ∃ i, Tryz.prog.info? 5 = some i ∧ i.zero = some (.int .u8 0) ∧ i.size = 1 ∧ i.bytes = 1 := info_parts (by kernel_rfl)

/-- 'p = append(p, y)', one byte. -/
theorem wpList_append_byte {ops : Array Oper} {rest : List Oper} {o : Oper} {a : Act} {w : World} {Q : Exit → Act → World → Prop} (hgd : o.guard = none) (s x : Operand)
    (ho : o.op = .call { callee := .builtin .append, args := #[s, x], argTypes := #[139, 139] })
    (bs : List UInt8) (y : UInt8) (ao : Option Addr) (c : Nat) (hs : a.eval s = .slice ao bs.length c) (hown : w.ownsRow 0 5 1 (.slice ao bs.length c) bs.length (Lib.byteCells bs))
    (b : Nat) (hx : a.eval x = .slice (some ⟨b, 0, none⟩) 1 1) (hnew : w.cell? ⟨b, 0, none⟩ = some (.int .u8 y.toNat)) (hn : bs.length + 1 ≤ 1000000000)
    (h : ∀ g c' w', w'.ownsRow 0 5 1 (.slice (some ⟨g, 0, none⟩) (bs.length + 1) c') (bs.length + 1) (Lib.byteCells (bs ++ [y])) → w.grownBy w' (Value.slice ao bs.length c).ownBlock →
      ((Value.slice ao bs.length c).ownBlock = some g ∨ g = w.heap.size) → wpList Tryz.prog ops Q rest (a.put o.dst (.slice (some ⟨g, 0, none⟩) (bs.length + 1) c')) w') : wpList Tryz.prog ops Q (o :: rest) a w := by
  obtain ⟨i, hi, hz, hsz, hby⟩ := info_u8
  refine wpList_append_own_at w hgd s x 139 ho 0 5 i (.int .u8 0) 1 1 Tryz.underlying139 hi hz hsz hby rfl (by decide) (.slice ao bs.length c) bs.length (Lib.byteCells bs) hs hown ⟨b, 0, none⟩ 1 1 [.int .u8 y.toNat] hx rfl ?_ ?_ (by unfold maxLen; omega) (by omega) (Nat.zero_le _) ?_
  · intro j u hj
    match j, hj with
    | 0, hj => simp at hj; subst hj; simpa [Addr.add] using hnew
  · intro u hu; simp at hu; subst hu; rfl
  · intro v' w' hown' hg _ hat
    have e1 : Lib.byteCells bs ++ [.int .u8 y.toNat] = Lib.byteCells (bs ++ [y]) := by rw [Lib.byteCells_append]; rfl
    rw [e1] at hown'
    obtain ⟨_, h2⟩ := id hown'
    rcases h2 with ⟨_, h0⟩ | ⟨g, c', cur, rfl, _⟩
    · simp at h0
    · have hat' : (Value.slice ao bs.length c).ownBlock = some g ∨ g = w.heap.size := by
        rcases hat with e | e
        · exact .inl (e.symm.trans rfl)
        · exact .inr (by simpa [Value.ownBlock] using e)
      exact h g c' w' hown' hg hat'

theorem EncMem.start {w : World} {b size r g low rest : Nat} {T : Nat → Prop} {bs : List UInt8} (h : EncMem w b T size r g low bs rest) :
    ∃ a c, At w b (encRow size r g low rest a bs.length c) 152 ∧ w.ownsRow 0 5 1 (.slice a bs.length c) bs.length (Lib.byteCells bs) ∧ (∀ k, (Value.slice a bs.length c).ownBlock = some k → T k ∧ k ≠ b) ∧
      w.cell? ⟨b, 0, none⟩ = some (.int .i64 size) ∧ w.cell? ⟨b, 1, none⟩ = some (.int .u32 r) ∧ w.cell? ⟨b, 2, none⟩ = some (.int .i64 g) ∧ w.cell? ⟨b, 3, none⟩ = some (.int .u32 low) ∧
      w.cell? ⟨b, 4, none⟩ = some (.slice a bs.length c) ∧ w.cell? ⟨b, 5, none⟩ = some (.int .i64 rest) ∧ w.frozen? ⟨b, 3, none⟩ = false ∧ w.frozen? ⟨b, 4, none⟩ = false ∧ w.frozen? ⟨b, 5, none⟩ = false := by
  obtain ⟨_, a, c, hA, hO, hK⟩ := h
  exact ⟨a, c, hA, hO, hK, by rw [hA.cell]; rfl, by rw [hA.cell]; rfl, by rw [hA.cell]; rfl, by rw [hA.cell]; rfl, by rw [hA.cell]; rfl, by rw [hA.cell]; rfl, hA.frozen _, hA.frozen _, hA.frozen _⟩

theorem byte_nat {n : Nat} (h : n ≤ 255) : (UInt8.ofNat n).toNat = n := by
  rw [UInt8.toNat_ofNat']; omega
theorem new_byte (w : World) (x : Int) (y : UInt8) (h : (y.toNat : Int) = x) : (w.alloc (.cells #[.int .u8 x] 5)).cell? ⟨w.heap.size, 0, none⟩ = some (.int .u8 y.toNat) := by
  rw [(At.new w _ _).cell, h]; rfl

/-- Behind an append to the coder's bytes, and the store of the new slice and of low. -/
theorem EncMem.pushed {w w0 w1 : World} {b size r g low rest low' k c c' : Nat} {a : Option Addr} {T : Nat → Prop} {bs : List UInt8} {y : UInt8} (h : EncMem w b T size r g low bs rest)
    (hA : At w b (encRow size r g low rest a bs.length c) 152) (hK : ∀ k, (Value.slice a bs.length c).ownBlock = some k → T k ∧ k ≠ b) (h0 : Below w.heap.size w w0) (hg : w0.grownBy w1 (Value.slice a bs.length c).ownBlock)
    (ho : w1.ownsRow 0 5 1 (.slice (some ⟨k, 0, none⟩) (bs.length + 1) c') (bs.length + 1) (Lib.byteCells (bs ++ [y]))) (hk : (Value.slice a bs.length c).ownBlock = some k ∨ k = w0.heap.size) :
    At w1 b (encRow size r g low rest a bs.length c) 152 ∧
    EncTo w b T size r g low' (bs ++ [y]) rest ((w1.setCell ⟨b, 4, none⟩ (.slice (some ⟨k, 0, none⟩) (bs.length + 1) c')).setCell ⟨b, 3, none⟩ (.int .u32 low')) := by
  have hA0 := hA.below h0 hA.lt
  have hA1 : At w1 b (encRow size r g low rest a bs.length c) 152 := (hg.block b hA0.lt fun e => (hK b e.symm).2 rfl).trans hA0
  have hF : Fr T w w1 := (Fr.of_below h0).grown hg fun k hk => .inl (hK k hk).1
  have hkb : k ≠ b := by
    rcases hk with hk | hk
    · exact (hK k hk).2
    · have := hA0.lt; omega
  have el : (bs ++ [y]).length = bs.length + 1 := by simp
  rw [← el] at ho ⊢
  refine ⟨hA1, fun i => T i ∨ i = k, ⟨.inl h.1, some ⟨k, 0, none⟩, c', hA1.setCell.setCell, ?_, fun i hi => ?_⟩, (hF.setCell (.inl h.1) _).setCell (.inl h.1) _, fun i hi => ?_⟩
  · refine Fr.owns (T := Just b) ((Fr.refl _ _).setCell (.inl (Just.self b)) _ |>.setCell (.inl (Just.self b)) _) ho fun i hi e => ?_
    simp only [Value.ownBlock, Option.some.injEq] at hi
    exact hkb (hi.trans e)
  · simp only [Value.ownBlock, Option.some.injEq] at hi
    subst hi
    exact ⟨.inr rfl, hkb⟩
  · rcases hi with hi | rfl
    · exact .inl hi
    · rcases hk with hk | hk
      · exact .inl (hK _ hk).1
      · exact .inr (by have := h0.size; omega)

set_option maxHeartbeats 400000 in
theorem shift_room (w : World) (b : Nat) (T : Nat → Prop) (size r g low : Nat) (bs : List UInt8) (rest : Nat) (h : EncMem w b T size r g low bs rest) (hl : low ≤ 4294967295) (hs : size ≤ 4096) (hb : bs.length < size) :
    Calls Tryz.prog 163 #[.pointer (some ⟨b, 0, none⟩)] w fun e w' => e = .returned (.tuple #[]) ∧ EncTo w b T size r g (low * 256 % 4294967296) (bs ++ [UInt8.ofNat (low / 16777216)]) rest w' := by
  obtain ⟨a, c, hA, hO, hK, c0, c1, c2, c3, c4, c5, f3, f4, f5⟩ := h.start
  obtain ⟨L, hL⟩ : ∃ L : Int, (low : Int) = L := ⟨_, rfl⟩
  rw [hL] at c3
  have l0 : 0 ≤ L := by omega
  have l1 : L ≤ 4294967295 := by omega
  have HL := Lib.hid hL
  have HA := Lib.hid hA
  have HO := Lib.hid hO
  have HK := Lib.hid hK
  have H := Lib.hid h
  have hlt : (bs.length : Int) < (size : Int) := by omega
  have HY := Lib.hid (show ((UInt8.ofNat (low / 16777216)).toNat : Int) = L / 16777216 by rw [byte_nat (by omega), ← hL]; exact Int.natCast_ediv _ _)
  clear hA hO hK h hL c1 c2 c5 f5
  go_enter Tryz.func163, Tryz.ntmps163
  go_wp2
  go_quiet (fail)
  go_wp2_with (at_builtin; refine wpList_append_byte rfl _ _ rfl bs (UInt8.ofNat (low / 16777216)) a c rfl (owns_below HO.out ((below_drewN (Below.refl _ _) nq).alloc (Nat.le_refl _) _)) w.heap.size rfl (new_byte _ _ _ HY.out) (by omega) ?_)
  intro k c' w1 hown hgr hat
  have hp := H.out.pushed (low' := low * 256 % 4294967296) HA.out HK.out ((below_drewN (Below.refl _ _) nq).alloc (Nat.le_refl _) _) hgr hown (hat.imp_right fun e => e.trans (by simp))
  have d3 : w1.cell? ⟨b, 3, none⟩ = some (.int .u32 L) := by rw [hp.1.cell, ← HL.out]; rfl
  have d4 : w1.cell? ⟨b, 4, none⟩ = some (.slice a bs.length c) := by rw [hp.1.cell]; rfl
  have e4 := hp.1.frozen 4
  have e3 := hp.1.frozen 3
  have HP := Lib.hid hp.2
  clear hp hown hgr hat c0 c3 c4 f3 f4
  have HW := Lib.hid (show L * 256 % 4294967296 = ((low * 256 % 4294967296 : Nat) : Int) by rw [← HL.out]; rfl)
  go_wp2
  go_end0
  exact ⟨rfl, by rw [HW.out]; exact HP.out⟩

/-- Behind other numbers for low and for the rest. -/
theorem EncMem.told {w : World} {b size r g low rest low' rest' c : Nat} {a : Option Addr} {T : Nat → Prop} {bs : List UInt8} (h : EncMem w b T size r g low bs rest)
    (hA : At w b (encRow size r g low rest a bs.length c) 152) (hO : w.ownsRow 0 5 1 (.slice a bs.length c) bs.length (Lib.byteCells bs)) (hK : ∀ k, (Value.slice a bs.length c).ownBlock = some k → T k ∧ k ≠ b) {w0 : World} (h0 : Below w.heap.size w w0) :
    EncTo w b T size r g low' bs rest' ((w0.setCell ⟨b, 5, none⟩ (.int .i64 rest')).setCell ⟨b, 3, none⟩ (.int .u32 low')) := by
  have hA0 := hA.below h0 hA.lt
  refine ⟨T, ⟨h.1, a, c, hA0.setCell.setCell, ?_, hK⟩, ((Fr.of_below h0).setCell (.inl h.1) _).setCell (.inl h.1) _, fun i hi => .inl hi⟩
  exact Fr.owns (T := Just b) ((Fr.refl _ _).setCell (.inl (Just.self b)) _ |>.setCell (.inl (Just.self b)) _) (owns_below hO h0) fun i hi e => (hK i hi).2 e

set_option maxHeartbeats 400000 in
theorem shift_full (w : World) (b : Nat) (T : Nat → Prop) (size r g low : Nat) (bs : List UInt8) (rest : Nat) (h : EncMem w b T size r g low bs rest) (hl : low ≤ 4294967295) (hb : bs.length = size) :
    Calls Tryz.prog 163 #[.pointer (some ⟨b, 0, none⟩)] w fun e w' => e = .returned (.tuple #[]) ∧ EncTo w b T size r g (low * 256 % 4294967296) bs (withR rest (low / 16777216)) w' := by
  obtain ⟨a, c, hA, hO, hK, c0, c1, c2, c3, c4, c5, f3, f4, f5⟩ := h.start
  obtain ⟨L, hL⟩ : ∃ L : Int, (low : Int) = L := ⟨_, rfl⟩
  rw [hL] at c3
  have l0 : 0 ≤ L := by omega
  have l1 : L ≤ 4294967295 := by omega
  obtain ⟨y, hy⟩ : ∃ y : Nat, low / 16777216 = y := ⟨_, rfl⟩
  have y1 : y ≤ 255 := by omega
  have e1 : L / 16777216 = (y : Int) := by rw [← hL, ← hy]; exact Int.natCast_ediv _ _
  obtain ⟨x, hx⟩ : ∃ x, withR rest y = x := ⟨_, rfl⟩
  rw [hy, hx]
  have HX := Lib.hid hx
  have HW := Lib.hid (show L * 256 % 4294967296 = ((low * 256 % 4294967296 : Nat) : Int) by rw [← hL]; rfl)
  have HT := Lib.hid (fun w0 (h0 : Below w.heap.size w w0) => h.told (low' := low * 256 % 4294967296) (rest' := x) hA hO hK h0)
  have hlt : decide ((bs.length : Int) < (size : Int)) = false := by simp; omega
  clear hA hO hK h hL c1 c2 hx hy
  go_enter Tryz.func163, Tryz.ntmps163
  go_wp2
  go_quiet (fail)
  go_wp2_with (go_at_call 196; (with_reducible refine (with_as rest y x _ HX.out).mono ?_); rintro e w' ⟨rfl, rfl⟩)
  go_end0
  exact ⟨rfl, by have := HT.out _ (below_drewN (Below.refl _ _) nq); rw [HW.out]; exact this⟩

theorem shift_as (w : World) (b : Nat) (T : Nat → Prop) (size r g low : Nat) (bs : List UInt8) (rest low' : Nat) (bs' : List UInt8) (rest' : Nat) (h : EncMem w b T size r g low bs rest) (hl : low ≤ 4294967295) (hs : size ≤ 4096) (hb : bs.length ≤ size)
    (e1 : low * 256 % 4294967296 = low') (e2 : (if bs.length < size then bs ++ [UInt8.ofNat (low / 16777216)] else bs) = bs') (e3 : (if bs.length < size then rest else withR rest (low / 16777216)) = rest') :
    Calls Tryz.prog 163 #[.pointer (some ⟨b, 0, none⟩)] w fun e w' => e = .returned (.tuple #[]) ∧ EncTo w b T size r g low' bs' rest' w' := by
  subst e1 e2 e3
  by_cases hc : bs.length < size
  · rw [if_pos hc, if_pos hc]
    exact shift_room w b T size r g low bs rest h hl hs hc
  · rw [if_neg hc, if_neg hc]
    exact shift_full w b T size r g low bs rest h hl (by omega)
end Go.Proofs.YtfohinlldchdpaaGreatDoor.Rg
end

section
/- Contract of rang's carry. -/
set_option maxRecDepth 100000
set_option linter.unusedVariables false
namespace Go.Proofs.YtfohinlldchdpaaGreatDoor.Rg
open Go.RowKit Go.Proofs.YtfohinlldchdpaaGreatDoor.Row

/-- A number and the next one: the first i bytes of it, behind them those of the next. -/
def mixd (P n i : Nat) : List UInt8 := (List.range n).map fun j => UInt8.ofNat (if j < i then dg P n j else dg (P + 1) n j)
theorem mixd_length (P n i : Nat) : (mixd P n i).length = n := by unfold mixd; simp
theorem mixd_get (P n i j : Nat) (h : j < n) : (mixd P n i)[j]? = some (UInt8.ofNat (if j < i then dg P n j else dg (P + 1) n j)) := by unfold mixd; simp [h]
theorem mixd_all (P n : Nat) : mixd P n n = dgs P n n := by
  unfold mixd dgs
  exact List.map_congr_left fun j hj => by rw [if_pos (by simpa using hj)]
theorem mixd_none (P n : Nat) : mixd P n 0 = dgs (P + 1) n n := by
  unfold mixd dgs
  exact List.map_congr_left fun j hj => by rw [if_neg (by omega)]
theorem mixd_set (P n i : Nat) (h : i < n) : (mixd P n (i + 1)).set i (UInt8.ofNat (dg (P + 1) n i)) = mixd P n i := by
  apply List.ext_getElem?
  intro j
  by_cases hj : j < n
  · by_cases e : i = j
    · subst e
      rw [List.getElem?_set_self (by rw [mixd_length]; exact h), mixd_get _ _ _ _ hj, if_neg (by omega)]
    · rw [List.getElem?_set_ne e, mixd_get _ _ _ _ hj, mixd_get _ _ _ _ hj]
      by_cases c : j < i
      · rw [if_pos c, if_pos (by omega)]
      · rw [if_neg c, if_neg (by omega)]
  · rw [List.getElem?_eq_none (by rw [List.length_set, mixd_length]; omega), List.getElem?_eq_none (by rw [mixd_length]; omega)]
theorem cr_stays {L a k : Nat} (h : cr L a k = 0) : ∀ t, cr L a (k + t) = 0
  | 0 => h
  | t + 1 => by
    rw [← Nat.add_assoc, cr_next, cr_stays h t]
    exact Nat.div_eq_of_lt (by have := Nat.mod_lt (L / 256 ^ (k + t)) (show 256 > 0 by omega); omega)
theorem mixd_stop {P n m : Nat} (hm : m ≤ n) (h : cr P 1 (n - m) = 0) : mixd P n m = dgs (P + 1) n n := by
  rw [← mixd_none]
  unfold mixd
  refine List.map_congr_left fun j hj => ?_
  have hj : j < n := by simpa using hj
  by_cases c : j < m
  · rw [if_pos c, if_neg (by omega)]
    have h1 := cr_stays h (n - 1 - j - (n - m))
    rw [show n - m + (n - 1 - j - (n - m)) = n - 1 - j by omega] at h1
    have h2 := cr_dg (L := P) (a := 1) (n := n) (i := j)
    rw [h1, Nat.zero_add, Nat.mod_eq_of_lt (dg_lt _ _ _)] at h2
    rw [h2]
  · rw [if_neg c, if_neg (by omega)]

/-- A cell of an own row stored. -/
theorem owns_set {w : World} {B n c g j : Nat} {e : TypeId} {xs : List Value} {v : Value} (h : w.ownsRow B e 1 (.slice (some ⟨g, 0, none⟩) n c) n xs) (hj : j < n) :
    (w.setCell ⟨g, j, none⟩ v).ownsRow B e 1 (.slice (some ⟨g, 0, none⟩) n c) n (xs.set j v) := by
  obtain ⟨h1, h2 | ⟨g', cap, cur, e1, h3, h4, h5, h6, h7, h8⟩⟩ := h
  · exact absurd h2.1 (by simp)
  · simp only [Value.slice.injEq, Option.some.injEq, Addr.mk.injEq, true_and, and_true] at e1
    obtain ⟨rfl, rfl⟩ := e1
    refine ⟨by rw [List.length_set]; exact h1, .inr ⟨g, c, cur.setIfInBounds j v, rfl, h3, heap_setCell_same _ _ _ _ _ _ h4, h5, h6, by rw [Array.size_setIfInBounds]; exact h7, ?_⟩⟩
    rw [← h8, Array.toList_setIfInBounds, List.take_set]
theorem owns_cell {w : World} {B n c g j : Nat} {e : TypeId} {xs : List Value} {v : Value} (h : w.ownsRow B e 1 (.slice (some ⟨g, 0, none⟩) n c) n xs) (hv : xs[j]? = some v) : w.cell? ⟨g, j, none⟩ = some v := by
  have := World.ownsRow.cells h (g := g) rfl j v hv
  unfold Addr.add at this
  by_cases e0 : j = 0
  · subst e0; simpa using this
  · simpa [e0] using this
theorem owns_frozen {w : World} {B n c g : Nat} {e : TypeId} {xs : List Value} (h : w.ownsRow B e 1 (.slice (some ⟨g, 0, none⟩) n c) n xs) (j : Nat) : w.frozen? ⟨g, j, none⟩ = false := by
  obtain ⟨h1, h2 | ⟨g', cap, cur, e1, h3, h4, _⟩⟩ := h
  · exact absurd h2.1 (by simp)
  · simp only [Value.slice.injEq, Option.some.injEq, Addr.mk.injEq, true_and, and_true] at e1
    obtain ⟨rfl, rfl⟩ := e1
    exact frozen_of_row _ _ _ _ _ h4
theorem owns_some {w : World} {B n c : Nat} {a : Option Addr} {e : TypeId} {xs : List Value} (h : w.ownsRow B e 1 (.slice a n c) n xs) (hn : 0 < n) : ∃ g, a = some ⟨g, 0, none⟩ := by
  obtain ⟨h1, h2 | ⟨g', cap, cur, e1, h3, h4, _⟩⟩ := h
  · have := h2.2; omega
  · simp only [Value.slice.injEq] at e1
    exact ⟨g', e1.1⟩

set_option maxHeartbeats 400000 in
theorem carry_stop_as (w : World) (b : Nat) (T : Nat → Prop) (size r g low : Nat) (bs : List UInt8) (rest : Nat) (h : EncMem w b T size r g low bs rest) (hr : rest = 1 ∨ rest = 3) :
    Calls Tryz.prog 161 #[.pointer (some ⟨b, 0, none⟩)] w fun e w' => e = .returned (.tuple #[]) ∧ EncTo w b T size r g low bs 3 w' := by
  obtain ⟨a, c, hA, hO, hK, c0, c1, c2, c3, c4, c5, f3, f4, f5⟩ := h.start
  have HT : Hid (EncTo w b T size r g low bs 3 (w.setCell ⟨b, 5, none⟩ (.int .i64 3))) := by
    refine ⟨T, ⟨h.1, a, c, hA.setCell, ?_, hK⟩, (Fr.refl _ _).setCell (.inl h.1) _, fun i hi => .inl hi⟩
    exact Fr.owns (T := Just b) ((Fr.refl _ _).setCell (.inl (Just.self b)) _) hO fun i hi e => (hK i hi).2 e
  clear hA hO hK h c0 c1 c2 c3 c4 f3 f4
  rcases hr with rfl | rfl
  all_goals
    go_enter Tryz.func161, Tryz.ntmps161
    go_wp2
    refine bodyPost_ret (results_none rfl _ _ _) rfl ?_
    exact ⟨rfl, HT⟩

/-- What holds while a carry goes through the bytes. -/
def CarS (w : World) (b : Nat) (T : Nat → Prop) (size r g low rest c P n : Nat) (a : Option Addr) (i : Nat) (w' : World) : Prop :=
  Fr T w w' ∧ At w' b (encRow size r g low rest a n c) 152 ∧ w'.ownsRow 0 5 1 (.slice a n c) n (Lib.byteCells (mixd P n i)) ∧ T b ∧ (∀ k, (Value.slice a n c).ownBlock = some k → T k ∧ k ≠ b) ∧ cr P 1 (n - i) = 1
theorem CarS.done {w w' : World} {b : Nat} {T : Nat → Prop} {size r g low rest c P n i : Nat} {a : Option Addr} (h : CarS w b T size r g low rest c P n a i w') (e : mixd P n i = dgs (P + 1) n n) : EncTo w b T size r g low (dgs (P + 1) n n) rest w' := by
  obtain ⟨h1, h2, h3, h4, h5, _⟩ := h
  have el : (dgs (P + 1) n n).length = n := dgs_length _ _ _
  refine ⟨T, ⟨h4, a, c, by rw [el]; exact h2, by rw [el, ← e]; exact h3, by rw [el]; exact h5⟩, h1, fun k hk => .inl hk⟩
theorem CarS.put {w w' : World} {b : Nat} {T : Nat → Prop} {size r g low rest c P n m k : Nat} (h : CarS w b T size r g low rest c P n (some ⟨k, 0, none⟩) (m + 1) w') (hm : m < n) :
    Fr T w (w'.setCell ⟨k, m, none⟩ (.int .u8 (dg (P + 1) n m : Nat))) ∧ At (w'.setCell ⟨k, m, none⟩ (.int .u8 (dg (P + 1) n m : Nat))) b (encRow size r g low rest (some ⟨k, 0, none⟩) n c) 152 ∧
      (w'.setCell ⟨k, m, none⟩ (.int .u8 (dg (P + 1) n m : Nat))).ownsRow 0 5 1 (.slice (some ⟨k, 0, none⟩) n c) n (Lib.byteCells (mixd P n m)) := by
  obtain ⟨h1, h2, h3, h4, h5, _⟩ := h
  obtain ⟨h6, h7⟩ := h5 k rfl
  refine ⟨h1.setCell (.inl h6) _, h2.setCell_other (Ne.symm h7), ?_⟩
  have := owns_set (v := .int .u8 (dg (P + 1) n m : Nat)) h3 hm
  have e : (Lib.byteCells (mixd P n (m + 1))).set m (.int .u8 (dg (P + 1) n m : Nat)) = Lib.byteCells (mixd P n m) := by
    rw [← mixd_set P n m hm]
    unfold Lib.byteCells
    rw [List.map_set, byte_nat (by have := dg_lt (P + 1) n m; omega)]
  rwa [e] at this
theorem CarS.next {w w' : World} {b : Nat} {T : Nat → Prop} {size r g low rest c P n m k : Nat} (h : CarS w b T size r g low rest c P n (some ⟨k, 0, none⟩) (m + 1) w') (hm : m < n) (hc : cr P 1 (n - m) = 1) :
    CarS w b T size r g low rest c P n (some ⟨k, 0, none⟩) m (w'.setCell ⟨k, m, none⟩ (.int .u8 (dg (P + 1) n m : Nat))) := by
  obtain ⟨p1, p2, p3⟩ := h.put hm
  exact ⟨p1, p2, p3, h.2.2.2.1, h.2.2.2.2.1, hc⟩

theorem carS_row {w w' : World} {b : Nat} {T : Nat → Prop} {size r g low rest c P n i : Nat} {a : Option Addr} (h : CarS w b T size r g low rest c P n a i w') : w'.cell? ⟨b, 4, none⟩ = some (.slice a n c) := by
  rw [h.2.1.cell]; rfl

set_option maxHeartbeats 1000000 in
theorem carry_loop (w w0 : World) (b : Nat) (T : Nat → Prop) (size r g low rest rest' c P n : Nat) (a : Option Addr) (hn : n ≤ 4096) (h : CarS w0 b T size r g low rest' c P n a n w0)
    (hr : (rest = 0 ∧ w0 = w) ∨ (rest = 2 ∧ w0 = w.setCell ⟨b, 5, none⟩ (.int .i64 1))) (c4 : w.cell? ⟨b, 4, none⟩ = some (.slice a n c)) (c5 : w.cell? ⟨b, 5, none⟩ = some (.int .i64 rest)) (f5 : w.frozen? ⟨b, 5, none⟩ = false) :
    Calls Tryz.prog 161 #[.pointer (some ⟨b, 0, none⟩)] w fun e w' => e = .returned (.tuple #[]) ∧ EncTo w0 b T size r g low (dgs (P + 1) n n) rest' w' := by
  have H := Lib.hid h
  clear h
  rcases hr with ⟨rfl, hw⟩ | ⟨rfl, hw⟩
  all_goals
    have HW := Lib.hid hw
    clear hw
    go_enter Tryz.func161, Tryz.ntmps161
    go_wp2
    go_loopw [2] (fun i w' => ∃ m : Nat, ∃ z : Int, i = .int .i64 z ∧ z = (m : Int) - 1 ∧ m ≤ n ∧ CarS w0 b T size r g low rest' c P n a m w') (fun i _ => (intOf i + 1).toNat)
    case atStart => exact ⟨n, _, rfl, rfl, Nat.le_refl _, by first | (rw [← HW.out]; exact H.out) | exact HW.out ▸ H.out⟩
    case round =>
      obtain ⟨m, z, rfl, hz, hm, hs⟩ := hrel
      have HS := Lib.hid hs
      have d4 := carS_row hs
      clear hs c4 c5 f5
      cases m with
      | zero =>
        obtain rfl : z = -1 := by omega
        clear hz
        go_wp2
        go_end0
        exact ⟨rfl, HS.out.done (mixd_none P n)⟩
      | succ m =>
        obtain rfl : z = (m : Int) := by omega
        clear hz
        obtain ⟨k, rfl⟩ := owns_some HS.out.2.2.1 (by omega)
        have hmn : m < n := by omega
        have hd := dg_lt P n m
        have ck : _ = some (Value.int .u8 (dg P n m : Nat)) := owns_cell (j := m) (v := .int .u8 (dg P n m : Nat)) HS.out.2.2.1 (by unfold Lib.byteCells; rw [List.getElem?_map, mixd_get _ _ _ _ hmn, if_pos (by omega)]; simp [byte_nat (show dg P n m ≤ 255 by omega)])
        have fk := owns_frozen HS.out.2.2.1 m
        obtain ⟨x, hx⟩ : ∃ x, dg P n m = x := ⟨_, rfl⟩
        rw [hx] at ck hd
        have hkb : k ≠ b := (HS.out.2.2.2.2.1 k rfl).2
        have e1 := cr_dg (L := P) (a := 1) (n := n) (i := m)
        have e2 := cr_up (L := P) (a := 1) hmn
        rw [show n - 1 - m = n - (m + 1) by omega, HS.out.2.2.2.2.2, hx] at e1 e2
        by_cases h255 : x = 255
        · subst h255
          have HN := Lib.hid (HS.out.next hmn (by omega))
          rw [show dg (P + 1) n m = 0 by omega] at HN
          clear e1 e2 hx hd
          go_wp2
          go_roundw
          case rel => exact ⟨m, _, rfl, rfl, by omega, HN.out⟩
          case measure => simp [intOf]
        · have hx254 : x ≤ 254 := by omega
          have HN := Lib.hid (HS.out.put hmn)
          rw [show dg (P + 1) n m = x + 1 by omega] at HN
          have HE := Lib.hid (mixd_stop (P := P) (n := n) (m := m) (by omega) (by omega))
          have HK := Lib.hid (⟨HS.out.2.2.2.1, HS.out.2.2.2.2.1⟩ : T b ∧ ∀ i, (Value.slice (some ⟨k, 0, none⟩) n c).ownBlock = some i → T i ∧ i ≠ b)
          obtain ⟨X, hX⟩ : ∃ X : Int, (x : Int) = X := ⟨_, rfl⟩
          have hX0 : 0 ≤ X := by omega
          have hX1 : X ≤ 254 := by omega
          have hne : (X + 1 != 0) = true := by rw [bne_iff_ne]; omega
          have HX := Lib.hid (show (((x + 1 : Nat)) : Int) = X + 1 by omega)
          rw [hX] at ck
          clear e1 e2 hx hd h255 hx254 hX
          go_wp2
          refine bodyPost_ret (results_none rfl _ _ _) rfl ?_
          refine ⟨rfl, T, ?_⟩
          have hN := HN.out
          rw [HX.out, HE.out] at hN
          have el : (dgs (P + 1) n n).length = n := dgs_length _ _ _
          exact ⟨⟨HK.out.1, some ⟨k, 0, none⟩, c, by rw [el]; exact hN.2.1, by rw [el]; exact hN.2.2, by rw [el]; exact HK.out.2⟩, hN.1, fun i hi => .inl hi⟩

theorem EncTo.from {w w0 w' : World} {b : Nat} {T : Nat → Prop} {size r g low rest : Nat} {bs : List UInt8} (h : EncTo w0 b T size r g low bs rest w') (hf : Fr T w w0) : EncTo w b T size r g low bs rest w' := by
  obtain ⟨T', h1, h2, h3⟩ := h
  exact ⟨T', h1, hf.same h2, fun k hk => (h3 k hk).imp_right fun h => Nat.le_trans hf.size h⟩

theorem carry_goes_as (w : World) (b : Nat) (T : Nat → Prop) (size r g low : Nat) (bs : List UInt8) (rest P n : Nat) (h : EncMem w b T size r g low bs rest) (hr : rest = 0 ∨ rest = 2) (hn : n = bs.length) (hb : bs = dgs P n n) (h4 : n ≤ 4096) :
    Calls Tryz.prog 161 #[.pointer (some ⟨b, 0, none⟩)] w fun e w' => e = .returned (.tuple #[]) ∧ EncTo w b T size r g low (dgs (P + 1) n n) (if rest = 2 then 1 else 0) w' := by
  obtain ⟨a, c, hA, hO, hK, c0, c1, c2, c3, c4, c5, f3, f4, f5⟩ := h.start
  have e1 : cr P 1 (n - n) = 1 := by rw [Nat.sub_self, cr_zero]
  have eb : bs = mixd P n n := by rw [mixd_all]; exact hb
  rw [← hn, eb] at hO
  rw [← hn] at hA hK c4
  rcases hr with rfl | rfl
  · exact carry_loop w w b T size r g low 0 0 c P n a h4 ⟨Fr.refl _ _, hA, hO, h.1, hK, e1⟩ (.inl ⟨rfl, rfl⟩) c4 c5 f5
  · have hF := (Fr.refl T w).setCell (p := ⟨b, 5, none⟩) (.inl h.1) (.int .i64 1)
    refine (carry_loop w _ b T size r g low 2 1 c P n a h4 ⟨Fr.refl _ _, hA.setCell, ?_, h.1, hK, e1⟩ (.inr ⟨rfl, rfl⟩) c4 c5 f5).mono fun e w' ⟨he, ht⟩ => ⟨he, ht.from hF⟩
    exact Fr.owns (T := Just b) ((Fr.refl _ _).setCell (.inl (Just.self b)) _) hO fun i hi e => (hK i hi).2 e
end Go.Proofs.YtfohinlldchdpaaGreatDoor.Rg
end

section
/- Contracts of rang's NewEnc, Put, Used (of a coder). -/
set_option maxRecDepth 100000
set_option linter.unusedVariables false
namespace Go.Proofs.YtfohinlldchdpaaGreatDoor.Rg
open Go.RowKit Go.Proofs.YtfohinlldchdpaaGreatDoor.Row

/-- A coder that has range and bytes gone as told, and whose bytes are x's, in T's blocks or new ones, nothing else changed. -/
def PutS (w : World) (b : Nat) (T : Nat → Prop) (size r g : Nat) (x : St) (w' : World) : Prop :=
  ∃ (T' : Nat → Prop) (low : Nat) (bs : List UInt8) (rest : Nat), EncMem w' b T' size r g low bs rest ∧ Rep size x low bs rest ∧ Fr T w w' ∧ ∀ k, T' k → T k ∨ w.heap.size ≤ k
/-- A coder at block b, in T's blocks: x. -/
def EncIs (w : World) (b : Nat) (T : Nat → Prop) (size : Nat) (x : St) : Prop :=
  ∃ (low : Nat) (bs : List UInt8) (rest : Nat), EncMem w b T size x.r x.g low bs rest ∧ Rep size x low bs rest

theorem EncMem.lowed {w : World} {b size r g low rest : Nat} {T : Nat → Prop} {bs : List UInt8} (h : EncMem w b T size r g low bs rest) (M : Nat) : EncMem (w.setCell ⟨b, 3, none⟩ (.int .u32 M)) b T size r g M bs rest := by
  obtain ⟨h1, a, c, hA, hO, hK⟩ := h
  exact ⟨h1, a, c, hA.setCell, Fr.owns (T := Just b) ((Fr.refl _ _).setCell (.inl (Just.self b)) _) hO fun i hi e => (hK i hi).2 e, hK⟩
theorem EncMem.drewN {w : World} {b size r g low rest : Nat} {T : Nat → Prop} {bs : List UInt8} (h : EncMem w b T size r g low bs rest) (n : Nat) : EncMem (w.drewN n) b T size r g low bs rest := h
theorem EncMem.scaled {w w' : World} {b size r g low rest r' g' c : Nat} {a : Option Addr} {T : Nat → Prop} {bs : List UInt8} (h : EncMem w b T size r g low bs rest)
    (hO : w.ownsRow 0 5 1 (.slice a bs.length c) bs.length (Lib.byteCells bs)) (hK : ∀ k, (Value.slice a bs.length c).ownBlock = some k → T k ∧ k ≠ b)
    (hF : Fr (Just b) w w') (hA' : At w' b (scSet (encRow size r g low rest a bs.length c) 1 r' g') 152) : EncMem w' b T size r' g' low bs rest :=
  ⟨h.1, a, c, hA', hF.owns hO fun i hi e => (hK i hi).2 e, hK⟩
theorem encSc (size r g low rest n c : Nat) (a : Option Addr) : Sc (encRow size r g low rest a n c) 1 r g := ⟨rfl, rfl⟩

/-- One byte further. -/
theorem PutS.step {w w1 w' : World} {b size r g low rest : Nat} {T T1 : Nat → Prop} {bs : List UInt8} {x : St} (hR : Rep size x low bs rest) (hF : Fr T w w1) (hT : ∀ k, T1 k → T k ∨ w.heap.size ≤ k)
    (h : EncTo w1 b T1 size r g (low * 256 % 4294967296) (if bs.length < size then bs ++ [UInt8.ofNat (low / 16777216)] else bs) (if bs.length < size then rest else withR rest (low / 16777216)) w') : PutS w b T size r g ⟨x.L * 256, x.r * 256, x.g + 1⟩ w' := by
  obtain ⟨T2, h1, h2, h3⟩ := h
  refine ⟨T2, _, _, _, h1, rep_shift hR, hF.trans h2 fun i hi hu => (hT i hu).elim id fun h => absurd h (by omega), fun k hk => ?_⟩
  rcases h3 k hk with h3 | h3
  · exact hT k h3
  · exact .inr (Nat.le_trans hF.size h3)
theorem Rep.len {size low rest : Nat} {bs : List UInt8} {x : St} (h : Rep size x low bs rest) : bs.length ≤ size := by rw [h.bs, dgs_length]; omega
theorem Rep.low_le {size low rest : Nat} {bs : List UInt8} {x : St} (h : Rep size x low bs rest) : low ≤ 4294967295 := by rw [h.low]; omega

/-- Behind a carry, or none. -/
def MidS (w : World) (b : Nat) (T : Nat → Prop) (size r g low : Nat) (y : St) (M : Nat) (w1 : World) : Prop :=
  ∃ (T1 : Nat → Prop) (bs : List UInt8) (rest : Nat), EncMem w1 b T1 size r g low bs rest ∧ Rep size y M bs rest ∧ Fr T w w1 ∧ ∀ k, T1 k → T k ∨ w.heap.size ≤ k
theorem MidS.from {w w1 : World} {b : Nat} {T : Nat → Prop} {size r g low M n : Nat} {y : St} (h : MidS (w.drewN n) b T size r g low y M w1) : MidS w b T size r g low y M w1 := by
  obtain ⟨T1, bs, rest, h1, h2, h3, h4⟩ := h
  exact ⟨T1, bs, rest, h1, h2, ((Fr.refl T w).drewN n).same h3, h4⟩
theorem MidS.cells {w w1 : World} {b : Nat} {T : Nat → Prop} {size r g low M : Nat} {y : St} (h : MidS w b T size r g low y M w1) : w1.cell? ⟨b, 3, none⟩ = some (.int .u32 low) ∧ w1.frozen? ⟨b, 3, none⟩ = false := by
  obtain ⟨T1, bs, rest, h1, _⟩ := h
  obtain ⟨a, c, hA, hO, hK, c0, c1, c2, c3, c4, c5, f3, f4, f5⟩ := h1.start
  exact ⟨c3, f3⟩
theorem carry_as (w : World) (b : Nat) (T : Nat → Prop) (size low A q M : Nat) (x : St) (bs : List UInt8) (rest : Nat) (h : EncMem w b T size x.r x.g low bs rest) (hR : Rep size x low bs rest) (hA : A + q ≤ x.r) (q1 : 1 ≤ q) (hr : x.r ≤ 4294967295) (hc : ¬ low + A < 4294967296)
    (hM : (low + A) % 4294967296 = M) (hsz : size ≤ 4096) :
    Calls Tryz.prog 161 #[.pointer (some ⟨b, 0, none⟩)] w fun e w' => e = .returned (.tuple #[]) ∧ MidS w b T size x.r x.g low ⟨x.L + A, q, x.g⟩ M w' := by
  have hl := hR.low_le
  have hlen := hR.len
  obtain rfl : low + A - 4294967296 = M := by omega
  have h3 := restOk_le hR.rest
  by_cases hr2 : rest = 1 ∨ rest = 3
  · refine (carry_stop_as w b T size x.r x.g low bs rest h hr2).mono fun e w' ⟨he, T1, h1, h2, h3⟩ => ⟨he, T1, bs, 3, h1, carry_stop hR hl (by omega) hA q1 hr (by omega) hr2, h2, h3⟩
  · obtain ⟨P, n, hn, hb, hR'⟩ := carry_goes (q := q) hR hl (by omega) (show 4294967296 ≤ low + A by omega) (by omega)
    refine (carry_goes_as w b T size x.r x.g low bs rest P n h (by omega) hn hb (by omega)).mono fun e w' ⟨he, T1, h1, h2, h3⟩ => ⟨he, T1, _, _, h1, hR', h2, h3⟩

set_option maxHeartbeats 2000000 in
theorem put_as (w : World) (b : Nat) (T : Nat → Prop) (size : Nat) (x : St) (s v t : Nat) (h : EncIs w b T size x) (hx : x.ok) (hC : (Cl.mk s v t).ok) (hsz : size ≤ 4096) (hg : x.g ≤ 100000) :
    Calls Tryz.prog 115 #[.pointer (some ⟨b, 0, none⟩), .int .i64 s, .int .i64 v, .int .i64 t] w fun e w' => e = .returned (.int .i64 0) ∧ PutS w b T size (x.put ⟨s, v, t⟩).r (x.put ⟨s, v, t⟩).g (x.put ⟨s, v, t⟩) w' := by
  obtain ⟨low, bs, rest, hM, hR⟩ := h
  obtain ⟨a, c, hA, hO, hK, c0, c1, c2, c3, c4, c5, f3, f4, f5⟩ := hM.start
  obtain ⟨s1, s2, s3, s4⟩ := step_bd hx hC
  obtain ⟨t1, t2, v1, e⟩ := hC
  obtain ⟨r1, r2, _⟩ := id hx
  dsimp only at s1 s2 s3 s4 t1 t2 v1 e
  have hll := hR.low_le
  obtain ⟨u, hu⟩ : ∃ u, x.r / t = u := ⟨_, rfl⟩
  rw [hu] at s1 s2 s3 s4
  obtain ⟨A, hAA⟩ : ∃ A, u * s = A := ⟨_, rfl⟩
  obtain ⟨q, hq⟩ : ∃ q, u * v = q := ⟨_, rfl⟩
  rw [hAA, hq] at s2
  rw [hq] at s3 s4
  obtain ⟨n, hn⟩ : ∃ n, sh q = n := ⟨_, rfl⟩
  have n3 : n ≤ 3 := by rw [← hn]; exact sh_le q
  have HP := Lib.hid (show x.put ⟨s, v, t⟩ = ⟨(x.L + A) * 256 ^ n, q * 256 ^ n, x.g + n⟩ by unfold St.put; dsimp only; rw [hu, hAA, hq, hn])
  have HU := Lib.hid (show (x.r : Int) / (t : Int) = (u : Int) by rw [← hu]; exact (Int.natCast_ediv x.r t).symm)
  have HUN := Lib.hid hu
  have HQ := Lib.hid hq
  have HN := Lib.hid hn
  have eA : ((u : Int) * (s : Int)) % 4294967296 = A := by rw [← Int.natCast_mul, hAA]; omega
  obtain ⟨M, hMM⟩ : ∃ M, (low + A) % 4294967296 = M := ⟨_, rfl⟩
  have eM : ((low : Int) + (A : Int)) % 4294967296 = M := by rw [← hMM]; rfl
  have HM := Lib.hid hMM
  have HR := Lib.hid hR
  have HE := Lib.hid hM
  clear hu hAA hq hn hMM hR hM hA hO hK hx c0 c2 c4 c5 f4 f5
  by_cases hc : low + A < 4294967296
  · have hnc : decide (M < low) = false := by have := HM.out; simp; omega
    have HC := Lib.hid hc
    clear hc
    go_enter Tryz.func115, Tryz.ntmps115
    go_wp2_with (go_at_call 159; (with_reducible refine (isCell_yes s v t _ (by omega) (by omega) (by omega) (by omega) (by omega)).mono ?_); rintro e w' ⟨rfl, rfl⟩)
    go_quiet ((go_at_call 160; exact Calls.quiet_of_same ((step_as b 1 x.r t u _ (by exact c1) (by omega) (by omega) (by omega) (by omega) HU.out).mono fun _ _ ⟨he, hw⟩ => ⟨he, hw.symm⟩)))
    go_wp2_with fail
    have HMid : Hid (MidS w b T size x.r x.g low ⟨x.L + A, q, x.g⟩ M (w.drewN nq)) := ⟨T, bs, rest, HE.out, by have := rep_add HR.out s2 HC.out; rwa [show low + A = M by have := HC.out; have := HM.out; omega] at this, (Fr.refl _ _).drewN _, fun k hk => .inl hk⟩
    obtain ⟨w1, hw1⟩ : ∃ w1, w.drewN nq = w1 := ⟨_, rfl⟩
    rw [hw1] at HMid ⊢
    clear hw1
    obtain ⟨T1, bs1, rest1, hE1, hR1, hF1, hT1⟩ := HMid.out
    have hE2 := hE1.lowed M
    obtain ⟨a2, c2, hA2, hO2, hK2, _⟩ := hE2.start
    refine (narrow_as b 1 _ _ x.r x.g v t u q n _ hA2 (encSc _ _ _ _ _ _ _ _) r2 t1 t2 (by omega) HUN.out HQ.out s3 s4 (by omega) HN.out).mono ?_
    rintro e w3 ⟨rfl, hF3, hA3⟩
    have S0 : Hid (PutS w b T size (q * 256 ^ n) (x.g + n) ⟨x.L + A, q, x.g⟩ w3) := ⟨T1, M, bs1, rest1, hE2.scaled hO2 hK2 hF3 hA3, hR1, (hF1.setCell (hT1 b hE1.1) _).trans hF3 fun i hi hu => by rw [show i = b from hu]; exact (hT1 b hE1.1).elim id fun h => absurd hi (by rw [show i = b from hu]; omega), hT1⟩
    clear hE1 hR1 hF1 hT1 hE2 hA2 hO2 hK2 hF3 hA3 HMid
    go_wp2
    go_loopw [50] (fun i wr => ∃ k : Nat, k ≤ n ∧ i = .int .i64 k ∧ PutS w b T size (q * 256 ^ n) (x.g + n) ⟨(x.L + A) * 256 ^ k, q * 256 ^ k, x.g + k⟩ wr) (fun i _ => 3 - (intOf i).toNat)
    case atStart => exact ⟨0, Nat.zero_le _, rfl, by rw [Nat.pow_zero, Nat.mul_one, Nat.mul_one, Nat.add_zero]; exact S0.out⟩
    case round =>
      obtain ⟨k, hk, rfl, hps⟩ := hrel
      have HPS := Lib.hid hps
      clear hps S0
      by_cases hlt : k < n
      · obtain ⟨T2, l2, bs2, rest2, hE2, hR2, hF2, hT2⟩ := HPS.out
        have HE2 := Lib.hid hE2
        have HR2 := Lib.hid hR2
        have HF2 := Lib.hid hF2
        have HT2 := Lib.hid hT2
        clear hE2 hR2 hF2 hT2
        go_wp2_with (go_at_call 163; (with_reducible refine (shift_as _ b T2 size _ _ l2 bs2 rest2 _ _ _ HE2.out HR2.out.low_le hsz HR2.out.len rfl rfl rfl).mono ?_); rintro e w4 ⟨rfl, hto⟩; have HTO := Lib.hid hto; clear hto)
        go_roundw
        case rel => exact ⟨k + 1, by omega, by go_num, by have := PutS.step HR2.out HF2.out HT2.out HTO.out; rw [Nat.pow_succ, ← Nat.mul_assoc, ← Nat.mul_assoc]; exact this⟩
        case measure => simp [intOf]; omega
      · obtain rfl : k = n := by omega
        go_wp2
        go_ret
        exact ⟨rfl, by rw [HP.out]; exact HPS.out⟩
  · have hnc : decide (M < low) = true := by have := HM.out; simp; omega
    have HC := Lib.hid hc
    clear hc
    go_enter Tryz.func115, Tryz.ntmps115
    go_wp2_with (go_at_call 159; (with_reducible refine (isCell_yes s v t _ (by omega) (by omega) (by omega) (by omega) (by omega)).mono ?_); rintro e w' ⟨rfl, rfl⟩)
    go_quiet ((go_at_call 160; exact Calls.quiet_of_same ((step_as b 1 x.r t u _ (by exact c1) (by omega) (by omega) (by omega) (by omega) HU.out).mono fun _ _ ⟨he, hw⟩ => ⟨he, hw.symm⟩)))
    go_wp2_with fail
    refine (carry_as _ b T size low A q M x bs rest (HE.out.drewN nq) HR.out s2 s3 r2 HC.out HM.out hsz).mono ?_
    rintro e w1 ⟨rfl, hmid⟩
    have HMid := Lib.hid (hmid.from)
    clear hmid
    obtain ⟨d3, e3⟩ := HMid.out.cells
    go_wp2_with fail
    obtain ⟨T1, bs1, rest1, hE1, hR1, hF1, hT1⟩ := HMid.out
    have hE2 := hE1.lowed M
    obtain ⟨a2, c2, hA2, hO2, hK2, _⟩ := hE2.start
    refine (narrow_as b 1 _ _ x.r x.g v t u q n _ hA2 (encSc _ _ _ _ _ _ _ _) r2 t1 t2 (by omega) HUN.out HQ.out s3 s4 (by omega) HN.out).mono ?_
    rintro e w3 ⟨rfl, hF3, hA3⟩
    have S0 : Hid (PutS w b T size (q * 256 ^ n) (x.g + n) ⟨x.L + A, q, x.g⟩ w3) := ⟨T1, M, bs1, rest1, hE2.scaled hO2 hK2 hF3 hA3, hR1, (hF1.setCell (hT1 b hE1.1) _).trans hF3 fun i hi hu => by rw [show i = b from hu]; exact (hT1 b hE1.1).elim id fun h => absurd hi (by rw [show i = b from hu]; omega), hT1⟩
    clear hE1 hR1 hF1 hT1 hE2 hA2 hO2 hK2 hF3 hA3 HMid
    go_wp2
    go_loopw [50] (fun i wr => ∃ k : Nat, k ≤ n ∧ i = .int .i64 k ∧ PutS w b T size (q * 256 ^ n) (x.g + n) ⟨(x.L + A) * 256 ^ k, q * 256 ^ k, x.g + k⟩ wr) (fun i _ => 3 - (intOf i).toNat)
    case atStart => exact ⟨0, Nat.zero_le _, rfl, by rw [Nat.pow_zero, Nat.mul_one, Nat.mul_one, Nat.add_zero]; exact S0.out⟩
    case round =>
      obtain ⟨k, hk, rfl, hps⟩ := hrel
      have HPS := Lib.hid hps
      clear hps S0
      by_cases hlt : k < n
      · obtain ⟨T2, l2, bs2, rest2, hE2, hR2, hF2, hT2⟩ := HPS.out
        have HE2 := Lib.hid hE2
        have HR2 := Lib.hid hR2
        have HF2 := Lib.hid hF2
        have HT2 := Lib.hid hT2
        clear hE2 hR2 hF2 hT2
        go_wp2_with (go_at_call 163; (with_reducible refine (shift_as _ b T2 size _ _ l2 bs2 rest2 _ _ _ HE2.out HR2.out.low_le hsz HR2.out.len rfl rfl rfl).mono ?_); rintro e w4 ⟨rfl, hto⟩; have HTO := Lib.hid hto; clear hto)
        go_roundw
        case rel => exact ⟨k + 1, by omega, by go_num, by have := PutS.step HR2.out HF2.out HT2.out HTO.out; rw [Nat.pow_succ, ← Nat.mul_assoc, ← Nat.mul_assoc]; exact this⟩
        case measure => simp [intOf]; omega
      · obtain rfl : k = n := by omega
        go_wp2
        go_ret
        exact ⟨rfl, by rw [HP.out]; exact HPS.out⟩
end Go.Proofs.YtfohinlldchdpaaGreatDoor.Rg
end

section
/- Contract of rang's NewEnc. -/
set_option maxRecDepth 100000
set_option linter.unusedVariables false
namespace Go.Proofs.YtfohinlldchdpaaGreatDoor.Rg
open Go.RowKit Go.Proofs.YtfohinlldchdpaaGreatDoor.Row

/-- A new coder is handed back. -/
def RetEnc (w : World) (size : Nat) (e : Ending) (w' : World) : Prop := ∃ b, e = .returned (.tuple #[.pointer (some ⟨b, 0, none⟩), .int .i64 0]) ∧ w.heap.size ≤ b ∧ EncIs w' b (Just b) size St.new ∧ Below w.heap.size w w'

theorem newEnc_yes (size : Nat) (w : World) (h1 : 1 ≤ size) (h2 : size ≤ 4096) :
    Calls Tryz.prog 73 #[.int .i64 size] w fun e w' => RetEnc w size e w' := by
  have h3 : decide (size < 1) = false := by simp; omega
  have h4 : decide (4096 < size) = false := by simp; omega
  have HR : Hid (RetEnc w size (.returned (.tuple #[.pointer (some ⟨w.heap.size, 0, none⟩), .int .i64 0])) (w.alloc (.cells (encRow size 4294967295 0 0 0 none 0 0) 152))) := by
    refine ⟨_, rfl, Nat.le_refl _, ⟨0, [], 0, ⟨rfl, none, 0, At.new _ _ _, ⟨rfl, .inl ⟨rfl, rfl⟩⟩, fun k hk => by cases hk⟩, rep_new size⟩, (Below.refl _ _).alloc (Nat.le_refl _) _⟩
  go_enter Tryz.func73, Tryz.ntmps73
  go_wp2
  go_ret2
  exact HR
end Go.Proofs.YtfohinlldchdpaaGreatDoor.Rg
end
