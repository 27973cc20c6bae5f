/- Texts of the walk, one behind the other. -/
import Derived.Test.YtfohinlldchdpaaGreatDoorEncPlaysM41
import Derived.Test.YtfohinlldchdpaaGreatDoorEncPlaysM32
import Derived.Deep.Onto
import Derived.Deep.DeepCutAuto

section
/- Contract of the document's coder: Done. -/
set_option maxRecDepth 100000
set_option linter.unusedVariables false
namespace Go.Proofs.YtfohinlldchdpaaGreatDoor.Rg
open Go.RowKit Go.Proofs.YtfohinlldchdpaaGreatDoor.Row

/-- 'p = append(p, y)', one byte, of a slice of the call's own. -/
theorem wpList_append_byteB {ops : Array Oper} {rest : List Oper} {o : Oper} {a : Act} {w : World} {Q : Exit → Act → World → Prop} (hgd : o.guard = none) (s x : Operand)
    (ho : o.op = .call { callee := .builtin .append, args := #[s, x], argTypes := #[139, 139] })
    (B : Nat) (bs : List UInt8) (y : UInt8) (k : Nat) (ao : Option Addr) (c : Nat) (hs : a.eval s = .slice ao k c) (hk : bs.length = k) (hown : w.ownsRow B 5 1 (.slice ao k c) k (Lib.byteCells bs))
    (b : Nat) (hx : a.eval x = .slice (some ⟨b, 0, none⟩) 1 1) (hnew : w.cell? ⟨b, 0, none⟩ = some (.int .u8 y.toNat)) (hn : k + 1 ≤ 1000000000) (hB : B ≤ w.heap.size)
    (h : ∀ g c' w', w'.ownsRow B 5 1 (.slice (some ⟨g, 0, none⟩) (k + 1) c') (k + 1) (Lib.byteCells (bs ++ [y])) → Below B w w' →
      wpList Tryz.prog ops Q rest (a.put o.dst (.slice (some ⟨g, 0, none⟩) (k + 1) c')) w') : wpList Tryz.prog ops Q (o :: rest) a w := by
  obtain ⟨i, hi, hz, hsz, hby⟩ := info_u8
  refine wpList_append_own_at w hgd s x 139 ho B 5 i (.int .u8 0) 1 1 Tryz.underlying139 hi hz hsz hby rfl (by decide) (.slice ao k c) k (Lib.byteCells bs) hs hown ⟨b, 0, none⟩ 1 1 [.int .u8 y.toNat] hx rfl ?_ ?_ (by unfold maxLen; omega) (by omega) hB ?_
  · intro j u hj
    match j, hj with
    | 0, hj => simp at hj; subst hj; simpa [Addr.add] using hnew
  · intro u hu; simp at hu; subst hu; rfl
  · intro v' w' hown' hg _ hat
    have e1 : Lib.byteCells bs ++ [.int .u8 y.toNat] = Lib.byteCells (bs ++ [y]) := by rw [Lib.byteCells_append]; rfl
    rw [e1] at hown'
    obtain ⟨_, ⟨_, h0⟩ | ⟨g, c', cur, rfl, _⟩⟩ := id hown'
    · omega
    exact h g c' w' hown' ((Below.refl B w).grown hg hB fun j hj => (hown.lt j hj).1)

/-- One byte less. -/
theorem owns_less {w : World} {B m c : Nat} {a : Option Addr} {bs : List UInt8} {b : UInt8} (h : w.ownsRow B 5 1 (.slice a (m + 1) c) (m + 1) (Lib.byteCells (bs ++ [b]))) (hm : bs.length = m) :
    w.ownsRow B 5 1 (.slice a m c) m (Lib.byteCells bs) := by
  obtain ⟨h1, ⟨_, h0⟩ | ⟨g, cap, cur, e, h2, h3, h4, h5, h6, h7⟩⟩ := h
  · omega
  · simp only [Value.slice.injEq] at e
    obtain ⟨rfl, _, rfl⟩ := e
    refine ⟨by unfold Lib.byteCells; simp [hm], .inr ⟨g, c, cur, rfl, h2, h3, by omega, h5, h6, ?_⟩⟩
    have e1 : Lib.byteCells (bs ++ [b]) = Lib.byteCells bs ++ [.int .u8 b.toNat] := by rw [Lib.byteCells_append]; rfl
    rw [e1] at h7
    have h8 := congrArg (List.take (m * 1)) h7
    rw [List.take_take, List.take_left' (by unfold Lib.byteCells; simp [hm])] at h8
    rw [← h8]
    congr 1
    omega
theorem owns_last {w : World} {B m c : Nat} {a : Option Addr} {bs : List UInt8} {b : UInt8} (h : w.ownsRow B 5 1 (.slice a (m + 1) c) (m + 1) (Lib.byteCells (bs ++ [b]))) (hm : bs.length = m) :
    ∃ g, a = some ⟨g, 0, none⟩ ∧ w.cell? ⟨g, m, none⟩ = some (.int .u8 b.toNat) ∧ m + 1 ≤ c := by
  obtain ⟨h1, ⟨_, h0⟩ | ⟨g, cap, cur, e, h2, h3, h4, h5, h6, h7⟩⟩ := id h
  · omega
  · simp only [Value.slice.injEq] at e
    obtain ⟨rfl, _, rfl⟩ := e
    refine ⟨g, rfl, ?_, h4⟩
    have h8 := h.cells (g := g) rfl m (.int .u8 b.toNat) (by rw [Lib.byteCells_append, List.getElem?_append_right (by unfold Lib.byteCells; simp [hm])]; unfold Lib.byteCells; simp [hm])
    unfold Addr.add at h8
    by_cases he : m = 0
    · rw [if_pos he] at h8
      rw [he]
      exact h8
    · rw [if_neg he] at h8
      simpa using h8

/-- The bytes so far, in a row of the call's own, and nothing else changed. -/
def ByW (W : World) (a : Option Addr) (k c : Nat) (bs : List UInt8) (w' : World) : Prop := bs.length = k ∧ w'.ownsRow W.heap.size 5 1 (.slice a k c) k (Lib.byteCells bs) ∧ Below W.heap.size W w'
theorem ByW.conv {W w' : World} {a : Option Addr} {k c : Nat} {bs : List UInt8} (h : ByW W a k c bs w') (t : ByteArray) (ht : ⟨bs.toArray⟩ = t) : (convert 139 9 (.slice a k c)).run Tryz.prog w' = .ok (.string t) w' := by
  obtain ⟨rfl, h1, h2⟩ := h
  subst ht
  exact run_string (h1.mono (Nat.zero_le _))

/-- A slice's length. -/
def lenV : Value → Nat
  | .slice _ n _ => n
  | _ => 0

/-- The document's Done: what it hands back. -/
def RetDone (w : World) (x : St) (size : Nat) (e : Ending) (w' : World) : Prop :=
  e = .returned (.tuple #[.string ⟨(x.out size).toArray⟩, .bool (decide (x.trim.length ≤ size))]) ∧ Below w.heap.size w w'

set_option maxHeartbeats 2000000 in
theorem refDone_as (g n c : Nat) (x : St) (size : Nat) (w : World) (hR : RefAt w g n c x) (hg : x.g ≤ 100000) (hsz : size ≤ 4096) :
    Calls Tryz.prog 52 #[refV g n c x.r, .int .i64 size] w fun e w' => RetDone w x size e w' := by
  have hn := hR.n_eq
  have hnb : n ≤ 100004 := by omega
  have hn4 : 4 ≤ n := by omega
  have hnc := hR.n_le
  have HALL := Lib.hid (show dgs x.L n n = x.all by rw [hn]; rfl)
  have HTL := Lib.hid (show x.trim.length ≤ n by rw [hn]; exact trim_len x)
  obtain ⟨R, hRr⟩ : ∃ R : Int, (x.r : Int) = R := ⟨_, rfl⟩
  unfold refV
  rw [hRr]
  have HR := Lib.hid hR
  clear hR hn hg
  go_enter Tryz.func52, Tryz.ntmps52
  go_upto_region 3 with fail
  obtain ⟨W1, hW1⟩ : ∃ W1, w.alloc (.cells #[.slice (some ⟨g, 0, none⟩) n c, .int .i64 R] 85) = W1 := ⟨_, rfl⟩
  have hA1 := At.new w #[.slice (some ⟨g, 0, none⟩) n c, .int .i64 R] 85
  have hB1 := (Below.refl w.heap.size w).alloc (Nat.le_refl _) (.cells #[.slice (some ⟨g, 0, none⟩) n c, .int .i64 R] 85)
  rw [hW1] at hA1 hB1 ⊢
  have HR1 := Lib.hid (HR.out.below hB1)
  have HC0 := Lib.hid (show W1.cell? ⟨w.heap.size, 0, none⟩ = some (.slice (some ⟨g, 0, none⟩) n c) from hA1.cell 0)
  have HB1 := Lib.hid hB1
  clear hW1 hA1 hB1 HR
  have P1 : Hid (ByW W1 none 0 0 (dgs x.L n 0) W1) := ⟨rfl, World.ownsRow_nil _ _ _ _, Below.refl _ _⟩
  go_loopw [6, 7] (fun s i wr => ∃ k a c', k ≤ n ∧ s = .slice a k c' ∧ i = .int .i64 (k : Nat) ∧ ByW W1 a k c' (dgs x.L n k) wr) (fun _ i _ => (n - intOf i).toNat)
  case atStart => exact ⟨0, none, 0, Nat.zero_le _, rfl, rfl, P1.out⟩
  case round =>
    obtain ⟨k, a, c', hk, rfl, rfl, hP⟩ := hrel
    have HP := Lib.hid hP
    have c0 := (Below.cell HP.out.2.2 (block_lt_of_cell HC0.out)).trans HC0.out
    clear hP P1
    by_cases hlt : k < n
    · have hc := (HR1.out.below HP.out.2.2).cell k hlt
      have hD := dg_lt x.L n k
      have HDS := Lib.hid (dgs_succ x.L n k)
      obtain ⟨D, hDD⟩ : ∃ D, dg x.L n k = D := ⟨_, rfl⟩
      rw [hDD] at hc hD HDS
      have HY := Lib.hid (show ((UInt8.ofNat D).toNat : Int) = (D : Int) by rw [byte_nat (by omega)])
      have HLT := Lib.hid hlt
      clear hDD
      go_wp2_with (at_builtin; refine wpList_append_byteB rfl _ _ rfl W1.heap.size (dgs x.L n k) (UInt8.ofNat D) k a c' rfl HP.out.1 (HP.out.2.1.alloc _) wr.heap.size rfl (new_byte _ _ _ HY.out) (by omega) (by have := HP.out.2.2.size; simp; omega) ?_)
      intro g4 c4 w4 hO hB
      have HP4 : Hid (ByW W1 (some ⟨g4, 0, none⟩) (k + 1) c4 (dgs x.L n (k + 1)) w4) := ⟨dgs_length _ _ _, by rw [HDS.out]; exact hO, (HP.out.2.2.alloc HP.out.2.2.size _).trans hB⟩
      clear hO hB
      go_wp2
      go_roundw
      case rel => exact ⟨k + 1, _, _, HLT.out, rfl, by go_num, HP4.out⟩
      case measure => simp [intOf]; omega
    · obtain rfl : k = n := by omega
      have P2 : Hid (ByW W1 a k c' x.all wr) := HALL.out ▸ HP.out
      clear HP HALL hlt hk
      go_wp2
      go_loopw [6] (fun s wr => ∃ m a c' bs, m ≤ k ∧ s = .slice a m c' ∧ Hid (Lib.trimRightB bs 0 = x.trim) ∧ ByW W1 a m c' bs wr) (fun s _ => lenV s)
      case atStart => exact ⟨k, a, c', x.all, Nat.le_refl _, rfl, Lib.hid rfl, P2.out⟩
      case round =>
        obtain ⟨m, a, c', bs, hm, rfl, HT, hP⟩ := hrel
        have HP := Lib.hid hP
        clear hP P2
        have hcase : ∃ D, (m = 0 ∧ D = false ∧ bs = x.trim) ∨ (∃ m' b g2, m = m' + 1 ∧ a = some ⟨g2, 0, none⟩ ∧ wr.cell? ⟨g2, m', none⟩ = some (.int .u8 (b : Nat)) ∧ m' + 1 ≤ c' ∧ ((b ≠ 0 ∧ D = false ∧ bs = x.trim) ∨ (b = 0 ∧ D = true ∧ ∃ bs', Lib.trimRightB bs' 0 = x.trim ∧ ByW W1 a m' c' bs' wr))) := by
          obtain ⟨h1, h2, h3⟩ := HP.out
          rcases snoc_cases bs with rfl | ⟨bs', b, rfl⟩
          · exact ⟨false, .inl ⟨by simpa using h1.symm, rfl, HT.out⟩⟩
          · have hl : bs'.length + 1 = m := by simpa using h1
            subst hl
            obtain ⟨g2, hg2, hcl, hcap⟩ := owns_last h2 rfl
            by_cases hb : b = 0
            · subst hb
              exact ⟨true, .inr ⟨_, 0, g2, rfl, hg2, hcl, hcap, .inr ⟨rfl, rfl, bs', (trim_zero_end bs').symm.trans HT.out, rfl, owns_less h2 rfl, h3⟩⟩⟩
            · exact ⟨false, .inr ⟨_, b.toNat, g2, rfl, hg2, hcl, hcap, .inl ⟨fun e => hb (by rw [← UInt8.toNat_inj]; exact e), rfl, (trim_other_end bs' hb).symm.trans HT.out⟩⟩⟩
        obtain ⟨D, hcase⟩ := hcase
        have HCS := Lib.hid hcase
        go_upto_region 6 with fail
        go_cut [35] (fun s wx => s = .bool D ∧ wr = wx)
        case first =>
          clear HCS
          rcases hcase with ⟨rfl, rfl, _⟩ | ⟨m', b, g2, rfl, rfl, hcl, hcap, ⟨hb, rfl, _⟩ | ⟨rfl, rfl, _⟩⟩
          · go_wp2
            go_meet
            exact ⟨rfl, rfl⟩
          · go_wp2
            go_meet
            exact ⟨by first | rfl | simp [hb], rfl⟩
          · go_wp2
            go_meet
            exact ⟨rfl, rfl⟩
        case rest =>
          obtain ⟨rfl, rfl⟩ := hcut
          clear hcase
          cases D with
          | true =>
            have hh : ∃ m' g2, m = m' + 1 ∧ a = some ⟨g2, 0, none⟩ ∧ m' + 1 ≤ c' ∧ ∃ bs', Lib.trimRightB bs' 0 = x.trim ∧ ByW W1 a m' c' bs' wr := by
              rcases HCS.out with ⟨_, h, _⟩ | ⟨m', b, g2, e1, e2, _, hcap, ⟨_, h, _⟩ | ⟨_, _, bs', h1, h2⟩⟩
              · cases h
              · cases h
              · exact ⟨m', g2, e1, e2, hcap, bs', h1, h2⟩
            obtain ⟨m', g2, rfl, rfl, hcap, bs', h1, h2⟩ := hh
            have H1 := Lib.hid h1
            have H2 := Lib.hid h2
            clear h1 h2 HCS HP HT
            go_wp2
            go_roundw
            case rel => exact ⟨m', _, c', bs', by omega, by go_num, H1, H2.out⟩
            case measure => simp [lenV]
          | false =>
            have HBS := Lib.hid (show bs = x.trim by
              rcases HCS.out with ⟨_, _, h⟩ | ⟨m', b, g2, e1, e2, _, hcap, ⟨_, _, h⟩ | ⟨_, h, _⟩⟩
              · exact h
              · exact h
              · cases h)
            have P3 : Hid (ByW W1 a m c' x.trim wr) := HBS.out ▸ HP.out
            have hml : x.trim.length = m := P3.out.1
            have HML := Lib.hid hml
            clear HCS HP HT HBS HTL hm
            by_cases hbig : size < m
            · have HRD : Hid (RetDone w x size (.returned (.tuple #[.string ⟨#[]⟩, .bool false])) wr) := by
                refine ⟨?_, HB1.out.trans (P3.out.2.2.mono HB1.out.size)⟩
                have e1 : x.out size = [] := by unfold St.out; rw [if_neg (by omega)]
                rw [e1, decide_eq_false (show ¬ x.trim.length ≤ size by omega)]
              clear hml P3
              go_wp2
              go_ret2
              exact HRD.out
            · have hsm : m ≤ size := by omega
              have hsd : decide (size < m) = false := by simp; omega
              have hsd2 : decide ((size : Int) < (m : Int)) = false := by simp; omega
              have HO := Lib.hid (show x.trim ++ List.replicate (size - m) 0 = x.out size by unfold St.out St.text; rw [if_pos (by omega), hml])
              have HD := Lib.hid (show decide (x.trim.length ≤ size) = true from decide_eq_true (by omega))
              have P4 : Hid (ByW W1 a (m + 0) c' (x.trim ++ List.replicate 0 0) wr) := by simpa using P3
              clear hml hbig P3
              go_wp2
              go_loopw [6] (fun s wr => ∃ j a c', j ≤ size - m ∧ s = .slice a (m + j) c' ∧ ByW W1 a (m + j) c' (x.trim ++ List.replicate j 0) wr) (fun s _ => size - lenV s)
              case atStart => exact ⟨0, a, c', Nat.zero_le _, rfl, P4.out⟩
              case round =>
                obtain ⟨j, a, c', hj, rfl, hP⟩ := hrel
                have HP := Lib.hid hP
                clear hP P4
                by_cases hlt : j < size - m
                · have hjs : m + j < size := by omega
                  have HLT := Lib.hid hlt
                  clear hlt
                  go_wp2_with (at_builtin; refine wpList_append_byteB rfl _ _ rfl W1.heap.size (x.trim ++ List.replicate j 0) 0 (m + j) a c' rfl HP.out.1 (HP.out.2.1.alloc _) wr.heap.size rfl (new_byte _ _ _ rfl) (by omega) (by have := HP.out.2.2.size; simp; omega) ?_)
                  intro g4 c4 w4 hO hB
                  have HP4 : Hid (ByW W1 (some ⟨g4, 0, none⟩) (m + (j + 1)) c4 (x.trim ++ List.replicate (j + 1) 0) w4) := ⟨by rw [List.length_append, List.length_replicate, HML.out], by rw [List.replicate_succ']; exact hO, (HP.out.2.2.alloc HP.out.2.2.size _).trans hB⟩
                  clear hO hB
                  go_wp2
                  go_roundw
                  case rel =>
                    exact ⟨j + 1, _, _, HLT.out, rfl, HP4.out⟩
                  case measure => simp [lenV]; omega
                · obtain rfl : j = size - m := by omega
                  have hms : m + (size - m) = size := by omega
                  rw [hms] at HP ⊢
                  rw [HO.out] at HP
                  obtain ⟨t, ht⟩ : ∃ t : ByteArray, ⟨(x.out size).toArray⟩ = t := ⟨_, rfl⟩
                  have hcv := HP.out.conv t ht
                  have HRD : Hid (RetDone w x size (.returned (.tuple #[.string t, .bool true])) wr) := by
                    refine ⟨?_, HB1.out.trans (HP.out.2.2.mono HB1.out.size)⟩
                    rw [HD.out, ht]
                  clear ht hms hlt hj HD
                  go_wp2
                  go_ret2
                  exact HRD.out
end Go.Proofs.YtfohinlldchdpaaGreatDoor.Rg
end

section
/- The document's coder: Put, Used, Done, by values. -/
set_option maxRecDepth 100000
set_option linter.unusedVariables false
namespace Go.Proofs.YtfohinlldchdpaaGreatDoor.Rg
open Go.RowKit Go.Proofs.YtfohinlldchdpaaGreatDoor.Row

/-- The document's Put, of a cell that came in. -/
theorem RefAt.lt {w : World} {g n c : Nat} {x : St} (h : RefAt w g n c x) : g < w.heap.size := block_lt_of_cell (h.cell 0 (by have := h.n_eq; omega))

theorem refPut_at (g n c : Nat) (x : St) (C : Cl) (r s v t : Int) (w : World) (hr : (x.r : Int) = r) (hs : (C.s : Int) = s) (hv : (C.w : Int) = v) (ht : (C.t : Int) = t) (hR : RefAt w g n c x) (hx : x.ok) (hC : C.ok) (hg : x.g ≤ 100000) :
    Calls Tryz.prog 44 #[.agg #[.slice (some ⟨g, 0, none⟩) n c, .int .i64 r], .agg #[.int .i64 s, .int .i64 v, .int .i64 t]] w fun e w' => RetRef w (x.put C) e w' := by
  subst hr hs hv ht
  exact refPut_as g n c x C w hR hx hC hg

theorem refUsed_at (g n c : Nat) (x : St) (r u : Int) (w : World) (hr : (x.r : Int) = r) (hn : n = 4 + x.g) (hx : x.r ≤ 4294967295) (hg : x.g ≤ 100000) (hu : x.used = u) :
    Calls Tryz.prog 47 #[.agg #[.slice (some ⟨g, 0, none⟩) n c, .int .i64 r]] w fun e w' => e = .returned (.int .i64 u) ∧ Below w.heap.size w w' := by
  subst hr
  refine refUsed_as _ n c x.r u w (by omega) hx ?_
  rw [← hu, hn]
  unfold St.used
  omega

theorem refDone_at (g n c : Nat) (x : St) (r : Int) (size : Nat) (z : Int) (t : ByteArray) (B : Bool) (w : World) (hr : (x.r : Int) = r) (hz : (size : Int) = z) (ht : ⟨(x.out size).toArray⟩ = t) (hB : decide (x.trim.length ≤ size) = B) (hR : RefAt w g n c x) (hg : x.g ≤ 100000) (hsz : size ≤ 4096) :
    Calls Tryz.prog 52 #[.agg #[.slice (some ⟨g, 0, none⟩) n c, .int .i64 r], .int .i64 z] w fun e w' => e = .returned (.tuple #[.string t, .bool B]) ∧ Below w.heap.size w w' := by
  subst hr hz ht hB
  exact refDone_as g n c x size w hR hg hsz
end Go.Proofs.YtfohinlldchdpaaGreatDoor.Rg
end
