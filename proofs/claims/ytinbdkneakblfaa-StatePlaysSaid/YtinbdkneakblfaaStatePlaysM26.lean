/- Texts of the walk, one behind the other. -/
import Derived.Test.YtinbdkneakblfaaStatePlaysM25
import Derived.Laws.EntriesVeiled

section
/- Contracts: state.Bytes. -/
set_option maxRecDepth 100000
set_option linter.unusedVariables false
namespace Go.Proofs.Ytinbdkneakblfaa.Sta
open Go.RowKit Go.Proofs.Ytinbdkneakblfaa.Row

/-- A text and a number. -/
def RetTx (w : World) (l : List UInt8) (n : Int) (e : Ending) (w' : World) : Prop := e = .returned (.tuple #[.string ⟨l.toArray⟩, .int .i64 n]) ∧ Below w.heap.size w w'

/-- What stands while a state's bytes are written: the state, the box of the slice, the bytes. -/
def BtS (w : World) (T : Array Value) (b g k : Nat) (l : List UInt8) (w' : World) : Prop :=
  Below w.heap.size w w' ∧ w.heap.size < b ∧ w.heap.size < g ∧ b ≠ g ∧ At w' w.heap.size T 32 ∧ At w' b #[.slice (some ⟨g, 0, none⟩) k 137] 48 ∧ TxtAt 137 w' g l ∧ l.length = k
theorem BtS.wd {w w1 : World} {T : Array Value} {b g k : Nat} {l : List UInt8} (h : BtS w T b g k l w1) : WdI w1 b g k l w1 := ⟨Fr.refl _ _, h.2.2.2.2.2.1, h.2.2.2.2.2.2.1, h.2.2.2.2.2.2.2, h.2.2.2.1⟩
theorem BtS.words {w w1 w2 : World} {T : Array Value} {b g k k' : Nat} {l l' : List UInt8} (h : BtS w T b g k l w1) (hw : WdI w1 b g k' l' w2) : BtS w T b g k' l' w2 := by
  obtain ⟨h1, h2, h3, h4, h5, h6, h7, h8⟩ := h
  obtain ⟨g1, g2, g3, g4, g5⟩ := hw
  exact ⟨h1.trans (g1.below h1.size (by unfold Two; omega)), h2, h3, h4, h5.fr g1 (by unfold Two; omega), g2, g3, g4⟩
theorem BtS.next {w w1 w2 : World} {T : Array Value} {b g k : Nat} {l : List UInt8} (h : BtS w T b g k l w1) (hb : Below w1.heap.size w1 w2) : BtS w T b g k l w2 := by
  obtain ⟨h1, h2, h3, h4, h5, h6, h7, h8⟩ := h
  exact ⟨below_trans h1 hb h1.size, h2, h3, h4, h5.below hb h5.lt, h6.below hb h6.lt, h7.below hb, h8⟩
theorem BtS.alloc {w w1 : World} {T : Array Value} {b g k : Nat} {l : List UInt8} (h : BtS w T b g k l w1) (o : Obj) : BtS w T b g k l (w1.alloc o) := h.next ((Below.refl _ _).alloc (Nat.le_refl _) o)
theorem BtS.putr {w w1 : World} {T : Array Value} {b g k j r : Nat} {l m : List UInt8} {C : Array Value} (h : BtS w T b g k l w1) (hj : m.length = j) (hr : k + j = r) (hC : TxtAt 137 (w1.setRow g C) g (l ++ m)) :
    BtS w T b g r (l ++ m) ((w1.setRow g C).setCell ⟨b, 0, none⟩ (.slice (some ⟨g, 0, none⟩) r 137)) := by
  subst hr
  exact h.words (h.wd.put hj hC)
theorem BtS.start {w W1 W2 : World} {T : Array Value} (hA : At W1 w.heap.size T 32) (hB : Below w.heap.size w W1)
    (hown : W2.ownsRow 0 5 1 (.slice (some ⟨W1.heap.size, 0, none⟩) 0 137) 0 []) (hgr : W1.grownBy W2 none) :
    BtS w T W2.heap.size W1.heap.size 0 [] (W2.alloc (.cells #[.slice (some ⟨W1.heap.size, 0, none⟩) 0 137] 48)) := by
  obtain ⟨_, ho⟩ := hown
  rcases ho with ⟨ho, _⟩ | ⟨g, cap, cur, e, _, hg, _, _, hs, _⟩
  · cases ho
  · simp only [Value.slice.injEq, Option.some.injEq, Addr.mk.injEq] at e
    obtain ⟨⟨rfl, _⟩, _, rfl⟩ := e
    have hg' : At W2 W1.heap.size cur 5 := hg
    have hf : Fr (fun _ => False) w W2 := (Fr.of_below hB).grown hgr fun k h => by cases h
    have hf1 : Fr (fun _ => False) W1 W2 := (Fr.refl _ _).grown hgr fun k h => by cases h
    have h1 := hg'.lt
    have h2 := hA.lt
    refine ⟨(hf.alloc _).none, by omega, h2, by omega, (hA.fr hf1 (fun h => h)).alloc _, At.new _ _ _, (TxtAt.nil hg' (by omega)).below ((Below.refl _ _).alloc (Nat.le_refl _) _), rfl⟩

theorem bytes_no (T : Array Value) (f : Nat → Int) (w : World) (hT : IsRow 38 f T) (h : ¬ Rt f) : Calls Try.prog 10 #[.agg T] w (RetTx w [] 1) := by
  obtain ⟨Z, hZ, hZ0, hz, hi⟩ := zero_p
  have HI := Lib.hid hi
  have HT := Lib.hid hT
  have HN := Lib.hid h
  have HA := Lib.hid (At.new w T 32)
  have HB := Lib.hid ((Below.refl w.heap.size w).alloc (Nat.le_refl _) (.cells T 32))
  clear hT hZ0 hi hZ h
  go_enter Try.func10, Try.ntmps10
  go_wp2_with (refine wpList_load_all (by rfl) 32 _ rfl w.heap.size rfl HT.out HA.out Try.underlying32 rfl HI.out ?_)
  revert HA HB
  generalize w.alloc (.cells T 32) = W
  intro HA HB
  refine (right_no T f W HT.out HN.out).mono ?_
  rintro e w1 ⟨rfl, hw⟩
  have HB1 := Lib.hid (below_trans HB.out hw HB.out.size)
  clear hw
  go_wp2_with fail
  go_ret2
  exact ⟨rfl, HB1.out⟩

theorem wds_add (f : Nat → Int) (x : Int) (n : Nat) (h : f n = x) : wds f n ++ wds (fun _ => x) 1 = wds f (n + 1) := by rw [wds, wds, wds, h]; rfl
theorem bts_0 (f : Nat → Int) (l : List UInt8) : l ++ bts f 0 = l := by rw [bts, List.append_nil]
theorem bts_s (f : Nat → Int) (k : Nat) (x : Int) (h : f k = x) (l : List UInt8) : (l ++ bts f k) ++ byteL x = l ++ bts f (k + 1) := by rw [bts, h, List.append_assoc]
theorem st_end (f : Nat → Int) (x : Int) (h : f 37 = x) : ((wds f 17 ++ bts (fun i => f (17 + i)) 4) ++ wds (fun i => f (21 + i)) 16) ++ byteL x = stL f := by
  unfold stL; rw [h, List.append_assoc, List.append_assoc]
theorem byte_is (x : Int) (h1 : 0 ≤ x) (h2 : x ≤ 255) : byteL x = [UInt8.ofNat x.toNat] ∧ ((UInt8.ofNat x.toNat).toNat : Int) = x := by
  unfold byteL
  rw [Int.emod_eq_of_lt h1 (by omega)]
  exact ⟨rfl, by rw [Crc.ofNat_toNat _ (by omega)]; omega⟩
theorem byteL_len (x : Int) : (byteL x).length = 1 := rfl
/-- One byte appended, from a slice that was made for it. -/
theorem src_byte {W : World} (x : Int) (h1 : 0 ≤ x) (h2 : x ≤ 255) : Src Try.prog 1 48 (.slice (some ⟨W.heap.size, 0, none⟩) 1 1) 1 (bv (byteL x)) (W.alloc (.cells #[.int .u8 x] 5)) := by
  obtain ⟨e1, e2⟩ := byte_is x h1 h2
  rw [e1]
  refine src_one ?_
  rw [e2]
  rw [cell_of_row _ _ 0 _ _ _ (At.new W #[.int .u8 x] 5)]
  rfl
end Go.Proofs.Ytinbdkneakblfaa.Sta
end
