/- Contracts of the document's own pages (spoolref17). -/
import Derived.Test.YteahbdnnieaaaaaCrRf
import Derived.Test.YteahbdnnieaaaaaPaMath
import Derived.Test.YteahbdnnieaaaaaPg0
import Derived.Test.YteahbdnnieaaaaaFr
set_option maxRecDepth 100000
set_option linter.unusedVariables false
namespace Go.Proofs.Yteahbdnnieaaaaa.Pa
open Go.RowKit Go.Proofs.Yteahbdnnieaaaaa.Row Go.Proofs.Yteahbdnnieaaaaa.Crc

/-- A page as a value. -/
def pgV (p : Pv) : Array Value := #[.int .u32 p.e, .int .u32 p.n, .int .i64 p.k, .bool p.f, .bool p.l, .string ⟨p.d.toArray⟩]
instance (p : Pv) : Decidable p.right := by unfold Pv.right; infer_instance

theorem rb {a b : Bool} (h : a = b) : Ending.returned (.bool a) = .returned (.bool b) := by rw [h]
theorem refRight_any (p : Pv) (w : World) (hd : p.d.length ≤ maxLen) :
    Calls Try.prog 16 #[.agg (pgV p)] w fun e w' => e = .returned (.bool (decide p.right)) ∧ Below w.heap.size w w' := by
  obtain ⟨pe, pn, pk, pf, pl, pd⟩ := p
  unfold maxLen at hd
  have hs : (⟨pd.toArray⟩ : ByteArray).size = pd.length := by simp [ByteArray.size]
  unfold pgV Pv.right
  simp only
  obtain ⟨N, hN⟩ : ∃ N, pd.length = N := ⟨_, rfl⟩
  rw [hN] at hs
  simp only [hN] at hd ⊢
  go_enter Try.func16, Try.ntmps16
  go_wp2
  all_goals go_ret
  all_goals refine ⟨?_, (Below.refl _ _).alloc (Nat.le_refl _) _⟩
  all_goals refine rb ?_
  all_goals (cases pf <;> cases pl <;> simp_all <;> omega)

theorem below_drewP {B : Nat} {w0 w : World} (h : Below B w0 w) (k : Nat) : Below B w0 (w.drewN k) := ⟨h.os, h.tape, h.output, h.size, h.block⟩
/-- T holds the bytes b. -/
def Byts (b : List UInt8) (T : Array Value) : Prop := b.length = 64 ∧ IsRow8 64 (fun i => (B b i : Int)) T

theorem refFo_any (b : List UInt8) (T : Array Value) (hT : Byts b T) (at_ : Nat) (ha : at_ = 0 ∨ at_ = 4 ∨ at_ = 8) (w : World) :
    Calls Try.prog 24 #[.agg T, .int .i64 at_] w fun e w' => e = .returned (.int .u32 (fo b at_ : Nat)) ∧ Below w.heap.size w w' := by
  have hal : at_ + 3 < 64 := by omega
  have HT := Lib.hid hT.2
  have c0 : (w.alloc (.cells T 26)).drew.cell? ⟨w.heap.size, at_, none⟩ = some (.int .u8 (B b at_)) := hT.2.cell (At.new w T _) at_ (by omega)
  have c1 : (w.alloc (.cells T 26)).drew.cell? ⟨w.heap.size, at_ + 1, none⟩ = some (.int .u8 (B b (at_ + 1))) := hT.2.cell (At.new w T _) (at_ + 1) (by omega)
  have c2 : (w.alloc (.cells T 26)).drew.cell? ⟨w.heap.size, at_ + 2, none⟩ = some (.int .u8 (B b (at_ + 2))) := hT.2.cell (At.new w T _) (at_ + 2) (by omega)
  have c3 : (w.alloc (.cells T 26)).drew.cell? ⟨w.heap.size, at_ + 3, none⟩ = some (.int .u8 (B b (at_ + 3))) := hT.2.cell (At.new w T _) (at_ + 3) (by omega)
  have b0 := B_lt b at_
  have b1 := B_lt b (at_ + 1)
  have b2 := B_lt b (at_ + 2)
  have b3 := B_lt b (at_ + 3)
  have hf : fo b at_ = B b at_ + 256 * B b (at_ + 1) + 65536 * B b (at_ + 2) + 16777216 * B b (at_ + 3) := rfl
  generalize B b at_ = x0 at *
  generalize B b (at_ + 1) = x1 at *
  generalize B b (at_ + 2) = x2 at *
  generalize B b (at_ + 3) = x3 at *
  have HF := Lib.hid hf
  have HB := Lib.hid ((Below.refl w.heap.size w).alloc (Nat.le_refl _) (.cells T 26))
  clear hf hT hal
  rcases ha with rfl | rfl | rfl
  all_goals
    simp only [Nat.zero_add, Nat.reduceAdd] at c1 c2 c3
    go_enter Try.func24, Try.ntmps24
    go_wp2_with fail
    revert HB; revert c3; revert c2; revert c1; revert c0
    generalize hW : World.alloc w _ = W1
    generalize hg : w.heap.size = g
    intro c0 c1 c2 c3 HB
    clear hW
    have d0 : W1.cell? _ = some _ := c0
    have d1 : W1.cell? _ = some _ := c1
    have d2 : W1.cell? _ = some _ := c2
    have d3 : W1.cell? _ = some _ := c3
    go_quiet (fail)
    go_wp2
    go_ret
    exact ⟨by rw [HF.out]; rfl, by rw [hg]; exact below_drewP HB.out _⟩
end Go.Proofs.Yteahbdnnieaaaaa.Pa
