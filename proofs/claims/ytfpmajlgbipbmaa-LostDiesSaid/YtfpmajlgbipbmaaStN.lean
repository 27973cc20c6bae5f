/- Contracts: state.Next: what stands behind Back, and the moves through the regions that draw their order. -/
import Derived.Test.YtfpmajlgbipbmaaStM
import Derived.Test.YtfpmajlgbipbmaaStFl
set_option maxRecDepth 100000
set_option linter.unusedVariables false
namespace Go.Proofs.Ytfpmajlgbipbmaa.Sta
open Go.RowKit Go.Proofs.Ytfpmajlgbipbmaa.Row Go.Proofs.Ytfpmajlgbipbmaa.Md Go.Proofs.Ytfpmajlgbipbmaa.Tl

/-- What stands behind Back: the first (F) and the last (L) 16 numbers, side by side. -/
def Ny (w : World) (T V U A B P : Array Value) (c : Nat) (F L : Array Value) (w' : World) : Prop := Nx w T V U A B P w' ∧ w.heap.size + 1 + 1 + 1 + 1 + 1 + 1 ≤ c ∧ At w' c F 29 ∧ At w' (c + 1) L 29
theorem Ny.start {w W : World} {T V U A B P : Array Value} (h : Nx w T V U A B P W) (Z : Array Value) : Ny w T V U A B P W.heap.size Z Z ((W.alloc (.cells Z 29)).alloc (.cells Z 29)) := by
  have a1 := At.new (W.alloc (.cells Z 29)) Z 29
  simp only [World.size_alloc] at a1
  exact ⟨(h.alloc _).alloc _, h.2.1, (At.new _ _ _).alloc _, a1⟩
section
variable {w w1 w2 : World} {T V U A B P F L : Array Value} {c : Nat}
theorem Ny.below {n : Nat} (h : Ny w T V U A B P c F L w1) (hb : Below n w1 w2) (hn : c + 1 + 1 ≤ n) : Ny w T V U A B P c F L w2 := by
  obtain ⟨h0, h1, h2, h3⟩ := h
  exact ⟨h0.below hb (by omega), h1, h2.below hb (by omega), h3.below hb (by omega)⟩
theorem Ny.next (h : Ny w T V U A B P c F L w1) (hb : Below w1.heap.size w1 w2) : Ny w T V U A B P c F L w2 := h.below hb (by have := h.2.2.2.lt; omega)
theorem Ny.alloc (h : Ny w T V U A B P c F L w1) (o : Obj) : Ny w T V U A B P c F L (w1.alloc o) := h.next ((Below.refl _ _).alloc (Nat.le_refl _) o)
theorem Ny.drew (h : Ny w T V U A B P c F L w1) : Ny w T V U A B P c F L w1.drew := ⟨h.1.drew, h.2⟩
theorem Nx.other {b : Nat} (h : Nx w T V U A B P w1) (hb : w.heap.size + 1 + 1 + 1 + 1 + 1 + 1 ≤ b) (R : Array Value) : Nx w T V U A B P (w1.setRow b R) := by
  obtain ⟨h0, h1, h2, h3, h4, h5, h6, h7⟩ := h
  exact ⟨below_setRow' h0 (by omega) _, by rw [size_setRow]; exact h1, h2.setRow_other (by omega), h3.setRow_other (by omega), h4.setRow_other (by omega), h5.setRow_other (by omega), h6.setRow_other (by omega), h7.setRow_other (by omega)⟩
theorem Ny.setF (h : Ny w T V U A B P c F L w1) (R : Array Value) : Ny w T V U A B P c R L (w1.setRow c R) := by
  obtain ⟨h0, h1, h2, h3⟩ := h
  exact ⟨h0.other h1 _, h1, h2.setRow, h3.setRow_other (by omega)⟩
theorem Ny.setL (h : Ny w T V U A B P c F L w1) (R : Array Value) : Ny w T V U A B P c F R (w1.setRow (c + 1) R) := by
  obtain ⟨h0, h1, h2, h3⟩ := h
  exact ⟨h0.other (by omega) _, h1, h2.setRow_other (by omega), h3.setRow⟩
theorem Ny.other {b : Nat} (h : Ny w T V U A B P c F L w1) (hb : c + 1 + 1 ≤ b) (R : Array Value) : Ny w T V U A B P c F L (w1.setRow b R) := by
  obtain ⟨h0, h1, h2, h3⟩ := h
  exact ⟨h0.other (by omega) _, h1, h2.setRow_other (by omega), h3.setRow_other (by omega)⟩
theorem Ny.setP (h : Ny w T V U A B P c F L w1) (i : Nat) (v : Value) : Ny w T V U A B (P.setIfInBounds i v) c F L (w1.setCell ⟨w.heap.size + 1 + 1 + 1 + 1 + 1, i, none⟩ v) := by
  obtain ⟨h0, h1, h2, h3⟩ := h
  exact ⟨h0.setP i v, h1, h2.setCell_other (by dsimp only; omega), h3.setCell_other (by dsimp only; omega)⟩
end

/-- The state then, k numbers of Mem laid. -/
def mmF (u g : Nat → Int) (k j : Nat) : Int := if j < k then ct (bS u (16 + j)) else g j
theorem mm_0 (u g : Nat → Int) (j : Nat) : mmF u g 0 j = g j := by unfold mmF; rw [if_neg (by omega)]
theorem mm_next (u g : Nat → Int) (k j : Nat) : (if j = k then ct (bS u (16 + k)) else mmF u g k j) = mmF u g (k + 1) j := by
  unfold mmF
  by_cases c : j = k
  · rw [if_pos c, if_pos (by omega), c]
  · rw [if_neg c]
    by_cases c2 : j < k
    · rw [if_pos c2, if_pos (by omega)]
    · rw [if_neg c2, if_neg (by omega)]
theorem mm_set {u g : Nat → Int} {k : Nat} {p : Int} {P : Array Value} (hP : IsRow 38 (mmF u g k) P) (hk : k < 38) (hp : ct (bS u (16 + k)) = p) : IsRow 38 (mmF u g (k + 1)) (P.setIfInBounds k (.int .i64 p)) :=
  (hP.set p hk).ext fun j _ => by rw [← hp]; exact mm_next u g k j

/-- What is laid down behind a state. -/
def lyF (f u : Nat → Int) : Nat → Int := laS (f 16) (ovS f (bS u))
/-- The sound. -/
def soF (f u : Nat → Int) (k : Nat) : Int := ct16 (lyF f u k)
/-- The state then. -/
def nxF (f v u : Nat → Int) (z : Int) : Nat → Int := stF (fun i => ct (bS u (16 + i))) (lyF f u 15) v u z
theorem mm_end (f v u : Nat → Int) (z : Int) (j : Nat) : (if j = 16 then lyF f u 15 else mmF u (thF v u z) 16 j) = nxF f v u z j := by
  unfold mmF nxF thF stF
  by_cases c1 : j = 16
  · subst c1; rfl
  · rw [if_neg c1]
    by_cases c2 : j < 16
    · rw [if_pos c2, if_pos c2]
    · rw [if_neg c2, if_neg c2, if_neg c1, if_neg c2, if_neg c1]
theorem mm_last {f v u : Nat → Int} {z q : Int} {P : Array Value} (hP : IsRow 38 (mmF u (thF v u z) 16) P) (hq : lyF f u 15 = q) : IsRow 38 (nxF f v u z) (P.setIfInBounds 16 (.int .i64 q)) :=
  (hP.set q (show 16 < 38 by omega)).ext fun j _ => by rw [← hq]; exact mm_end f v u z j
theorem th_le {v u : Nat → Int} {z : Int} (h : Rt (thF v u z)) : Le 1048576 u := fun i hi => by
  have := h.2.2.2.1 i hi
  unfold thF at this
  dsimp only at this
  rwa [stF_wav _ _ _ _ _ hi] at this

theorem enter_over (args : Array Value) (w : World) : (callFunc 25 args).run Try.prog w = .ok (.enter 25 args) w := run_enter Try.func25 (by kernel_rfl) rfl args w
theorem enter_lay (args : Array Value) (w : World) : (callFunc 24 args).run Try.prog w = .ok (.enter 24 args) w := run_enter Try.func24 (by kernel_rfl) rfl args w
theorem enter_sound (args : Array Value) (w : World) : (callFunc 26 args).run Try.prog w = .ok (.enter 26 args) w := run_enter Try.func26 (by kernel_rfl) rfl args w
end Go.Proofs.Ytfpmajlgbipbmaa.Sta
