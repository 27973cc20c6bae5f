/- What Next makes. -/
import Derived.Test.YtfpmajlgbipbmaaStO
import Derived.Test.YtfpmajlgbipbmaaRowParD
set_option maxRecDepth 100000
set_option linter.unusedVariables false
namespace Go.Proofs.Ytfpmajlgbipbmaa.Sta
open Go.RowKit Go.Proofs.Ytfpmajlgbipbmaa.Row Go.Proofs.Ytfpmajlgbipbmaa.Md Go.Proofs.Ytfpmajlgbipbmaa.Tl

theorem enter_next (args : Array Value) (w : World) : (callFunc 17 args).run Try.prog w = .ok (.enter 17 args) w := run_enter Try.func17 (by kernel_rfl) rfl args w

theorem next_as {T V U R Q : Array Value} {z : Int} {h g : Nat → Int} (H : ∀ w, Calls Try.prog 17 #[.agg T, .agg V, .agg U, .int .i64 z] w (RetNx w h g)) (hR : IsRow 16 h R) (hQ : IsRow 38 g Q) (w : World) :
    Calls Try.prog 17 #[.agg T, .agg V, .agg U, .int .i64 z] w fun e w' => e = .returned (.tuple #[.agg R, .agg Q]) ∧ Below w.heap.size w w' := by
  refine (H w).mono ?_
  rintro e w' ⟨⟨R', Q', rfl, h1, h2⟩, hb⟩
  obtain rfl := h1.eq hR fun _ _ => rfl
  obtain rfl := h2.eq hQ fun _ _ => rfl
  exact ⟨rfl, hb⟩

theorem ct_zero : ct 0 = 0 := by unfold ct; omega
theorem bs_zero (i : Nat) (hi : i < 32) : bS (fun _ => 0) i = 0 := by
  have h : ∀ i : Fin 32, bS (fun _ => 0) i.val = 0 := by decide +kernel
  exact h ⟨i, hi⟩
theorem nx_right {f v u : Nat → Int} {z : Int} (h : Rt (thF v u z)) : Rt (nxF f v u z) := by
  obtain ⟨h1, h2, h3, h4, h5⟩ := h
  unfold thF at h1 h2 h3 h4 h5
  refine ⟨fun i hi => ?_, ?_, fun i hi => ?_, fun i hi => ?_, ?_⟩ <;> unfold nxF
  · rw [stF_mem _ _ _ _ _ hi]; exact ct_bd _
  · rw [stF_last]; exact out_bd _ _ _
  · rw [stF_lev _ _ _ _ _ hi]
    have := h3 i hi
    rwa [stF_lev _ _ _ _ _ hi] at this
  · have := h4 i hi
    dsimp only at this ⊢
    rw [stF_wav _ _ _ _ _ hi] at this ⊢
    exact this
  · rw [stF_lost] at h5 ⊢; exact h5
/-- Whatever is handed in: what comes out is right. -/
theorem next_any {T V U : Array Value} {f v u : Nat → Int} (z : Int) (hT : IsRow 38 f T) (hV : IsRow 4 v V) (hU : IsRow 16 u U) :
    ∃ R Q h g, (∀ w, Calls Try.prog 17 #[.agg T, .agg V, .agg U, .int .i64 z] w fun e w' => e = .returned (.tuple #[.agg R, .agg Q]) ∧ Below w.heap.size w w') ∧ IsRow 16 h R ∧ IsRow 38 g Q ∧ (∀ i, -32768 ≤ h i ∧ h i ≤ 32767) ∧ Rt g := by
  by_cases h1 : Rt f ∧ Rt (thF v u z)
  · exact ⟨_, _, soF f u, nxF f v u z, next_as (next_yes T V U f v u z hT hV hU h1.1 h1.2) (isRow _ _) (isRow _ _), isRow _ _, isRow _ _, fun i => ct16_bd _, nx_right h1.2⟩
  · have h2 : ¬ Rt f ∨ Rt f ∧ ¬ Rt (thF v u z) := by
      by_cases h3 : Rt f
      · exact .inr ⟨h3, fun h4 => h1 ⟨h3, h4⟩⟩
      · exact .inl h3
    exact ⟨_, _, fun _ => 0, fun _ => 0, next_as (next_no T V U f v u z hT hV hU h2) (isRow _ _) (isRow _ _), isRow _ _, isRow _ _, fun i => by dsimp only; omega, rt_zero⟩

/-! Of no waves behind no Mem. -/
theorem ly_die {f : Nat → Int} (hf : ∀ i, i < 16 → f i = 0) (hl : -2097152 ≤ f 16 ∧ f 16 ≤ 2097151) (k : Nat) (hk : k < 16) : lyF f (fun _ => 0) k = dieS (f 16) (k + 1) := by
  unfold lyF laS
  rw [← out_zero hl]
  refine out_ext (n := 16) (fun i hi => ?_) (k + 1) (by omega)
  unfold ovS
  rw [hf i hi, bs_zero i (by omega)]
  simp [ct_zero]
theorem die_zero : ∀ k, dieS 0 k = 0
  | 0 => rfl
  | k + 1 => by
    have := die_zero k
    unfold dieS
    rw [this]
    first | exact prt_zero | rfl
theorem ly_zero (k : Nat) (hk : k < 16) : lyF (fun _ => 0) (fun _ => 0) k = 0 := by
  rw [ly_die (fun _ _ => rfl) (by omega) k hk]
  exact die_zero _
theorem so_zero (k : Nat) (hk : k < 16) : soF (fun _ => 0) (fun _ => 0) k = 0 := by
  unfold soF; rw [ly_zero k hk]; decide
theorem nx_zero (k : Nat) (hk : k < 38) : nxF (fun _ => 0) (fun _ => 0) (fun _ => 0) 0 k = 0 := by
  unfold nxF stF
  split
  · dsimp only
    rw [bs_zero _ (by omega), ct_zero]
  · split
    · exact ly_zero 15 (by omega)
    · split
      · rfl
      · split <;> rfl
theorem th_zero : Rt (thF (fun _ => 0) (fun _ => 0) 0) := rt_zero.ext fun k hk => by
  unfold thF stF
  repeat' split
  all_goals rfl
/-- Of nothing behind nothing all is nothing. -/
theorem next_zero {T V U R Q : Array Value} (hT : IsRow 38 (fun _ => 0) T) (hV : IsRow 4 (fun _ => 0) V) (hU : IsRow 16 (fun _ => 0) U) (hR : IsRow 16 (fun _ => 0) R) (hQ : IsRow 38 (fun _ => 0) Q) (w : World) :
    Calls Try.prog 17 #[.agg T, .agg V, .agg U, .int .i64 0] w fun e w' => e = .returned (.tuple #[.agg R, .agg Q]) ∧ Below w.heap.size w w' :=
  next_as (next_yes T V U _ _ _ 0 hT hV hU rt_zero th_zero) (hR.ext fun k hk => (so_zero k hk).symm) (hQ.ext fun k hk => (nx_zero k hk).symm) w

/-- Three rows that came in, side by side, and all that stood. -/
def Tri (w : World) (T V U : Array Value) (t v u : TypeId) (w' : World) : Prop := Below w.heap.size w w' ∧ At w' w.heap.size T t ∧ At w' (w.heap.size + 1) V v ∧ At w' (w.heap.size + 1 + 1) U u
theorem Tri.start (w : World) (T V U : Array Value) (t v u : TypeId) : Tri w T V U t v u (((w.alloc (.cells T t)).alloc (.cells V v)).alloc (.cells U u)) := by
  have a1 := At.new (w.alloc (.cells T t)) V v
  have a2 := At.new ((w.alloc (.cells T t)).alloc (.cells V v)) U u
  simp only [World.size_alloc] at a1 a2
  exact ⟨(((Below.refl _ _).alloc (Nat.le_refl _) _).alloc (by simp) _).alloc (by simp; omega) _, ((At.new _ _ _).alloc _).alloc _, a1.alloc _, a2⟩
theorem Tri.next {w w1 w2 : World} {T V U : Array Value} {t v u : TypeId} (h : Tri w T V U t v u w1) (hb : Below w1.heap.size w1 w2) : Tri w T V U t v u w2 :=
  ⟨below_trans h.1 hb h.1.size, h.2.1.below hb h.2.1.lt, h.2.2.1.below hb h.2.2.1.lt, h.2.2.2.below hb h.2.2.2.lt⟩
theorem Tri.alloc {w w1 : World} {T V U : Array Value} {t v u : TypeId} (h : Tri w T V U t v u w1) (o : Obj) : Tri w T V U t v u (w1.alloc o) := h.next ((Below.refl _ _).alloc (Nat.le_refl _) o)

/-- Two rows, side by side, behind all that stood. -/
def Duo (w : World) (b : Nat) (A B : Array Value) (t u : TypeId) (w' : World) : Prop := Below w.heap.size w w' ∧ w.heap.size ≤ b ∧ At w' b A t ∧ At w' (b + 1) B u
theorem Duo.start {w w1 : World} (h : Below w.heap.size w w1) (A B : Array Value) (t u : TypeId) : Duo w w1.heap.size A B t u ((w1.alloc (.cells A t)).alloc (.cells B u)) := by
  have a1 := At.new (w1.alloc (.cells A t)) B u
  simp only [World.size_alloc] at a1
  have := h.size
  exact ⟨(h.alloc (by omega) _).alloc (by simp; omega) _, by omega, (At.new _ _ _).alloc _, a1⟩
theorem Duo.next {w w1 w2 : World} {b : Nat} {A B : Array Value} {t u : TypeId} (h : Duo w b A B t u w1) (hb : Below w1.heap.size w1 w2) : Duo w b A B t u w2 :=
  ⟨below_trans h.1 hb h.1.size, h.2.1, h.2.2.1.below hb h.2.2.1.lt, h.2.2.2.below hb h.2.2.2.lt⟩
theorem Duo.set1 {w w1 : World} {b : Nat} {A B : Array Value} {t u : TypeId} (h : Duo w b A B t u w1) (C : Array Value) : Duo w b C B t u (w1.setRow b C) :=
  ⟨below_setRow' h.1 h.2.1 _, h.2.1, h.2.2.1.setRow, h.2.2.2.setRow_other (by omega)⟩
theorem Duo.set2 {w w1 : World} {b : Nat} {A B : Array Value} {t u : TypeId} (h : Duo w b A B t u w1) (C : Array Value) : Duo w b A C t u (w1.setRow (b + 1) C) :=
  ⟨below_setRow' h.1 (by have := h.2.1; omega) _, h.2.1, h.2.2.1.setRow_other (by omega), h.2.2.2.setRow⟩
end Go.Proofs.Ytfpmajlgbipbmaa.Sta
