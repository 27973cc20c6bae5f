/- Contracts of the statements' own awake and few. -/
import Derived.Test.YtcahdjkmegnbfaaDkL
set_option maxRecDepth 100000
set_option linter.unusedVariables false
set_option linter.unusedSimpArgs false
namespace Go.Proofs.Ytcahdjkmegnbfaa.Dk
open Go.RowKit Go.Proofs.Ytcahdjkmegnbfaa.Row

/-- The page that begins with 1. -/
def oneP : Array Value := zP.setIfInBounds 0 (.int .u8 1)
theorem row_one : IsRow8 64 (fun k => if k = 0 then 1 else 0) oneP := isRow8_of (by unfold oneP zP; simp) fun k hk => by
  unfold oneP
  by_cases e : k = 0
  · subst e
    rw [Array.getElem?_setIfInBounds_self_of_lt (by unfold zP; simp), if_pos rfl]
  · rw [Array.getElem?_setIfInBounds_ne (Ne.symm e), row_z.2.2 k hk, if_neg e]
theorem pag_one : Pag oneP := ⟨_, row_one⟩
theorem built_one : Try.prog.built 36 [(0, .int .u8 1)] = some oneP := by kernel_rfl
theorem same_page {P : Array Value} (hP : Pag P) (w : World) : (Op.equalIn 10000 36 (.agg P) (.agg P)).run Try.prog w = .ok true w := by
  obtain ⟨b, h1, h2⟩ := pag_eq hP hP
  rw [h2 w, h1.2 rfl]
theorem At.rng {w : World} {g : Nat} {P : Array Value} {t : TypeId} (h : At w g P t) : w.rangeAt g 0 P.toList := fun j v hj => by
  rw [Array.getElem?_toList] at hj
  rw [Nat.zero_add, h.cell j, hj]

/-- A page that is kept in a new variable. -/
def Var (G : Nat → Prop) (w : World) (g : Nat) (P : Array Value) : Prop := G g ∧ At w g P 36
theorem Var.kp {G : Nat → Prop} {w w' : World} {g : Nat} {P : Array Value} (h : Var G w g P) (k : Kp G w w') : Var G w' g P := ⟨h.1, k.at h.1 h.2⟩
theorem DkL.var {w0 w : World} {b N : Nat} {d : Dsk} {G : Nat → Prop} (h : DkL w0 b N d G w) (P : Array Value) : DkL w0 b N d (Plus G w.heap.size) (w.alloc (.cells P 36)) ∧ Var (Plus G w.heap.size) (w.alloc (.cells P 36)) w.heap.size P :=
  ⟨h.alloc _, .inr rfl, At.new _ _ _⟩
theorem Var.alloc {G : Nat → Prop} {w : World} {g : Nat} {P : Array Value} (h : Var G w g P) (o : Obj) : Var (Plus G w.heap.size) (w.alloc o) g P := ⟨.inl h.1, h.2.alloc o⟩

theorem slB_nil (w : World) (t : Nat → Bool) : SlB w none 0 0 t := ⟨Nat.le_refl _, Nat.zero_le _, fun h => absurd h (Nat.lt_irrefl _)⟩

/-! The example's disks. -/
def dA : Dsk := (fresh zP 4).writeD 0 oneP
def dB : Dsk := (dA.readD 0).crashed (keepB 0 fun _ => false)
def dC : Dsk := (dB.readD 0).upped
theorem eA : (fresh zP 4).writeE 0 = 0 := rfl
theorem eB : dA.readP zP 0 = oneP ∧ dA.reach 0 = 0 := ⟨rfl, rfl⟩
theorem eC : dB.readP zP 0 = zP ∧ dB.reach 0 = 7 := ⟨rfl, rfl⟩
theorem eD : dC.readP zP 0 = zP ∧ dC.reach 0 = 0 := ⟨rfl, rfl⟩

set_option maxHeartbeats 2000000 in
theorem awake_as (w : World) : Calls Try.prog 8 #[] w fun e w' => e = .returned (.bool true) ∧ Below w.heap.size w w' := by
  have hz := zero_page
  have w0 : (Lit.int .i64 0).wf = true := by decide
  go_enter Try.func8, Try.ntmps8
  go_wp2_with fail
  refine (new_L (w0 := w) (w := w) (G := fun _ => False) 4 (by omega) (by omega) (Below.refl _ _) (fun k h => h.elim)).mono ?_
  rintro e w1 ⟨b, rfl, h1, _⟩
  have H1 := Lib.hid h1
  clear h1
  go_wp2_with (refine wpList_build_parts (by rfl) 36 [(0, _)] rfl _ rfl built_one ?_)
  refine (write_L H1.out 0 oneP pag_one w0 (by omega)).mono ?_
  rintro e w2 ⟨rfl, h2, _⟩
  have H2 := Lib.hid (show DkL w b 1 dA _ w2 from h2)
  rw [eA]
  clear h2 H1
  go_wp2_with fail
  refine (read_L H2.out 0 w0 (by omega)).mono ?_
  rintro e w3 ⟨rfl, h3, _⟩
  have H3 := Lib.hid (h3.var oneP)
  rw [eB.1, eB.2]
  clear h3 H2
  go_wp2_with (refine wpList_store_row rfl 36 _ _ rfl w3.heap.size oneP rfl rfl _ _ (heap_alloc_new _ _) (info_pag pag_one) rfl pag_one.one ?_; rw [World.setRow_alloc_new])
  revert H3
  generalize Plus (fun _ => False) w3.heap.size = G3
  generalize w3.heap.size = g3
  generalize World.alloc _ _ = W3
  intro H3
  have H3d := Lib.hid H3.out.1
  have V3 := Lib.hid H3.out.2
  clear H3
  refine (crash_L H3d.out (by omega) none 0 0 (fun _ => false) (slB_nil _ _) (fun h => absurd h (Nat.lt_irrefl _))).mono ?_
  rintro e w4 ⟨rfl, h4, k4⟩
  have H4 := Lib.hid (show DkL w b 2 dB _ w4 from h4)
  have V4 := Lib.hid (V3.out.kp k4)
  clear h4 k4 H3d V3
  go_wp2_with fail
  refine (read_L H4.out 0 w0 (by omega)).mono ?_
  rintro e w5 ⟨rfl, h5, k5⟩
  have H5 := Lib.hid (h5.var zP)
  have V5 := Lib.hid ((V4.out.kp k5).alloc (.cells zP 36))
  rw [eC.1, eC.2]
  clear h5 k5 H4 V4
  go_wp2_with (refine wpList_store_row rfl 36 _ _ rfl w5.heap.size zP rfl rfl _ _ (heap_alloc_new _ _) (info_pag pag_z) rfl pag_z.one ?_; rw [World.setRow_alloc_new])
  revert H5 V5
  generalize Plus G3 w5.heap.size = G5
  generalize w5.heap.size = g5
  generalize World.alloc _ _ = W5
  intro H5 V5
  have H5d := Lib.hid H5.out.1
  clear H5
  refine (up_L H5d.out).mono ?_
  rintro e w6 ⟨rfl, h6, k6⟩
  have H6 := Lib.hid (show DkL w b 3 dC _ w6 from h6)
  have V6 := Lib.hid (V5.out.kp k6)
  clear h6 k6 H5d V5
  go_wp2_with fail
  refine (read_L H6.out 0 w0 (by omega)).mono ?_
  rintro e w7 ⟨rfl, h7, k7⟩
  have H7 := Lib.hid (h7.var zP)
  have V7 := Lib.hid ((V6.out.kp k7).alloc (.cells zP 36))
  rw [eD.1, eD.2]
  clear h7 k7 H6 V6
  go_wp2_with (first
    | (refine wpList_store_row rfl 36 _ _ rfl w7.heap.size zP rfl rfl _ _ (heap_alloc_new _ _) (info_pag pag_z) rfl pag_z.one ?_
       rw [World.setRow_alloc_new]
       revert H7 V7
       generalize Plus G5 w7.heap.size = G7
       generalize w7.heap.size = g7
       generalize World.alloc _ _ = W7
       intro H7 V7)
    | refine wpList_load_range (by rfl) 36 _ rfl g3 0 rfl (At.rng V7.out.2) Try.underlying36 rfl (info_pag pag_one) ?_
    | refine wpList_load_range (by rfl) 36 _ rfl g7 0 rfl (At.rng H7.out.2.2) Try.underlying36 rfl (info_pag pag_z) ?_
    | refine wpList_build_parts (by rfl) 36 [(0, _)] rfl _ rfl built_one ?_
    | refine wpList_build_parts (by rfl) 36 [] rfl _ rfl built_z ?_
    | refine wpList_y (y_eql (by rfl) rfl rfl rfl (by kernel_rfl) (same_page pag_one)) ?_
    | refine wpList_y (y_eql (by rfl) rfl rfl rfl (by kernel_rfl) (same_page pag_z)) ?_)
  go_ret
  exact ⟨rfl, H7.out.1.1⟩

def zA : Array Value := #[.int .u8 0, .int .i64 0] ++ zP ++ #[.slice none 0 0]
theorem elt_a : ElT 22 39 67 104 zA :=
  ⟨Try.underlying22, ⟨_, _, rfl, rfl, by kernel_rfl, by kernel_rfl, by kernel_rfl⟩, by kernel_rfl, by omega, by omega⟩
/-- What few answers. -/
def RetFew (w : World) (n : Nat) (A : Nat → Ac) (e : Ending) (w' : World) : Prop := ∃ bb, e = .returned (.bool bb) ∧ w' = w ∧ (bb = true → n ≤ 60 ∧ ∀ i, i < n → (A i).kn ≤ 200)
set_option maxHeartbeats 1000000 in
theorem few_as (w : World) (a : Option Addr) (n c : Nat) (A : Nat → Ac) (h : SlA w a n c A) : Calls Try.prog 9 #[.slice a n c] w (RetFew w n A) := by
  have HA := Lib.hid h
  clear h
  go_enter Try.func9, Try.ntmps9
  go_wp2_with fail
  go_loopw [3] (fun i w' => ∃ k : Nat, k ≤ n ∧ k ≤ 61 ∧ i = .int .i64 k ∧ w' = w ∧ Hid (∀ j, j < k → (A j).kn ≤ 200)) (fun i _ => n - (intOf i).toNat)
  case atStart => exact ⟨0, Nat.zero_le _, by omega, rfl, rfl, Lib.hid fun j hj => absurd hj (Nat.not_lt_zero j)⟩
  case round =>
    obtain ⟨k, hk, hk6, rfl, rfl, HK⟩ := hrel
    by_cases hlt : k < n
    · have k1 : (k : Int) < (n : Int) := by omega
      by_cases h60 : k ≤ 60
      · have k2 : (k : Int) ≤ 60 := by omega
        obtain ⟨g, o, hg, hat⟩ := HA.out.2.2 (by omega)
        have hc := (hat k hlt).2.2.2.1
        have rx := run_ex (g := g) (o := o) (n := n) (c := c) elt_a hlt
        subst hg
        obtain ⟨q, hq⟩ : ∃ q, (A k).kn = q := ⟨_, rfl⟩
        have HQ := Lib.hid hq
        rw [hq] at hc
        clear hat hq
        by_cases hq2 : q ≤ 200
        · have k3 : ¬ (200 : Int) < (q : Int) := by omega
          go_wp2_with fail
          go_roundw
          case rel => exact ⟨k + 1, by omega, by omega, by go_num, by first | rfl | trivial, Lib.hid fun j hj => by
            by_cases e : j = k
            · subst e; rw [HQ.out]; exact hq2
            · exact HK.out j (by omega)⟩
          case measure => simp [intOf]; omega
        · have k3 : (200 : Int) < (q : Int) := by omega
          go_wp2_with fail
          go_ret
          exact ⟨false, rfl, rfl, fun h => by cases h⟩
      · have k2 : ¬ (k : Int) ≤ 60 := by omega
        go_wp2_with fail
        go_ret
        exact ⟨_, rfl, rfl, fun h => by simp at h; omega⟩
    · obtain rfl : k = n := by omega
      have k1 : ¬ (k : Int) < (k : Int) := by omega
      go_wp2_with fail
      go_ret
      exact ⟨_, rfl, rfl, fun h => ⟨by simp at h; omega, HK.out⟩⟩
end Go.Proofs.Ytcahdjkmegnbfaa.Dk
