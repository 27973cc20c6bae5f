/- A disk, without the program: pages are rows of cells; what is read, what is kept. -/
import Derived.Test.YtbbeekpndhfpjaaRow
set_option maxRecDepth 100000
set_option linter.unusedVariables false
namespace Go.Proofs.Ytbbeekpndhfpjaa.Dk

/-- A disk: how many sectors, whether it is down, its fuse, what is sure, the writes that aren't (n; of which sectors, which pages), and how many times each was read. -/
structure Dsk where
  size : Nat
  down : Bool
  fuse : Int
  sure : Int → Array Value
  n : Nat
  sec : Nat → Int
  pg : Nat → Array Value
  reads : Int → Int

/-- Of the first n writes the last one of sector i. -/
def lastOf (sec : Nat → Int) (i : Int) : Nat → Option Nat
  | 0 => none
  | n + 1 => if sec n = i then some n else lastOf sec i n
theorem lastOf_lt {sec : Nat → Int} {i : Int} : ∀ {n k : Nat}, lastOf sec i n = some k → k < n ∧ sec k = i
  | 0, _, h => by cases h
  | n + 1, k, h => by
    unfold lastOf at h
    split at h
    · rename_i e
      injection h with h
      subst h
      exact ⟨by omega, e⟩
    · obtain ⟨h1, h2⟩ := lastOf_lt h
      exact ⟨by omega, h2⟩
theorem lastOf_ext {s t : Nat → Int} {i : Int} : ∀ {n}, (∀ k, k < n → s k = t k) → lastOf s i n = lastOf t i n
  | 0, _ => rfl
  | n + 1, h => by
    unfold lastOf
    rw [h n (by omega), lastOf_ext fun k hk => h k (by omega)]

/-- What lies in sector i behind the first n writes, if those are laid of which kept says so. -/
def lay (kept : Nat → Bool) (sure : Int → Array Value) (sec : Nat → Int) (pg : Nat → Array Value) : Nat → Int → Array Value
  | 0, i => sure i
  | n + 1, i => if kept n = true ∧ sec n = i then pg n else lay kept sure sec pg n i
theorem lay_next (kept : Nat → Bool) (sure : Int → Array Value) (sec : Nat → Int) (pg : Nat → Array Value) (n : Nat) (h : kept n = false) : lay kept sure sec pg (n + 1) = lay kept sure sec pg n := by
  funext i
  rw [lay, h, if_neg (by simp)]
theorem lay_ext {k k' : Nat → Bool} {u u' : Int → Array Value} {s s' : Nat → Int} {p p' : Nat → Array Value} {i : Int} : ∀ {n}, u i = u' i → (∀ j, j < n → k j = k' j ∧ s j = s' j ∧ p j = p' j) → lay k u s p n i = lay k' u' s' p' n i
  | 0, h, _ => h
  | n + 1, h, e => by
    obtain ⟨e1, e2, e3⟩ := e n (by omega)
    rw [lay, lay, e1, e2, e3, lay_ext h fun j hj => e j (by omega)]
/-- The last one of all lies there. -/
theorem lay_all (u : Int → Array Value) (s : Nat → Int) (p : Nat → Array Value) (i : Int) : ∀ n, lay (fun _ => true) u s p n i = match lastOf s i n with | some k => p k | none => u i
  | 0 => rfl
  | n + 1 => by
    rw [lay, lastOf]
    by_cases e : s n = i
    · rw [if_pos ⟨rfl, e⟩, if_pos e]
    · rw [if_neg (fun h => e h.2), if_neg e]; exact lay_all u s p i n
theorem lay_none (u : Int → Array Value) (s : Nat → Int) (p : Nat → Array Value) (i : Int) : ∀ n, lay (fun _ => false) u s p n i = u i
  | 0 => rfl
  | n + 1 => by rw [lay, if_neg (by simp)]; exact lay_none u s p i n

namespace Dsk
/-- What is read. -/
def seen (d : Dsk) (i : Int) : Array Value := match lastOf d.sec i d.n with | some k => d.pg k | none => d.sure i
/-- It has such a sector. -/
def has (d : Dsk) (i : Int) : Prop := 0 ≤ i ∧ i < d.size
instance (d : Dsk) (i : Int) : Decidable (d.has i) := inferInstanceAs (Decidable (_ ∧ _))
/-- Why a sector can't be reached. -/
def reach (d : Dsk) (i : Int) : Int := if d.down = true then 7 else if d.has i then 0 else 1
theorem reach_all (d : Dsk) (i : Int) : (d.down = true → d.reach i = 7) ∧ (d.down = false → 0 ≤ i → i < d.size → d.reach i = 0) ∧ (d.down = false → ¬ (0 ≤ i ∧ i < d.size) → d.reach i = 1) := by
  unfold reach
  refine ⟨fun h => by rw [if_pos h], fun h h1 h2 => by rw [h, if_neg (by simp), if_pos ⟨h1, h2⟩], fun h h1 => by rw [h, if_neg (by simp), if_neg (show ¬ d.has i from h1)]⟩
/-- What Read answers, and the disk behind it. -/
def readP (Z : Array Value) (d : Dsk) (i : Int) : Array Value := if d.reach i = 0 then d.seen i else Z
def readI (d : Dsk) (i : Int) : Dsk := { d with reads := fun j => if j = i then d.reads j + 1 else d.reads j }
def readD (d : Dsk) (i : Int) : Dsk := if d.reach i = 0 then d.readI i else d
/-- Behind one more that went well. -/
def spent (d : Dsk) : Dsk := { d with fuse := if 0 < d.fuse then d.fuse - 1 else d.fuse }
/-- Behind a write. -/
def wrote (d : Dsk) (i : Int) (P : Array Value) : Dsk := { d with n := d.n + 1, sec := fun k => if k = d.n then i else d.sec k, pg := fun k => if k = d.n then P else d.pg k }
def writeE (d : Dsk) (i : Int) : Int := if d.reach i = 0 then (if d.fuse = 0 then 6 else 0) else d.reach i
def writeD (d : Dsk) (i : Int) (P : Array Value) : Dsk := if d.writeE i = 0 then d.spent.wrote i P else d
/-- What is kept is sure; no other write is left. -/
def settled (d : Dsk) (kept : Nat → Bool) : Dsk := { d with sure := lay kept d.sure d.sec d.pg d.n, n := 0 }
def syncE (d : Dsk) : Int := if d.down = true then 7 else if d.fuse = 0 then 6 else 0
def syncD (d : Dsk) : Dsk := if d.syncE = 0 then d.spent.settled (fun _ => true) else d
def crashed (d : Dsk) (kept : Nat → Bool) : Dsk := { d.settled kept with down := true }
def upped (d : Dsk) : Dsk := { d with down := false }
def fused (d : Dsk) (n : Int) : Dsk := { d with fuse := n }

theorem seen_all (d : Dsk) (i : Int) : lay (fun _ => true) d.sure d.sec d.pg d.n i = d.seen i := by rw [lay_all]; rfl
theorem seen_wrote (d : Dsk) (i j : Int) (P : Array Value) : (d.wrote i P).seen j = if j = i then P else d.seen j := by
  unfold seen wrote
  simp only [lastOf, if_true]
  by_cases e : i = j
  · subst e
    simp only [if_true]
  · rw [if_neg e, if_neg (Ne.symm e), lastOf_ext (t := d.sec) fun k hk => by rw [if_neg (by omega)]]
    cases h : lastOf d.sec j d.n with
    | none => rfl
    | some k =>
      have := (lastOf_lt h).1
      simp only
      rw [if_neg (by omega)]
theorem seen_spent (d : Dsk) (i : Int) : d.spent.seen i = d.seen i := rfl
theorem seen_settled (d : Dsk) (kept : Nat → Bool) (i : Int) : (d.settled kept).seen i = lay kept d.sure d.sec d.pg d.n i := rfl
end Dsk
/-- A new one. -/
def fresh (Z : Array Value) (size : Nat) : Dsk := ⟨size, false, -1, fun _ => Z, 0, fun _ => 0, fun _ => Z, fun _ => 0⟩
end Go.Proofs.Ytbbeekpndhfpjaa.Dk
