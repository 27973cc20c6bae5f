/- Texts of the walk, one behind the other. -/
import Derived.Test.YtfohinlldchdpaaGreatDoorWholeWayM1
import Derived.Test.YtfohinlldchdpaaGreatDoorWholeWayM2
import Derived.Deep.Slices

section
/- Slices of rows of 16 numbers that come in. For every package. -/
set_option maxRecDepth 100000
set_option linter.unusedVariables false
namespace Go.Proofs.YtfohinlldchdpaaGreatDoor.Row
open Go.RowKit Go.WideShapes Go.Deep

/-- 'a, n, c' is a slice of n rows of 16 numbers. -/
def SlR (w : World) (a : Option Addr) (n c : Nat) (F : Nat → Nat → Int) : Prop :=
  n ≤ c ∧ c ≤ maxLen ∧ (0 < n → ∃ b o, a = some ⟨b, o, none⟩ ∧ ∀ i, i < n → ∀ j, j < 16 → w.cell? ⟨b, o + i * 16 + j, none⟩ = some (.int .i64 (F i j)))
theorem SlR.below {w w' : World} {a : Option Addr} {n c : Nat} {F : Nat → Nat → Int} (h : SlR w a n c F) (hb : Below w.heap.size w w') : SlR w' a n c F := by
  refine ⟨h.1, h.2.1, fun hn => ?_⟩
  obtain ⟨b, o, e, hc⟩ := h.2.2 hn
  exact ⟨b, o, e, fun i hi j hj => (Below.cell hb (block_lt_of_cell (hc i hi j hj))).trans (hc i hi j hj)⟩

theorem run_rx {b o n c k : Nat} (hk : k < n) (w : World) :
    (Instr.indexAt 31 (.slice (some ⟨b, o, none⟩) n c) (.int .i64 k)).run Tryz.prog w = .ok (.pointer (some ⟨b, o + k * 16, none⟩)) w := by
  have h : (0 : Int) ≤ (k : Int) ∧ (k : Int) < (n : Int) := by omega
  have hz : ∀ w, (sizeOf 22).run Tryz.prog w = .ok 16 w := fun w => by
    have h : (Tryz.prog.info? 22).map (·.size) = some 16 := by kernel_rfl
    cases hq : Tryz.prog.info? 22 with
    | none => rw [hq] at h; cases h
    | some i =>
      rw [hq] at h
      injection h with h
      simp [sizeOf, typeInfo, hq, h]
  unfold Instr.indexAt
  simp only [Sem.run_bind, asIntOf, Sem.run_pure, Result.andThen_ok, run_underlying Tryz.underlying31, if_pos h, hz]
  simp only [Addr.add, Int.toNat_natCast]
  split <;> simp_all

theorem open_rows_in {H : Type} {enc : TypeId × Value → H} {W : World} {r : Reach} {base b0 : Nat} {sp : Nat → Bool} {held : Bool} {v : Value} {d : DataW H} {ps : List MemPlace}
    (hok : Value.okWide Tryz.prog W r b0 31 v) (h : DataW.Trod enc Tryz.prog W base sp held 31 v d ps) :
    ∃ (a : Option Addr) (n c : Nat) (F : Nat → Nat → Int), v = .slice a n c ∧ SlR W a n c F ∧ ∀ i, i < n → ∀ j, j < 16 → (Lit.int .i64 (F i j)).wf = true := by
  have hC : Tryz.prog.cellsOf 22 = 16 := by kernel_rfl
  have fi : Flat enc W base sp held 3 := Flat.int Tryz.underlying3 (by kernel_rfl)
  have fb : Flat enc W base sp held 22 := Flat.array fi Tryz.underlying22 (by kernel_rfl)
  obtain ⟨a, n, c, rfl⟩ := okWide_slice Tryz.underlying31 hok
  obtain ⟨fuel, hf⟩ := h
  rcases open_slice Tryz.underlying31 hf with ⟨hcs, _⟩ | ⟨x, len, cap, m, k, D, Pl, hcs, _, hl, hm, hmm, _, hi⟩
  · simp [Value.cells] at hcs
    obtain ⟨rfl, rfl, rfl⟩ := hcs
    exact ⟨none, 0, 0, fun _ _ => 0, rfl, ⟨Nat.le_refl _, Nat.zero_le _, fun h => absurd h (Nat.lt_irrefl _)⟩, fun i hi => absurd hi (Nat.not_lt_zero i)⟩
  · simp [Value.cells] at hcs
    obtain ⟨rfl, rfl, rfl⟩ := hcs
    have hnm : n ≤ m := by rw [hmm]; split <;> omega
    have key : ∀ i, i < n → ∀ j, j < 16 → ∃ z : Int, W.cell? ((x.add (i * 16)).add j) = some (.int .i64 z) ∧ (Lit.int .i64 z).wf = true := fun i hin j hj => by
      obtain ⟨cs', hc, ht⟩ := hi i (by omega)
      rw [hC] at hc
      obtain ⟨_, hcl, hat⟩ := World.cells?_some hc
      obtain ⟨z, h1, h2⟩ := fb _ _ _ ht j (by rw [hC]; exact hj)
      exact ⟨z, by rw [← h1, ← hat j hj], h2⟩
    by_cases hn : n = 0
    · subst hn
      exact ⟨some x, 0, c, fun _ _ => 0, rfl, ⟨Nat.zero_le _, hm, fun h => absurd h (Nat.lt_irrefl _)⟩, fun i hi => absurd hi (Nat.not_lt_zero i)⟩
    · have hx : x.spot = none := by
        obtain ⟨y, h0, _⟩ := key 0 (by omega) 0 (by omega)
        have := World.cell?_spot h0
        simpa [Addr.add] using this
      obtain ⟨b, o, sp'⟩ := x
      simp only at hx
      subst hx
      have hch : ∀ i j, ∃ y : Int, i < n → j < 16 → W.cell? ⟨b, o + i * 16 + j, none⟩ = some (.int .i64 y) ∧ (Lit.int .i64 y).wf = true := fun i j => by
        by_cases hin : i < n ∧ j < 16
        · obtain ⟨y, h1, h2⟩ := key i hin.1 j hin.2
          rw [add_plain, add_plain] at h1
          exact ⟨y, fun _ _ => ⟨h1, h2⟩⟩
        · exact ⟨0, fun h h' => absurd ⟨h, h'⟩ hin⟩
      refine ⟨some ⟨b, o, none⟩, n, c, fun i j => (hch i j).choose, rfl, ⟨hl, hm, fun _ => ⟨b, o, rfl, fun i hi j hj => ((hch i j).choose_spec hi hj).1⟩⟩, fun i hi j hj => ((hch i j).choose_spec hi hj).2⟩
end Go.Proofs.YtfohinlldchdpaaGreatDoor.Row
end
