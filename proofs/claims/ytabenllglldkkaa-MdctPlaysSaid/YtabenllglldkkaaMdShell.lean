/- A row of whole numbers that comes in as an argument: its numbers. -/
import Derived.Test.YtabenllglldkkaaMdRow
import Derived.ProofKit
import Derived.OpenShut
import Derived.Carry
import Derived.ChangeSame
namespace Go.Proofs.Ytabenllglldkkaa.Md
open Go.ChangeShapes Go.WideShapes Go.ChangeAt Go.RowKit

def intsOf (T : Array Value) (k : Nat) : Int := match T[k]? with
  | some (.int _ x) => x
  | _ => 0

theorem mapM_each {α β : Type} {g : α → Option β} : ∀ {L : List α} {ys : List β}, L.mapM g = some ys → ∀ i ∈ L, ∃ y, g i = some y
  | [], _, _, _, hi => by cases hi
  | j :: L, ys, h, i, hi => by
    rw [List.mapM_cons] at h
    simp only [bind, Option.bind_eq_some_iff, pure, Option.some.injEq] at h
    obtain ⟨y, hy, zs, hz, rfl⟩ := h
    rcases List.mem_cons.1 hi with rfl | hi
    · exact ⟨y, hy⟩
    · exact mapM_each hz i hi

theorem open_row {H : Type} {enc : TypeId × Value → H} {W : World} {r : Reach} {base b0 : Nat} {sp : Nat → Bool} {held : Bool} {t e : TypeId} {m : Nat} {v : Value} {d : DataW H} {ps : List MemPlace}
    (hu : Try.prog.underlying t = some (.array m e)) (he : Try.prog.underlying e = some (.int .i64)) (hc : Try.prog.cellsOf e = 1) (hm : Try.prog.cellsOf t = m)
    (hok : Value.okWide Try.prog W r b0 t v) (h : DataW.Trod enc Try.prog W base sp held t v d ps) :
    ∃ T : Array Value, v = .agg T ∧ IsRow m (intsOf T) T ∧ ∀ k, k < m → (Lit.int .i64 (intsOf T k)).wf = true := by
  simp only [Value.okWide, hu] at hok
  obtain ⟨T, rfl, hs, _⟩ := hok
  rw [hm] at hs
  have key : ∀ k, k < m → ∃ x : Int, T[k]? = some (.int .i64 x) ∧ (Lit.int .i64 x).wf = true := by
    obtain ⟨fuel, hf⟩ := h
    cases fuel with
    | zero => simp [DataW.trod] at hf
    | succ n =>
      rw [DataW.trod_step] at hf
      unfold DataW.trodStep at hf
      simp only [hu, Value.cells] at hf
      rw [if_pos (by rw [hm]; simpa using hs)] at hf
      simp only [Option.map_eq_some_iff] at hf
      obtain ⟨ys, hy, _⟩ := hf
      intro k hk
      obtain ⟨y, hy⟩ := mapM_each hy k (by simpa using hk)
      obtain ⟨x, ex, _, wx⟩ := DataW.trod_int he hy
      refine ⟨x, ?_, wx⟩
      rw [hc, Nat.mul_one] at ex
      have : (T.toList.drop k)[0]? = some (.int .i64 x) := by
        have h2 : ((T.toList.drop k).take 1)[0]? = some (.int .i64 x) := by rw [ex]; rfl
        rw [List.getElem?_take_of_lt (by omega)] at h2
        exact h2
      simpa using this
  have hi : ∀ k, k < m → T[k]? = some (.int .i64 (intsOf T k)) ∧ (Lit.int .i64 (intsOf T k)).wf = true := fun k hk => by
    obtain ⟨x, hx, wx⟩ := key k hk
    have : intsOf T k = x := by unfold intsOf; rw [hx]
    rw [this]
    exact ⟨hx, wx⟩
  refine ⟨T, rfl, ⟨hs, ?_, fun k hk => (hi k hk).1⟩, fun k hk => (hi k hk).2⟩
  rw [Array.all_eq_true]
  intro i hi'
  have := (hi i (by omega)).1
  rw [Array.getElem?_eq_getElem hi'] at this
  injection this with this
  rw [this]
  rfl
end Go.Proofs.Ytabenllglldkkaa.Md
