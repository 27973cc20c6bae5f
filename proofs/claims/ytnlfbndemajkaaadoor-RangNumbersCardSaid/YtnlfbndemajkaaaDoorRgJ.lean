/- Contract of the laws' awake; coders and decoders in a world that goes on. -/
import Derived.Test.YtnlfbndemajkaaaDoorRgI
set_option maxRecDepth 100000
set_option linter.unusedVariables false
namespace Go.Proofs.YtnlfbndemajkaaaDoor.Rg
open Go.RowKit Go.Proofs.YtnlfbndemajkaaaDoor.Row

theorem EncIs.fr {w w' : World} {b size : Nat} {T U : Nat → Prop} {x : St} (h : EncIs w b T size x) (hF : Fr U w w') (hU : ∀ k, T k → ¬ U k) : EncIs w' b T size x := by
  obtain ⟨low, bs, rest, ⟨h1, a, c, hA, hO, hK⟩, hR⟩ := h
  exact ⟨low, bs, rest, ⟨h1, a, c, hA.fr hF (hU b h1), hF.owns hO fun k hk => hU k (hK k hk).1, hK⟩, hR⟩
theorem EncIs.below {w w' : World} {b size : Nat} {T : Nat → Prop} {x : St} (h : EncIs w b T size x) (hB : Below w.heap.size w w') : EncIs w' b T size x := h.fr (U := fun _ => False) (.of_below hB) fun _ _ h => h
theorem EncIs.self {w : World} {b size : Nat} {T : Nat → Prop} {x : St} (h : EncIs w b T size x) : T b := by
  obtain ⟨_, _, _, h, _⟩ := h
  exact h.1
theorem DecIs.fr {w w' : World} {b : Nat} {T U : Nat → Prop} {s : List UInt8} {d : Dt} (h : DecIs w b T s d) (hF : Fr U w w') (hU : ∀ k, T k → ¬ U k) : DecIs w' b T s d := DecMem.fr h hF hU
theorem DecIs.below {w w' : World} {b : Nat} {T : Nat → Prop} {s : List UInt8} {d : Dt} (h : DecIs w b T s d) (hB : Below w.heap.size w w') : DecIs w' b T s d := DecMem.below h hB

/-- A coder stands in a world where all that stood in w stands. -/
def EncOn (w : World) (b : Nat) (size : Nat) (x : St) (w' : World) : Prop := ∃ T, EncIs w' b T size x ∧ (∀ k, T k → w.heap.size ≤ k) ∧ Below w.heap.size w w'
theorem EncOn.new {w : World} {size : Nat} {e : Ending} {w' : World} (h : RetEnc w size e w') : ∃ b, e = .returned (.tuple #[.pointer (some ⟨b, 0, none⟩), .int .i64 0]) ∧ EncOn w b size St.new w' := by
  obtain ⟨b, he, hb, h1, h2⟩ := h
  exact ⟨b, he, Just b, h1, fun k hk => by rw [show k = b from hk]; exact hb, h2⟩
theorem EncOn.go {w w1 w2 : World} {b size : Nat} {x y : St} {T : Nat → Prop} (hT : ∀ k, T k → w.heap.size ≤ k) (hB : Below w.heap.size w w1) (h : EncGo w1 b T size y w2) : EncOn w b size y w2 := by
  obtain ⟨T', h1, h2, h3⟩ := h
  refine ⟨T', h1, fun k hk => (h3 k hk).elim (hT k) fun h => Nat.le_trans hB.size h, hB.trans (h2.below hB.size hT)⟩
theorem EncOn.below {w w1 w2 : World} {b size : Nat} {x : St} (h : EncOn w b size x w1) (hB : Below w1.heap.size w1 w2) : EncOn w b size x w2 := by
  obtain ⟨T, h1, h2, h3⟩ := h
  exact ⟨T, h1.below hB, h2, below_trans h3 hB h3.size⟩
theorem EncOn.from {w0 w w1 : World} {b size : Nat} {x : St} (h0 : Below w0.heap.size w0 w) (h : EncOn w b size x w1) : EncOn w0 b size x w1 := by
  obtain ⟨T, h1, h2, h3⟩ := h
  exact ⟨T, h1, fun k hk => Nat.le_trans h0.size (h2 k hk), below_trans h0 h3 h0.size⟩

theorem put_on (w0 w : World) (b : Nat) (size : Nat) (x : St) (C : Cl) (s v t : Int) (h : EncOn w0 b size x w) (hx : x.ok) (hC : C.ok) (hs : (C.s : Int) = s) (hv : (C.w : Int) = v) (ht : (C.t : Int) = t) (hsz : size ≤ 4096) (hg : x.g ≤ 100000) :
    Calls Tryd.prog 12 #[.pointer (some ⟨b, 0, none⟩), .int .i64 s, .int .i64 v, .int .i64 t] w fun e w' => e = .returned (.int .i64 0) ∧ EncOn w0 b size (x.put C) w' := by
  obtain ⟨T, h1, h2, h3⟩ := h
  exact (put_at w b T size x C s v t h1 hx hC hs hv ht hsz hg).mono fun e w' ⟨he, hg⟩ => ⟨he, EncOn.go (x := x) h2 h3 hg⟩
theorem used_on (w0 w : World) (b : Nat) (size : Nat) (x : St) (u : Int) (h : EncOn w0 b size x w) (hr : x.r ≤ 4294967295) (hg : x.g ≤ 1000000000) (hu : x.used = u) :
    Calls Tryd.prog 13 #[.pointer (some ⟨b, 0, none⟩)] w fun e w' => e = .returned (.int .i64 u) ∧ EncOn w0 b size x w' := by
  obtain ⟨T, h1, _⟩ := id h
  exact (encUsed_as w b T size x u h1 hr hg hu).mono fun e w' ⟨he, hb⟩ => ⟨he, h.below hb⟩
theorem done_on (w0 w : World) (b : Nat) (size : Nat) (x : St) (t : ByteArray) (z : Int) (h : EncOn w0 b size x w) (hsz : size ≤ 4096) (ht : ⟨(x.out size).toArray⟩ = t) (hz : x.err size = z) :
    Calls Tryd.prog 14 #[.pointer (some ⟨b, 0, none⟩)] w fun e w' => e = .returned (.tuple #[.string t, .int .i64 z]) ∧ EncOn w0 b size x w' := by
  obtain ⟨T, h1, _⟩ := id h
  exact (done_as w b T size x t z h1 hsz ht hz).mono fun e w' ⟨he, hb⟩ => ⟨he, h.below hb⟩

theorem ex1 : (⟨(St.new.out 3).toArray⟩ : ByteArray) = ⟨#[0, 0, 0]⟩ := by decide +kernel
theorem ex2 : St.new.err 3 = 0 := by decide +kernel
theorem ex3 : (⟨((St.new.put ⟨1, 1, 2⟩).out 3).toArray⟩ : ByteArray) = ⟨#[]⟩ := by decide +kernel
theorem ex4 : (St.new.put ⟨1, 1, 2⟩).err 3 = 5 := by decide +kernel

set_option maxHeartbeats 1000000 in
theorem awake_yes (w : World) :
    Calls Tryd.prog 9 #[] w fun e w' => e = .returned (.bool true) ∧ Below w.heap.size w w' := by
  go_enter Tryd.func9, Tryd.ntmps9
  go_wp2_with fail
  refine (newEnc_yes 3 _ (by omega) (by omega)).mono ?_
  intro e w1 h
  obtain ⟨b, rfl, h1⟩ := EncOn.new h
  have H1 := Lib.hid h1
  clear h h1
  go_wp2_with fail
  refine (done_on w _ b 3 St.new _ 0 H1.out (by omega) ex1 ex2).mono ?_
  rintro e w2 ⟨rfl, h2⟩
  have H2 := Lib.hid h2
  clear h2 H1
  go_wp2_with fail
  refine (put_on w _ b 3 St.new ⟨1, 1, 2⟩ 1 1 2 H2.out new_ok ⟨by decide, by decide, by decide, by decide⟩ rfl rfl rfl (by omega) (by decide)).mono ?_
  rintro e w3 ⟨rfl, h3⟩
  have H3 := Lib.hid h3
  clear h3 H2
  go_wp2_with fail
  refine (done_on w _ b 3 (St.new.put ⟨1, 1, 2⟩) _ 5 H3.out (by omega) ex3 ex4).mono ?_
  rintro e w4 ⟨rfl, h4⟩
  have H4 := Lib.hid h4
  clear h4 H3
  go_wp2
  go_ret
  obtain ⟨T, _, _, hb⟩ := H4.out
  exact ⟨rfl, hb⟩
end Go.Proofs.YtnlfbndemajkaaaDoor.Rg
