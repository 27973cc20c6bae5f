/- Contracts of a coder's Used and Done in a world that goes on. -/
import Derived.Test.YtidbagkkkpfkbaaDoorRgGo
import Derived.Test.YtidbagkkkpfkbaaDoorRgE
set_option maxRecDepth 100000
set_option linter.unusedVariables false
namespace Go.Proofs.YtidbagkkkpfkbaaDoor.Rg
open Go.RowKit Go.Proofs.YtidbagkkkpfkbaaDoor.Row

theorem used_on (w0 w : World) (b : Nat) (size : Nat) (x : St) (u : Int) (h : EncOn w0 b size x w) (hr : x.r ≤ 4294967295) (hg : x.g ≤ 1000000000) (hu : x.used = u) :
    Calls Tryd.prog 8 #[.pointer (some ⟨b, 0, none⟩)] w fun e w' => e = .returned (.int .i64 u) ∧ EncOn w0 b size x w' := by
  obtain ⟨T, h1, _⟩ := id h
  exact (encUsed_as w b T size x u h1 hr hg hu).mono fun e w' ⟨he, hb⟩ => ⟨he, h.below hb⟩

theorem done_on (w0 w : World) (b : Nat) (size : Nat) (x : St) (t : ByteArray) (z : Int) (h : EncOn w0 b size x w) (hsz : size ≤ 4096) (ht : ⟨(x.out size).toArray⟩ = t) (hz : x.err size = z) :
    Calls Tryd.prog 9 #[.pointer (some ⟨b, 0, none⟩)] w fun e w' => e = .returned (.tuple #[.string t, .int .i64 z]) ∧ EncOn w0 b size x w' := by
  obtain ⟨T, h1, _⟩ := id h
  exact (done_as w b T size x t z h1 hsz ht hz).mono fun e w' ⟨he, hb⟩ => ⟨he, h.below hb⟩

theorem used_off (w0 w : World) (b : Nat) (size : Nat) (x : St) (A : Nat → Prop) (u : Int) (h : EncOff w0 b size x A w) (hr : x.r ≤ 4294967295) (hg : x.g ≤ 1000000000) (hu : x.used = u) :
    Calls Tryd.prog 8 #[.pointer (some ⟨b, 0, none⟩)] w fun e w' => e = .returned (.int .i64 u) ∧ EncOff w0 b size x A w' ∧ Below w.heap.size w w' := by
  obtain ⟨T, h1, _⟩ := id h
  exact (encUsed_as w b T size x u h1 hr hg hu).mono fun e w' ⟨he, hb⟩ => ⟨he, h.below hb, hb⟩

theorem done_off (w0 w : World) (b : Nat) (size : Nat) (x : St) (A : Nat → Prop) (t : ByteArray) (z : Int) (h : EncOff w0 b size x A w) (hsz : size ≤ 4096) (ht : ⟨(x.out size).toArray⟩ = t) (hz : x.err size = z) :
    Calls Tryd.prog 9 #[.pointer (some ⟨b, 0, none⟩)] w fun e w' => e = .returned (.tuple #[.string t, .int .i64 z]) ∧ EncOff w0 b size x A w' ∧ Below w.heap.size w w' := by
  obtain ⟨T, h1, _⟩ := id h
  exact (done_as w b T size x t z h1 hsz ht hz).mono fun e w' ⟨he, hb⟩ => ⟨he, h.below hb, hb⟩
end Go.Proofs.YtidbagkkkpfkbaaDoor.Rg
