/- Texts of the walk, one behind the other. -/
import Derived.Test.YtfohinlldchdpaaGreatDoorEncPlaysM19
import Derived.Test.YtfohinlldchdpaaGreatDoorEncPlaysM31

section
/- lapl.Put. -/
set_option maxRecDepth 100000
set_option linter.unusedVariables false
namespace Go.Proofs.YtfohinlldchdpaaGreatDoor.Lp
open Go.RowKit Go.Proofs.YtfohinlldchdpaaGreatDoor.Row Go.Proofs.YtfohinlldchdpaaGreatDoor.Rg

theorem lput_as (w : World) (b : Nat) (T : Nat → Prop) (size : Nat) (x : St) (v : Int) (h : EncIs w b T size x) (hx : x.ok) (hv : -24 ≤ v ∧ v ≤ 24) (hsz : size ≤ 4096) (hg : x.g ≤ 100000) :
    Calls Tryz.prog 74 #[.pointer (some ⟨b, 0, none⟩), .int .i64 v] w fun e w' => e = .returned (.int .i64 0) ∧ EncGo w b T size (x.put (cl v)) w' := by
  have H := Lib.hid h
  have HX := Lib.hid hx
  have HV := Lib.hid hv
  clear h hx hv
  go_enter Tryz.func74, Tryz.ntmps74
  go_wp2_with fail
  refine (cell_yes v _ _ _ HV.out rfl rfl).mono ?_
  rintro e w1 ⟨rfl, h1⟩
  have B1 := Lib.hid h1
  clear h1
  go_wp2_with fail
  refine (put_at _ b T size x (cl v) _ _ _ (H.out.below B1.out) HX.out (cl_ok HV.out.1 HV.out.2) rfl rfl rfl hsz hg).mono ?_
  rintro e w2 ⟨rfl, h2⟩
  have H2 := Lib.hid (EncGo.next (T := T) (Fr.of_below B1.out) (fun k hk => .inl hk) h2)
  clear h2
  go_wp2
  go_ret
  exact ⟨rfl, H2.out⟩

theorem EncOn.bel {w w' : World} {b size : Nat} {x : St} (h : EncOn w b size x w') : Below w.heap.size w w' := by
  obtain ⟨T, _, _, h⟩ := h
  exact h

end Go.Proofs.YtfohinlldchdpaaGreatDoor.Lp
end
