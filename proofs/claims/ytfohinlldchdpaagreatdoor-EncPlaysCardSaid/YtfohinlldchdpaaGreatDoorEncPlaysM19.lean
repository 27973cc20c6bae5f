/- Texts of the walk, one behind the other. -/
import Derived.Test.YtfohinlldchdpaaGreatDoorEncPlaysM15
import Derived.Test.YtfohinlldchdpaaGreatDoorEncPlaysM18

section
/- Contract of lapl's Take. -/
set_option maxRecDepth 100000
set_option linter.unusedVariables false
namespace Go.Proofs.YtfohinlldchdpaaGreatDoor.Lp
open Go.RowKit Go.Proofs.YtfohinlldchdpaaGreatDoor.Row Go.Proofs.YtfohinlldchdpaaGreatDoor.Rg

theorem cell_in {v : Int} (h : -24 ≤ v ∧ v ≤ 24) : cS v = (cl v).s ∧ cW v = (cl v).w ∧ inB v = true := by
  unfold cS cW inB cl
  rw [if_pos h, if_pos h]
  exact ⟨rfl, rfl, by simpa using h⟩

theorem cell_yes (v : Int) (s u : Int) (w : World) (h : -24 ≤ v ∧ v ≤ 24) (hs : ((cl v).s : Int) = s) (hu : ((cl v).w : Int) = u) :
    Calls Tryz.prog 114 #[.int .i64 v] w fun e w' => e = .returned (.tuple #[.int .i64 s, .int .i64 u, .bool true]) ∧ Below w.heap.size w w' := by
  obtain ⟨e1, e2, e3⟩ := cell_in h
  have := cell_any v w
  rw [e1, e2, e3, hs, hu] at this
  exact this

theorem cl_bd {v : Int} (h : -24 ≤ v ∧ v ≤ 24) : 8 ≤ (cl v).w ∧ (cl v).w ≤ 12568 ∧ (cl v).s + (cl v).w ≤ 32768 := by
  have h1 := iV_lt.2 h
  exact ⟨wI_ge h1, wd_le _, sw_le h1⟩

/-- The number that a decoder takes next. -/
def lv (d : Dt) : Int := vI (fI (d.place 32768))

theorem place_in (d : Dt) : d.place 32768 < 32768 := by unfold Dt.place; omega

theorem lv_in (d : Dt) : -24 ≤ lv d ∧ lv d ≤ 24 := is_in (fI_spec (place_in d)).1 rfl

theorem ltake_as (w : World) (b : Nat) (T : Nat → Prop) (s : List UInt8) (d : Dt) (v : Int) (h : DecIs w b T s d) (hd : d.ok) (hv : lv d = v) (hg : d.g ≤ 100000) (hl : s.length ≤ 9223372036854775800) :
    Calls Tryz.prog 131 #[.pointer (some ⟨b, 0, none⟩)] w fun e w' => e = .returned (.tuple #[.int .i64 v, .int .i64 0]) ∧ DecIs w' b T s (d.take (byteF s) (cl v)) ∧ Fr T w w' := by
  have H := Lib.hid h
  have HD := Lib.hid hd
  have HV := Lib.hid (show -24 ≤ v ∧ v ≤ 24 from hv ▸ lv_in d)
  obtain ⟨p, hp⟩ : ∃ p, d.place 32768 = p := ⟨_, rfl⟩
  have hp2 : p < 32768 := hp ▸ place_in d
  have HF := Lib.hid (show fV (p : Int) = v ∧ fB (p : Int) = true from by
    refine ⟨?_, by unfold fB; simp; omega⟩
    unfold fV
    rw [if_pos (by omega), Int.toNat_natCast, ← hp]
    exact hv)
  have HP := Lib.hid hp
  clear h hd hv hp
  go_enter Tryz.func131, Tryz.ntmps131
  go_wp2_with fail
  refine (at_at _ b T s d 32768 32768 p H.out HD.out rfl (by omega) (by omega) HP.out).mono ?_
  rintro e w1 ⟨rfl, h1⟩
  have B1 := Lib.hid h1
  clear h1
  go_wp2_with fail
  refine (find_any (p : Int) _).mono ?_
  rw [HF.out.1, HF.out.2]
  rintro e w2 ⟨rfl, h2⟩
  have B2 := Lib.hid (below_trans B1.out h2 B1.out.size)
  clear h2 B1
  go_wp2_with fail
  refine (cell_yes v _ _ _ HV.out rfl rfl).mono ?_
  rintro e w3 ⟨rfl, h3⟩
  have B3 := Lib.hid (below_trans B2.out h3 B2.out.size)
  clear h3 B2
  go_wp2_with fail
  refine (take_at _ b T s d (cl v) _ _ _ (H.out.below B3.out) HD.out (cl_ok HV.out.1 HV.out.2) rfl rfl rfl hg hl).mono ?_
  rintro e w4 ⟨rfl, h4, h5⟩
  have H4 := Lib.hid h4
  have H5 := Lib.hid (Fr.same (T := T) (Fr.of_below B3.out) h5)
  clear h4 h5
  go_wp2
  go_ret2
  exact ⟨rfl, H4.out, H5.out⟩
end Go.Proofs.YtfohinlldchdpaaGreatDoor.Lp
end
