/- Texts of the walk, one behind the other. -/
import Derived.Test.YtfohinlldchdpaaGreatDoorWholeWayM42
import Derived.Test.YtfohinlldchdpaaGreatDoorWholeWayM10
import Derived.Test.YtfohinlldchdpaaGreatDoorWholeWayM46
import Derived.Test.YtfohinlldchdpaaGreatDoorWholeWayM2

section
/- The way through the layers: its mathematics, and two rows stored side by side. -/
set_option maxRecDepth 100000
set_option linter.unusedVariables false
namespace Go.Proofs.YtfohinlldchdpaaGreatDoor.Row
open Go.RowKit

section
variable {ops : Array Oper} {Q : Exit → Act → World → Prop} {S : World → Prop} {fuel : Nat} {listed : Array Bool} {a : Act} {w : World} {oi : Oper} {i d : Nat} {rs : List Nat}
/-- A whole row, or struct, loaded out of the world at hand, where others may come up too. -/
theorem ar_load_all (hi : ops[i]? = some oi) (hd : oi.dst = some d) (hw : Region.wanted oi (yielded ops a.tmps) = true) {ty : TypeId} {x : Operand} (ho : oi.op = .load ty x)
    {g m : Nat} {f : Nat → Int} {T : Array Value} {t : TypeId} (hx : a.eval x = .pointer (some ⟨g, 0, none⟩)) (hT : IsRow m f T) (hA : At w g T t)
    {ds : TypeDesc} (hu : Tryz.prog.underlying ty = some ds) (hr : ds.isRow = true) (hsz : (Tryz.prog.info? ty).map (·.size) = some T.size) (hS : S w)
    (h : wpAnyH Tryz.prog .any ops (NoPanic Q) S fuel (listed.setIfInBounds i true) (a.put (some d) (.agg T)) w)
    (hs : AllReadyH Tryz.prog .any ops (NoPanic Q) S fuel listed a w rs) : AllReadyH Tryz.prog .any ops (NoPanic Q) S fuel listed a w (i :: rs) := by
  refine AllReadyH.cons hi (fun K hK => ?_) hs
  rw [if_pos hw]
  refine wp_load_mid ty x ho g 0 hx T.toList ds (At.range hT hA hT (by omega) (fun i _ => by rw [Nat.zero_add])) hu hr (by rw [Array.length_toList]; exact hsz) ?_
  rw [Array.toArray_toList, hd]
  exact hK.out _ _ hS fun _ => h
/-- Two rows stored one behind the other, the last of their region. -/
theorem mv_store2 {j : Nat} {oj : Oper} {t t' u u' : TypeId} {x y x' y' : Operand} (b c : Nat) (A B oldA oldB : Array Value) (hne : b ≠ c)
    (hi : ops[i]? = some oi) (hd : oi.dst = none) (hw : Region.wanted oi (yielded ops a.tmps) = true) (ho : oi.op = .store t x y)
    (hx : a.eval x = .pointer (some ⟨b, 0, none⟩)) (hy : a.eval y = .agg A) (hold : At w b oldA t') (hso : oldA.size = A.size) (h1 : A.all (·.oneCell') = true) (hsz : (Tryz.prog.info? t).map (·.size) = some A.size)
    (hj : ops[j]? = some oj) (hdj : oj.dst = none) (hwj : Region.wanted oj (yielded ops a.tmps) = true) (hoj : oj.op = .store u x' y')
    (hxj : a.eval x' = .pointer (some ⟨c, 0, none⟩)) (hyj : a.eval y' = .agg B) (holdj : At w c oldB u') (hsoj : oldB.size = B.size) (h1j : B.all (·.oneCell') = true) (hszj : (Tryz.prog.info? u).map (·.size) = some B.size)
    (hr : Region.ready .any ops listed = [i]) (hri : Region.ready .any ops (listed.setIfInBounds i true) = [j]) (hri2 : Region.ready .any ops ((listed.setIfInBounds i true).setIfInBounds j true) = [])
    (s1 : S (w.setRow b A)) (s2 : S ((w.setRow b A).setRow c B)) (h : Q .normal a ((w.setRow b A).setRow c B)) : wpAnyH Tryz.prog .any ops (NoPanic Q) S (fuel + 1 + 1) listed a w :=
  mv_ready [i] hr (by simp) (ar_store b A oldA hi hd hw ho hx hy hold hso h1 hsz s1 (fun _ =>
    mv_ready [j] hri (by simp) (ar_store c B oldB hj hdj hwj hoj hxj hyj (holdj.setRow_other (fun e => hne e.symm)) hsoj h1j hszj s2 (fun _ => mv_done hri2 h) AllReadyH.nil)) AllReadyH.nil)
end
end Go.Proofs.YtfohinlldchdpaaGreatDoor.Row
namespace Go.Proofs.YtfohinlldchdpaaGreatDoor.Ww
open Go.RowKit Go.Proofs.YtfohinlldchdpaaGreatDoor.Row Go.Proofs.YtfohinlldchdpaaGreatDoor.Rg Go.Proofs.YtfohinlldchdpaaGreatDoor.Md Go.Proofs.YtfohinlldchdpaaGreatDoor.Tl Go.Proofs.YtfohinlldchdpaaGreatDoor.Sta Go.Proofs.YtfohinlldchdpaaGreatDoor.Lo Go.Proofs.YtfohinlldchdpaaGreatDoor.En

/-- The state of one who hears the packets of which some are lost. -/
noncomputable def sS (F : Nat → Nat → Int) (m : Nat) (gn : Nat → Bool) : Nat → Nat → Int
  | 0 => fun _ => 0
  | k + 1 => if gn k then nlF (sS F m gn k) else De.nxD (byteF (pkS F m (fun _ => 0) k)) (sS F m gn k) m
/-- What is heard then. -/
noncomputable def soW (F : Nat → Nat → Int) (m : Nat) (gn : Nat → Bool) (k : Nat) : Nat → Int :=
  if gn k then slF (sS F m gn k) else De.soD (byteF (pkS F m (fun _ => 0) k)) (sS F m gn k) m
/-- None is lost so far. -/
def fr (gn : Nat → Bool) : Nat → Bool
  | 0 => true
  | k + 1 => fr gn k && !gn k
theorem sS_right (F : Nat → Nat → Int) (m : Nat) (gn : Nat → Bool) : ∀ k, Rt (sS F m gn k)
  | 0 => rt_zero
  | k + 1 => by
    unfold sS
    split
    · exact nl_right (sS_right F m gn k)
    · exact dec_right _ _ _
theorem sS_first {F : Nat → Nat → Int} {m : Nat} {gn : Nat → Bool} : ∀ {k}, fr gn k = true → sS F m gn k = stE (enZ F m k)
  | 0, _ => rfl
  | k + 1, h => by
    have h1 : fr gn k = true ∧ gn k = false := by simpa [fr] using h
    show (if gn k then _ else _) = stE (enS F m (fun _ => 0) (k + 1))
    rw [if_neg (by rw [h1.2]; decide), sS_first h1.1, enS_st]
    rfl
theorem so_first {F : Nat → Nat → Int} {m : Nat} {gn : Nat → Bool} {k : Nat} (h : fr gn (k + 1) = true) : soW F m gn k = soK F m (k + 1) := by
  have h1 : fr gn k = true ∧ gn k = false := by simpa [fr] using h
  show (if gn k then _ else _) = De.soD (byteF (pkS F m (fun _ => 0) k)) (stE (enZ F m k)) m
  rw [if_neg (by rw [h1.2]; decide), sS_first h1.1]
theorem so_bd (F : Nat → Nat → Int) (m : Nat) (gn : Nat → Bool) (k i : Nat) : -32768 ≤ soW F m gn k i ∧ soW F m gn k i ≤ 32767 := by
  unfold soW
  split
  · exact sl_bd _ _
  · exact ct16_bd _
/-- Decode of the k-th packet, some being lost. -/
theorem decode_s {F : Nat → Nat → Int} {m k : Nat} {gn : Nat → Bool} {Ux X Y : Array Value} (hF : ∀ i, Snd (F i)) (h10 : 10 ≤ m) (h32 : m ≤ 32) (hg : gn k = false) (hS : IsRow 38 (sS F m gn k) Ux)
    (hX : IsRow 16 (soW F m gn k) X) (hY : IsRow 38 (sS F m gn (k + 1)) Y) (w : World) (hT : Lv.Tab w) :
    Calls Tryz.prog 16 #[.agg Ux, .string (pkB F m k)] w fun e w' => e = .returned (.tuple #[.agg X, .agg Y, .int .i64 0]) ∧ Below w.heap.size w w' := by
  refine (De.decode_yes Ux (sS F m gn k) (pkB F m k) (pkS F m (fun _ => 0) k) m w hS rfl (pkB_size hF h10 h32 k) ⟨h10, h32⟩ (sS_right F m gn k) hT).mono ?_
  rintro e w'' ⟨⟨R', Q', rfl, hR', hQ''⟩, hb⟩
  obtain rfl := hR'.eq hX fun _ _ => by unfold soW; rw [if_neg (by rw [hg]; decide)]
  obtain rfl := hQ''.eq hY fun i _ => by show _ = (if gn k then _ else _ : Nat → Int) i; rw [if_neg (by rw [hg]; decide)]
  exact ⟨rfl, hb⟩
/-- The state behind a lost one. -/
theorem lost_s {F : Nat → Nat → Int} {m k : Nat} {gn : Nat → Bool} (hg : gn k = true) : nlF (sS F m gn k) = sS F m gn (k + 1) := by show _ = (if gn k then _ else _); rw [if_pos hg]
theorem lost_o {F : Nat → Nat → Int} {m k : Nat} {gn : Nat → Bool} (hg : gn k = true) : slF (sS F m gn k) = soW F m gn k := by unfold soW; rw [if_pos hg]
end Go.Proofs.YtfohinlldchdpaaGreatDoor.Ww
end

section
/- WholeWay: the walk. Written by g48.py. -/
set_option maxRecDepth 100000
set_option linter.unusedVariables false
namespace Go.Proofs.YtfohinlldchdpaaGreatDoor.Ww
open Go.RowKit Go.Proofs.YtfohinlldchdpaaGreatDoor.Row Go.Proofs.YtfohinlldchdpaaGreatDoor.Rg Go.Proofs.YtfohinlldchdpaaGreatDoor.Md Go.Proofs.YtfohinlldchdpaaGreatDoor.Tl Go.Proofs.YtfohinlldchdpaaGreatDoor.Sta Go.Proofs.YtfohinlldchdpaaGreatDoor.Lo Go.Proofs.YtfohinlldchdpaaGreatDoor.En

set_option maxHeartbeats 4000000 in
theorem wholeWay_walk (a0 : Option Addr) (n0 c0 : Nat) (F0 : Nat → Nat → Int) (a1 : Option Addr) (n1 c1 : Nat) (f1 : Nat → Bool) (z : Int) (w : World) (hSl : SlR w a0 n0 c0 F0) (hGo : SlB w a1 n1 c1 f1) (h0 : 0 ≤ z) (h1 : z ≤ 255) (hTab : Lv.Tab w) :
    Calls Tryz.prog 9 #[.slice a0 n0 c0, .slice a1 n1 c1, .int .u8 z] w fun e w' => e = .returned (.bool true) ∧ Below w.heap.size w w' := by
  obtain ⟨Ze, hZe, _, hze, hie⟩ := zero_ep
  obtain ⟨Zp, hZp, _, hzp, hip⟩ := zero_p
  obtain ⟨Zb, hZb, _, hzb, hib⟩ := zero_b
  obtain ⟨I, m, htz, hI, hm, h10, h32⟩ := law_size h0 h1
  obtain ⟨N, hN⟩ : ∃ N, min n0 30 = N := ⟨_, rfl⟩
  have hN30 : N ≤ 30 := by omega
  obtain ⟨F, hF⟩ : ∃ F, frF F0 = F := ⟨_, rfl⟩
  have HFS := Lib.hid (show ∀ i, Snd (F i) by rw [← hF]; exact frF_snd F0)
  have HN3 := Lib.hid (show N ≤ 1000 by omega)
  have HFR := Lib.hid (fun w' h => frames_as a0 n0 c0 F0 w' h)
  rw [hN, hF] at HFR
  have HSL := Lib.hid hSl
  have HGO := Lib.hid hGo
  obtain ⟨gn, hgn⟩ : ∃ gn : Nat → Bool, gn = fun k => decide (k < n1) && f1 k := ⟨_, rfl⟩
  have HGN := Lib.hid hgn
  have hn9 : n1 ≤ 9223372036854775807 := by have := hGo.1; have := hGo.2.1; unfold maxLen at this; omega
  have HD := Lib.hid (Below.refl w.heap.size w)
  have HIE := Lib.hid hie
  have HIP := Lib.hid hip
  have HIB := Lib.hid hib
  have HZE := Lib.hid hZe.1
  have HZP := Lib.hid hZp
  have HZB := Lib.hid hZb.1
  have HM := Lib.hid hm
  have HTAB := Lib.hid hTab
  clear hie hip hib hZe hZp hZb hm hTab hSl hN hF hGo hgn
  go_enter Tryz.func9, Tryz.ntmps9
  go_wp2_with fail
  refine (Crc.goes_as _).mono ?_
  rintro e W0 ⟨rfl, hb⟩
  replace HD := Lib.hid (below_trans HD.out hb HD.out.size)
  clear hb
  by_cases hl : 100 < n1
  · have l1 : (100 : Int) < n1 := by omega
    go_wp2_with fail
    refine (Crc.goes_as _).mono ?_
    rintro e W1 ⟨rfl, hb⟩
    replace HD := Lib.hid (below_trans HD.out hb HD.out.size)
    clear hb
    go_wp2_with fail
    go_ret
    exact ⟨rfl, HD.out⟩
  have l1 : ¬ (100 : Int) < n1 := by omega
  go_wp2_with fail
  refine (HFR.out _ (HSL.out.below HD.out)).mono ?_
  rintro e W2 ⟨a, c, rfl, hK, hb⟩
  have HK := Lib.hid (hK.wide (Nat.zero_le _))
  replace HD := Lib.hid (below_trans HD.out hb HD.out.size)
  clear hb hK HFR W0
  rw [HM.out]
  go_wp2_with fail
  refine (all_yes _ N _ m F _ (Bks.slr HK.out) HFS.out h10 h32 HN3.out (HTAB.out.next HD.out)).mono ?_
  rintro e W3 ⟨v, d, Q, rfl, hQ, hS, hb⟩
  have HQ := Lib.hid hQ
  have HSv := Lib.hid hS
  replace HD := Lib.hid (below_trans HD.out hb HD.out.size)
  replace HK := Lib.hid (HK.out.below hb)
  clear hb hQ hS
  go_wp2_with (refine wpList_store_row rfl 36 _ _ rfl W3.heap.size Q rfl rfl _ _ (heap_alloc_new _ _) (HIE.out _ HQ.out.1) (by rw [HZE.out, HQ.out.1]) HQ.out.2.1 ?_; rw [World.setRow_alloc_new]
               have hb := (Below.refl W3.heap.size W3).alloc (Nat.le_refl _) (.cells Q 36)
               have HOv := Lib.hid (fun g (hg : (Value.slice v N d).ownBlock = some g) => (HSv.out.block g hg).2)
               replace HD := Lib.hid (below_trans HD.out hb HD.out.size)
               replace HSv := Lib.hid (HSv.out.below hb)
               replace HK := Lib.hid (HK.out.below hb)
               have PQ := Lib.hid (At.new W3 Q 36)
               clear hb
               revert HOv HD HSv HK PQ
               generalize W3.heap.size = bE
               generalize World.alloc _ _ = W4
               intro HOv HD HSv HK PQ
               clear W3)
  have HSx := Lib.hid (show IsRow 38 (stE (enZ F m 0)) Zp from HZP.out)
  have HUx := Lib.hid (show IsRow 38 (sS F m gn 0) Zp from HZP.out)
  have HDU := Lib.hid (Duo.start (Below.refl W4.heap.size W4) Zp Zp 34 34)
  have hEs := PQ.out.lt
  have HSB := Lib.hid (show w.heap.size ≤ W4.heap.size from HD.out.size)
  have hUS : W4.heap.size < W4.heap.size + 1 := Nat.lt_succ_self _
  replace HD := Lib.hid (below_trans HD.out HDU.out.1 HD.out.size)
  replace HSv := Lib.hid (HSv.out.below HDU.out.1)
  have PU := Lib.hid HDU.out.2.2.1
  have PS := Lib.hid HDU.out.2.2.2
  clear HDU HK PQ
  revert hEs HSB hUS HD HSv PU PS
  generalize W4.heap.size + 1 = bS
  generalize W4.heap.size = bU
  generalize World.alloc (World.alloc _ _) _ = W5
  intro hEs HSB hUS HD HSv PU PS
  clear W4
  go_loopw [13, 14] (fun fl i w' => ∃ (k : Nat) (Sx Ux : Array Value), k ≤ N ∧ fl = .bool (fr gn k) ∧ i = .int .i64 k ∧ Hid (IsRow 38 (stE (enZ F m k)) Sx) ∧ Hid (IsRow 38 (sS F m gn k) Ux) ∧ Hid (Below w.heap.size w w') ∧ Hid (At w' bS Sx 34) ∧ Hid (At w' bU Ux 34) ∧ Hid (Sgs w' 0 v N d (pkB F m))) (fun _ i _ => N - (intOf i).toNat)
  case atStart => exact ⟨0, Zp, Zp, Nat.zero_le _, rfl, rfl, HSx, HUx, HD, PS, PU, Lib.hid (HSv.out.wide (Nat.zero_le _))⟩
  case round =>
    obtain ⟨k, Sx, Ux, hk, rfl, rfl, HSx2, HUx2, HD2, PS2, PU2, HSv2⟩ := hrel
    clear HSx HUx HD PU PS HSv
    by_cases hlt : k < N
    · have k1 : (k : Int) < N := by omega
      have kb : (k : Int) < 1000 := by omega
      obtain ⟨g, rfl, _⟩ := HSv2.out.addr (by omega)
      obtain ⟨P, hP⟩ : ∃ P, pkB F m k = P := ⟨_, rfl⟩
      have hcell := HSv2.out.cell hlt
      rw [hP] at hcell
      have HCE := Lib.hid hcell
      obtain ⟨X, hX⟩ : ∃ X, IsRow 16 (soK F m (k + 1)) X := ⟨_, isRow _ _⟩
      obtain ⟨Y, hY⟩ : ∃ X, IsRow 38 (stE (enZ F m (k + 1))) X := ⟨_, isRow _ _⟩
      have HDE := Lib.hid (fun w' hT => decode_k HFS.out h10 h32 HSx2.out hX hY w' hT)
      rw [hP] at HDE
      have HX := Lib.hid hX
      have HY := Lib.hid hY
      have HTW := Lib.hid (HTAB.out.next HD2.out)
      have hix := fun w => run_sx (g := g) (c := d) hlt w
      have HP := Lib.hid hP
      have hgE : ∀ g', (Value.slice (some ⟨g, 0, none⟩) N d).ownBlock = some g' → g' < bU := fun g' hg => Nat.lt_trans (HOv.out g' hg) hEs
      clear hP hX hY hcell
      obtain ⟨fl, hfl⟩ : ∃ fl, fr gn k = fl := ⟨_, rfl⟩
      rw [hfl]
      go_wp2_with fail
      refine mv_start fun hS => ?_
      refine mv_yield (i := 0) (d := 53) (.agg Sx) rfl rfl (by kernel_rfl) (by kernel_rfl) (by kernel_rfl) hS (y_load_part (l := 0) (by rfl) rfl rfl HSx2.out (fun w' h => PS2.out.below h PS2.out.lt) HSx2.out (by omega) (fun i _ => by first | rfl | rw [Nat.zero_add]) Tryz.underlying34 rfl (HIP.out _ HSx2.out.1)) ?_
      simp only [Act.put, List.setIfInBounds_toArray, List.set_cons_zero, List.set_cons_succ]
      refine mv_yield (i := 1) (d := 54) (.slice (some ⟨g, 0, none⟩) N d) rfl rfl (by kernel_rfl) (by kernel_rfl) (by kernel_rfl) hS (y_run (by rfl) fun _ => by rfl) ?_
      simp only [Act.put, List.setIfInBounds_toArray, List.set_cons_zero, List.set_cons_succ]
      refine mv_yield (i := 2) (d := 55) (.int .i64 k) rfl rfl (by kernel_rfl) (by kernel_rfl) (by kernel_rfl) hS (y_run (by rfl) fun _ => by rfl) ?_
      simp only [Act.put, List.setIfInBounds_toArray, List.set_cons_zero, List.set_cons_succ]
      refine mv_yield (i := 3) (d := 56) (.pointer (some ⟨g, k, none⟩)) rfl rfl (by kernel_rfl) (by kernel_rfl) (by kernel_rfl) hS (y_sx (by rfl) rfl rfl rfl rfl hlt) ?_
      simp only [Act.put, List.setIfInBounds_toArray, List.set_cons_zero, List.set_cons_succ]
      refine mv_yield (i := 4) (d := 57) (.string P) rfl rfl (by kernel_rfl) (by kernel_rfl) (by kernel_rfl) hS (y_cellB (by rfl) rfl rfl (fun w' h => (Below.cell h (block_lt_of_cell HCE.out)).trans HCE.out)) ?_
      simp only [Act.put, List.setIfInBounds_toArray, List.set_cons_zero, List.set_cons_succ]
      refine parM0 (fuel := 3) [5, 6, 7, 8, 9, 10, 11] [5, 6, 7, 10, 11] [8, 9] (fun i => i == 10 || i == 11) (fun i => if i = 5 then .tuple #[.agg X, .agg Y, .int .i64 0] else if i = 6 then .tuple #[.agg X, .agg Y, .int .i64 0] else if i = 7 then .agg X else if i = 8 then .agg Y else .int .i64 0) (fun i => if i = 10 then Zb else Zp) (fun i => if i = 10 then 32 else 34) #[true, true, true, true, true, true, true, true, true, true, true, true, false, false, false] _ rfl (by decide) (by decide) (by decide) (by decide) rfl (by kernel_rfl) (by kernel_rfl) (by kernel_rfl) (by kernel_rfl) (by kernel_rfl) (by kernel_rfl) (by kernel_rfl) (by kernel_rfl) hS ?_ ?_ ?_
      · intro i hi
        simp only [List.mem_cons, List.not_mem_nil, or_false] at hi
        rcases hi with rfl | rfl | rfl | rfl | rfl | rfl | rfl
        · exact ⟨_, rfl, fun D val w' hw' hD hv => st_call (isA := fun i => i == 10 || i == 11) (V := fun i => if i = 5 then .tuple #[.agg X, .agg Y, .int .i64 0] else if i = 6 then .tuple #[.agg X, .agg Y, .int .i64 0] else if i = 7 then .agg X else if i = 8 then .agg Y else .int .i64 0) (Zc := fun i => if i = 10 then Zb else Zp) (ty := fun i => if i = 10 then 32 else 34) (i := 5) #[.agg Sx, .string P] rfl rfl rfl enter_decode (map2 (Eq.trans (part_other _ _ (by kernel_rfl)) rfl) (Eq.trans (part_other _ _ (by kernel_rfl)) rfl)) (HDE.out _ (HTW.out.next hw'))⟩
        · exact ⟨_, rfl, fun D val w' hw' hD hv => st_run (isA := fun i => i == 10 || i == 11) (V := fun i => if i = 5 then .tuple #[.agg X, .agg Y, .int .i64 0] else if i = 6 then .tuple #[.agg X, .agg Y, .int .i64 0] else if i = 7 then .agg X else if i = 8 then .agg Y else .int .i64 0) (Zc := fun i => if i = 10 then Zb else Zp) (ty := fun i => if i = 10 then 32 else 34) (i := 6) (run_move rfl (Eq.trans (part_eval 5 rfl (hD 5 (by decide +kernel) (by decide)) _ _ rfl (by kernel_rfl) (by kernel_rfl)) (hv 5 (by decide) (hD 5 (by decide +kernel) (by decide)) rfl))) rfl rfl⟩
        · exact ⟨_, rfl, fun D val w' hw' hD hv => st_run (isA := fun i => i == 10 || i == 11) (V := fun i => if i = 5 then .tuple #[.agg X, .agg Y, .int .i64 0] else if i = 6 then .tuple #[.agg X, .agg Y, .int .i64 0] else if i = 7 then .agg X else if i = 8 then .agg Y else .int .i64 0) (Zc := fun i => if i = 10 then Zb else Zp) (ty := fun i => if i = 10 then 32 else 34) (i := 7) (run_extract rfl (Eq.trans (part_eval 6 rfl (hD 6 (by decide +kernel) (by decide)) _ _ rfl (by kernel_rfl) (by kernel_rfl)) (hv 6 (by decide) (hD 6 (by decide +kernel) (by decide)) rfl)) rfl) rfl rfl⟩
        · exact ⟨_, rfl, fun D val w' hw' hD hv => st_run (isA := fun i => i == 10 || i == 11) (V := fun i => if i = 5 then .tuple #[.agg X, .agg Y, .int .i64 0] else if i = 6 then .tuple #[.agg X, .agg Y, .int .i64 0] else if i = 7 then .agg X else if i = 8 then .agg Y else .int .i64 0) (Zc := fun i => if i = 10 then Zb else Zp) (ty := fun i => if i = 10 then 32 else 34) (i := 8) (run_extract rfl (Eq.trans (part_eval 6 rfl (hD 6 (by decide +kernel) (by decide)) _ _ rfl (by kernel_rfl) (by kernel_rfl)) (hv 6 (by decide) (hD 6 (by decide +kernel) (by decide)) rfl)) rfl) rfl rfl⟩
        · exact ⟨_, rfl, fun D val w' hw' hD hv => st_run (isA := fun i => i == 10 || i == 11) (V := fun i => if i = 5 then .tuple #[.agg X, .agg Y, .int .i64 0] else if i = 6 then .tuple #[.agg X, .agg Y, .int .i64 0] else if i = 7 then .agg X else if i = 8 then .agg Y else .int .i64 0) (Zc := fun i => if i = 10 then Zb else Zp) (ty := fun i => if i = 10 then 32 else 34) (i := 9) (run_extract rfl (Eq.trans (part_eval 6 rfl (hD 6 (by decide +kernel) (by decide)) _ _ rfl (by kernel_rfl) (by kernel_rfl)) (hv 6 (by decide) (hD 6 (by decide +kernel) (by decide)) rfl)) rfl) rfl rfl⟩
        · exact ⟨_, rfl, fun D val w' hw' hD hv => st_alloc (isA := fun i => i == 10 || i == 11) (V := fun i => if i = 5 then .tuple #[.agg X, .agg Y, .int .i64 0] else if i = 6 then .tuple #[.agg X, .agg Y, .int .i64 0] else if i = 7 then .agg X else if i = 8 then .agg Y else .int .i64 0) (Zc := fun i => if i = 10 then Zb else Zp) (ty := fun i => if i = 10 then 32 else 34) (i := 10) rfl rfl rfl rfl hzb⟩
        · exact ⟨_, rfl, fun D val w' hw' hD hv => st_alloc (isA := fun i => i == 10 || i == 11) (V := fun i => if i = 5 then .tuple #[.agg X, .agg Y, .int .i64 0] else if i = 6 then .tuple #[.agg X, .agg Y, .int .i64 0] else if i = 7 then .agg X else if i = 8 then .agg Y else .int .i64 0) (Zc := fun i => if i = 10 then Zb else Zp) (ty := fun i => if i = 10 then 32 else 34) (i := 11) rfl rfl rfl rfl hzp⟩
      · intro i hi
        simp only [List.mem_cons, List.not_mem_nil, or_false] at hi
        rcases hi with rfl | rfl
        · exact ⟨rfl, _, rfl, fun D val hD hv => y_of_run (by rfl) (fun w' => run_extract rfl (Eq.trans (part_eval 6 rfl (hD 6 (by decide +kernel) (by decide)) _ _ rfl (by kernel_rfl) (by kernel_rfl)) (hv 6 (by decide) (hD 6 (by decide +kernel) (by decide)) rfl)) rfl)⟩
        · exact ⟨rfl, _, rfl, fun D val hD hv => y_of_run (by rfl) (fun w' => run_extract rfl (Eq.trans (part_eval 6 rfl (hD 6 (by decide +kernel) (by decide)) _ _ rfl (by kernel_rfl) (by kernel_rfl)) (hv 6 (by decide) (hD 6 (by decide +kernel) (by decide)) rfl)) rfl)⟩
      clear hS
      intro val w' hS hY
      have v5 : val 5 = .tuple #[.agg X, .agg Y, .int .i64 0] := (hY 5 (by simp)).1 rfl
      have v6 : val 6 = .tuple #[.agg X, .agg Y, .int .i64 0] := (hY 6 (by simp)).1 rfl
      have v7 : val 7 = .agg X := (hY 7 (by simp)).1 rfl
      have v8 : val 8 = .agg Y := (hY 8 (by simp)).1 rfl
      have v9 : val 9 = .int .i64 0 := (hY 9 (by simp)).1 rfl
      obtain ⟨b10, e10, a10, g10⟩ : ∃ b, val 10 = .pointer (some ⟨b, 0, none⟩) ∧ At w' b Zb 32 ∧ wr.heap.size ≤ b := (hY 10 (by simp)).2 rfl
      obtain ⟨b11, e11, a11, g11⟩ : ∃ b, val 11 = .pointer (some ⟨b, 0, none⟩) ∧ At w' b Zp 34 ∧ wr.heap.size ≤ b := (hY 11 (by simp)).2 rfl
      have n10_11 : b10 ≠ b11 := fun e => At.apart a10 a11 (by decide) e
      have n11_10 : b11 ≠ b10 := fun e => At.apart a11 a10 (by decide) e
      show wpAnyH _ _ _ _ _ _ _ (Act.put (Act.put (Act.put (Act.put (Act.put (Act.put (Act.put _ (some 58) (val 5)) (some 52) (val 6)) (some 59) (val 7)) (some 60) (val 8)) (some 61) (val 9)) (some 15) (val 10)) (some 16) (val 11)) _
      rw [v5, v6, v7, v8, v9, e10, e11]
      simp only [Act.put, List.setIfInBounds_toArray, List.set_cons_zero, List.set_cons_succ]
      clear hY v5 v6 v7 v8 v9 e10 e11
      refine mv_store (i := 12) b10 X _ rfl rfl (by kernel_rfl) (by rfl) rfl rfl rfl a10 (by rw [HZB.out, HX.out.1]) HX.out.2.1 (HIB.out _ HX.out.1) g10 hS (fun hS1 => ?_)
      refine mv_store (i := 13) b11 Y _ rfl rfl (by kernel_rfl) (by rfl) rfl rfl rfl (a11.setRow_other n11_10) (by rw [HZP.out.1, HY.out.1]) HY.out.2.1 (HIP.out _ HY.out.1) g11 hS1 (fun hS2 => ?_)
      clear hS hS1
      have PY := Lib.hid ((a11.setRow_other (C := X) n11_10).setRow (C := Y))
      have PX := Lib.hid ((a10.setRow (C := X)).setRow_other (C := Y) n10_11)
      have hS := hS2
      clear hS2
      refine mv_yield (i := 14) (d := 17) (.int .i64 0) rfl rfl (by kernel_rfl) (by kernel_rfl) (by kernel_rfl) hS (y_run (by rfl) fun _ => by rfl) ?_
      simp only [Act.put, List.setIfInBounds_toArray, List.set_cons_zero, List.set_cons_succ]
      refine mv_done (by kernel_rfl) ?_
      replace HD2 := Lib.hid (below_trans HD2.out hS HD2.out.size)
      have hSb := PS2.out.lt
      have hSx := g10
      replace PS2 := Lib.hid (PS2.out.below hS PS2.out.lt)
      replace HSv2 := Lib.hid (HSv2.out.below hS)
      replace PU2 := Lib.hid (PU2.out.below hS PU2.out.lt)
      have HCE2 := (Below.cell hS (block_lt_of_cell HCE.out)).trans HCE.out
      have g11' : bS < b11 := Nat.lt_of_lt_of_le hSb g11
      have g10' : bS < b10 := Nat.lt_of_lt_of_le hSb g10
      clear hS a10 a11 g10 g11 n10_11 n11_10 HTW HDE HCE hSb hSx
      revert PY PX HD2 PS2 HSv2 PU2 HCE2
      generalize World.setRow (World.setRow _ _ _) _ _ = W8
      intro PY PX HD2 PS2 HSv2 PU2 HCE2
      go_upto_region 17 with (first
        | refine wpList_load_all (by rfl) 34 _ rfl b11 rfl HY.out PY.out Tryz.underlying34 rfl HIP.out ?_
        | (refine wpList_store_row rfl 34 _ _ rfl bS Y rfl rfl _ _ PS2.out (HIP.out _ HY.out.1) (by rw [HSx2.out.1, HY.out.1]) HY.out.2.1 ?_
           have PS3 := Lib.hid (PS2.out.setRow (C := Y))
           have PU3 := Lib.hid (PU2.out.setRow_other (C := Y) (Nat.ne_of_lt hUS))
           have PX3 := Lib.hid (PX.out.setRow_other (C := Y) (Nat.ne_of_gt g10'))
           have HD3 := Lib.hid (below_setRow' HD2.out (Nat.le_trans HSB.out (Nat.le_of_lt hUS)) Y)
           have HSv3 := Lib.hid (Sgs.row HSv2.out Y fun g' hg => Nat.ne_of_lt (Nat.lt_trans (hgE g' hg) hUS))
           clear PS2 PU2 PX HD2 HSv2 HCE2 PY
           revert PS3 PU3 PX3 HD3 HSv3
           generalize World.setRow _ _ _ = W9
           intro PS3 PU3 PX3 HD3 HSv3))
      have hb := (Below.refl W9.heap.size W9).alloc (Nat.le_refl _) (.cells Zb 32)
      have hBS := PS3.out.lt
      have hBX := PX3.out.lt
      have hwB := HD3.out.size
      replace HD3 := Lib.hid (below_trans HD3.out hb HD3.out.size)
      replace PS3 := Lib.hid (PS3.out.below hb PS3.out.lt)
      replace PU3 := Lib.hid (PU3.out.below hb PU3.out.lt)
      replace PX3 := Lib.hid (PX3.out.below hb PX3.out.lt)
      replace HSv3 := Lib.hid (HSv3.out.below hb)
      have PB := Lib.hid (At.new W9 Zb 32)
      clear hb
      revert hBS hBX hwB HD3 PS3 PU3 PX3 HSv3 PB
      generalize W9.heap.size = bB
      generalize World.alloc _ _ = W10
      intro hBS hBX hwB HD3 PS3 PU3 PX3 HSv3 PB
      have hgU : ∀ g', (Value.slice (some ⟨g, 0, none⟩) N d).ownBlock = some g' → g' ≠ bU := fun g' hg => Nat.ne_of_lt (hgE g' hg)
      have hgB : ∀ g', (Value.slice (some ⟨g, 0, none⟩) N d).ownBlock = some g' → g' ≠ bB := fun g' hg => Nat.ne_of_lt (Nat.lt_trans (hgE g' hg) (Nat.lt_trans hUS hBS))
      by_cases hkn : k < n1
      · obtain ⟨bg, og, rfl, hcg⟩ := HGO.out.2.2 (by omega)
        have hcg := hcg k hkn
        have kn : (k : Int) < n1 := by omega
        have k0 : (0 : Int) ≤ (k : Int) := by omega
        obtain ⟨r, hr⟩ : ∃ r, f1 k = r := ⟨_, rfl⟩
        rw [hr] at hcg
        have cg := (Below.cell HD3.out (block_lt_of_cell hcg)).trans hcg
        cases r
        · have hgk : gn k = false := by rw [HGN.out]; simp [hr]
          obtain ⟨R, hR⟩ : ∃ X, IsRow 16 (soW F m gn k) X := ⟨_, isRow _ _⟩
          obtain ⟨Z2, hZ2⟩ : ∃ X, IsRow 38 (sS F m gn (k + 1)) X := ⟨_, isRow _ _⟩
          have hfk : fr gn (k + 1) = fl := by show (fr gn k && !gn k) = fl; rw [hfl, hgk]; simp
          have HDS := Lib.hid (fun w' hT => decode_s HFS.out h10 h32 hgk HUx2.out hR hZ2 w' hT)
          rw [HP.out] at HDS
          have HR := Lib.hid hR
          have HZ2 := Lib.hid hZ2
          have HCP := Lib.hid (fun w' (h : Sgs w' 0 (some ⟨g, 0, none⟩) N d (pkB F m)) => show w'.cell? ⟨g, k, none⟩ = some (.string P) by have := Sgs.cell h hlt; rw [HP.out] at this; exact this)
          have HTW := Lib.hid (HTAB.out.next HD3.out.drew)
          clear hR hZ2
          go_wp2_with fail
          refine mv_startS (fun w' => Sgs w' 0 (some ⟨g, 0, none⟩) N d (pkB F m)) (HSv3.out.below (Below.refl _ _).drew) fun hS => ?_
          refine mv_yield (i := 1) (d := 99) (.slice (some ⟨g, 0, none⟩) N d) rfl rfl (by kernel_rfl) (by kernel_rfl) (by kernel_rfl) hS (y_run (by rfl) fun _ => by rfl) ?_
          simp only [Act.put, List.setIfInBounds_toArray, List.set_cons_zero, List.set_cons_succ]
          refine mv_yield (i := 2) (d := 100) (.int .i64 k) rfl rfl (by kernel_rfl) (by kernel_rfl) (by kernel_rfl) hS (y_run (by rfl) fun _ => by rfl) ?_
          simp only [Act.put, List.setIfInBounds_toArray, List.set_cons_zero, List.set_cons_succ]
          refine mv_yield (i := 3) (d := 101) (.pointer (some ⟨g, k, none⟩)) rfl rfl (by kernel_rfl) (by kernel_rfl) (by kernel_rfl) hS (y_sx (by rfl) rfl rfl rfl rfl hlt) ?_
          simp only [Act.put, List.setIfInBounds_toArray, List.set_cons_zero, List.set_cons_succ]
          refine mv_yield (i := 4) (d := 102) (.string P) rfl rfl (by kernel_rfl) (by kernel_rfl) (by kernel_rfl) hS (y_cellB (by rfl) rfl rfl HCP.out) ?_
          simp only [Act.put, List.setIfInBounds_toArray, List.set_cons_zero, List.set_cons_succ]
          refine mv_ready [0] (by kernel_rfl) (by simp) (ar_load_all (i := 0) (d := 98) rfl rfl (by rfl) rfl rfl HUx2.out (PU3.out.drewN 1) Tryz.underlying34 rfl (HIP.out _ HUx2.out.1) hS ?_ AllReadyH.nil)
          simp only [Act.put, List.setIfInBounds_toArray, List.set_cons_zero, List.set_cons_succ]
          refine mv_ready [5] (by kernel_rfl) (by simp) (ar_callP (i := 5) (d := 103) (v := .tuple #[.agg R, .agg Z2, .int .i64 0]) (P := fun w' => Below W10.heap.size W10 w') #[.agg Ux, .string P] rfl rfl (by rfl) rfl enter_decode (by kernel_rfl) ((HDS.out _ HTW.out).mono fun e w' h => ⟨h.1, below_trans ((Below.refl W10.heap.size W10).drew) h.2 (Nat.le_refl _)⟩) (fun w' hb => HSv3.out.below hb) (fun w' hb hS2 => ?_) AllReadyH.nil)
          simp only [Act.put, List.setIfInBounds_toArray, List.set_cons_zero, List.set_cons_succ]
          replace hS := hS2
          clear hS2
          refine mv_yield (i := 6) (d := 97) (.tuple #[.agg R, .agg Z2, .int .i64 0]) rfl rfl (by kernel_rfl) (by kernel_rfl) (by kernel_rfl) hS (y_run (by rfl) (fun w' => run_move rfl rfl)) ?_
          simp only [Act.put, List.setIfInBounds_toArray, List.set_cons_zero, List.set_cons_succ]
          refine mv_yield (i := 7) (d := 104) (.agg R) rfl rfl (by kernel_rfl) (by kernel_rfl) (by kernel_rfl) hS (y_run (by rfl) (fun w' => run_extract rfl rfl rfl)) ?_
          simp only [Act.put, List.setIfInBounds_toArray, List.set_cons_zero, List.set_cons_succ]
          refine mv_yield (i := 8) (d := 105) (.agg Z2) rfl rfl (by kernel_rfl) (by kernel_rfl) (by kernel_rfl) hS (y_run (by rfl) (fun w' => run_extract rfl rfl rfl)) ?_
          simp only [Act.put, List.setIfInBounds_toArray, List.set_cons_zero, List.set_cons_succ]
          refine mv_yield (i := 9) (d := 106) (.int .i64 0) rfl rfl (by kernel_rfl) (by kernel_rfl) (by kernel_rfl) hS (y_run (by rfl) (fun w' => run_extract rfl rfl rfl)) ?_
          simp only [Act.put, List.setIfInBounds_toArray, List.set_cons_zero, List.set_cons_succ]
          replace HD3 := Lib.hid (below_trans HD3.out hb HD3.out.size)
          replace PS3 := Lib.hid (PS3.out.below hb PS3.out.lt)
          replace PU3 := Lib.hid (PU3.out.below hb PU3.out.lt)
          replace PX3 := Lib.hid (PX3.out.below hb PX3.out.lt)
          replace HSv3 := Lib.hid (HSv3.out.below hb)
          replace PB := Lib.hid (PB.out.below hb PB.out.lt)
          refine mv_store2 (i := 10) (j := 11) bB bU R Z2 Zb Ux (Nat.ne_of_gt (Nat.lt_trans hUS hBS)) rfl rfl (by rfl) rfl rfl rfl PB.out (by rw [HZB.out, HR.out.1]) HR.out.2.1 (HIB.out _ HR.out.1) rfl rfl (by rfl) rfl rfl rfl PU3.out (by rw [HUx2.out.1, HZ2.out.1]) HZ2.out.2.1 (HIP.out _ HZ2.out.1) (by kernel_rfl) (by kernel_rfl) (by kernel_rfl)
            (Sgs.row hS R hgB) (Sgs.row (Sgs.row hS R hgB) Z2 hgU) ?_
          clear hS hb HTW HDS
          replace HD3 := Lib.hid (below_setRow' HD3.out hwB R)
          replace PS3 := Lib.hid (PS3.out.setRow_other (C := R) (Nat.ne_of_lt hBS))
          replace PU3 := Lib.hid (PU3.out.setRow_other (C := R) (Nat.ne_of_lt (Nat.lt_trans hUS hBS)))
          replace PX3 := Lib.hid (PX3.out.setRow_other (C := R) (Nat.ne_of_lt hBX))
          replace HSv3 := Lib.hid (Sgs.row HSv3.out R fun g' hg => hgB g' hg)
          replace PB := Lib.hid (PB.out.setRow (C := R))
          replace HD3 := Lib.hid (below_setRow' HD3.out HSB.out Z2)
          replace PS3 := Lib.hid (PS3.out.setRow_other (C := Z2) (Nat.ne_of_gt hUS))
          replace PU3 := Lib.hid (PU3.out.setRow (C := Z2))
          replace PX3 := Lib.hid (PX3.out.setRow_other (C := Z2) (Nat.ne_of_gt (Nat.lt_trans hUS g10')))
          replace HSv3 := Lib.hid (Sgs.row HSv3.out Z2 fun g' hg => hgU g' hg)
          replace PB := Lib.hid (PB.out.setRow_other (C := Z2) (Nat.ne_of_gt (Nat.lt_trans hUS hBS)))
          revert HD3 PS3 PU3 PX3 HSv3 PB
          generalize World.setRow (World.setRow _ _ _) _ _ = W11
          intro HD3 PS3 PU3 PX3 HSv3 PB
          go_wp2_with fail
          go_loopw [23] (fun i w' => ∃ j : Nat, j ≤ 16 ∧ i = .int .i64 j ∧ Hid (Below W11.heap.size W11 w')) (fun i _ => 16 - (intOf i).toNat)
          case atStart => exact ⟨0, by omega, rfl, Lib.hid (Below.refl _ _)⟩
          case round =>
            obtain ⟨j, hj, rfl, HI⟩ := hrel
            by_cases hj16 : j < 16
            · have j1 : (j : Int) < 16 := by omega
              have j0 : (0 : Int) ≤ (j : Int) := by omega
              have cb := HR.out.cell (PB.out.below HI.out PB.out.lt) j hj16
              have cx := HX.out.cell (PX3.out.below HI.out PX3.out.lt) j hj16
              have hbd := so_bd F m gn k j
              have hfx : fl = true → soW F m gn k j = soK F m (k + 1) j := fun h => by rw [so_first (by rw [hfk]; exact h)]
              obtain ⟨q, hq⟩ : ∃ q, soW F m gn k j = q := ⟨_, rfl⟩
              obtain ⟨x, hx⟩ : ∃ x, soK F m (k + 1) j = x := ⟨_, rfl⟩
              rw [hq] at cb hbd hfx
              rw [hx] at cx hfx
              obtain ⟨q1, q2⟩ := hbd
              have d1 : decide (q < -32768) = false := decide_eq_false (by omega)
              have d2 : decide (32767 < q) = false := decide_eq_false (by omega)
              have cb' : wr.drew.cell? ⟨bB, j, none⟩ = some (.int .i64 q) := cb
              have cx' : wr.drew.cell? ⟨b10, j, none⟩ = some (.int .i64 x) := cx
              clear hq hx hj
              cases fl
              · clear hfx cx cx'
                go_wp2_with fail
                go_quiet (fail)
                go_wp2_with fail
                go_roundw
                case rel => exact ⟨j + 1, by omega, by go_num, Lib.hid (below_drewN HI.out _)⟩
                case measure => simp [intOf]; omega
              · have ex := hfx rfl
                rw [← ex] at cx cx'
                have d3 : (q != q) = false := by simp
                clear ex hfx
                go_wp2_with fail
                go_quiet (fail)
                go_wp2_with fail
                go_roundw
                case rel => exact ⟨j + 1, by omega, by go_num, Lib.hid (below_drewN HI.out _)⟩
                case measure => simp [intOf]; omega
            · have j1 : ¬ (j : Int) < 16 := by omega
              go_wp2_with fail
              go_roundw
              case rel => exact ⟨k + 1, Y, Z2, by omega, by rw [hfk], by go_num, HY, HZ2, Lib.hid (below_trans HD3.out HI.out HD3.out.size), Lib.hid (PS3.out.below HI.out PS3.out.lt), Lib.hid (PU3.out.below HI.out PU3.out.lt), Lib.hid (HSv3.out.below HI.out)⟩
              case measure => simp [intOf]; omega
        · have hgk : gn k = true := by rw [HGN.out]; simp [hr, hkn]
          obtain ⟨R, hR⟩ : ∃ X, IsRow 16 (soW F m gn k) X := ⟨_, isRow _ _⟩
          obtain ⟨Z2, hZ2⟩ : ∃ X, IsRow 38 (sS F m gn (k + 1)) X := ⟨_, isRow _ _⟩
          have hfk : fr gn (k + 1) = false := by show (fr gn k && !gn k) = false; rw [hgk]; simp
          have HLO := Lib.hid (fun w' => lose_yes HUx2.out (sS_right F m gn k) (R := R) (Q := Z2) (by rw [lost_o hgk]; exact hR) (by rw [lost_s hgk]; exact hZ2) w')
          have HRU := Lib.hid (fun w' => run_one HUx2.out hR hZ2 HLO.out w')
          have eb := rows_eq hR hR (fun _ _ => rfl) Tryz.underlying32
          have es := st_eq_p hZ2 hZ2 (fun _ _ => rfl)
          have HR := Lib.hid hR
          have HZ2 := Lib.hid hZ2
          clear hR hZ2
          go_wp2_with (refine wpList_load_all (by rfl) 34 _ rfl bU rfl HUx2.out PU3.out Tryz.underlying34 rfl HIP.out ?_)
          refine (HRU.out _).mono ?_
          rintro e W11 ⟨ar, cr, Qr, rfl, hQr, hBk, hb⟩
          have hq : Qr = Z2 := hQr.eq HZ2.out (fun i _ => by simp)
          rw [hq]
          obtain ⟨gr, rfl, _, _⟩ := hBk.addr (by omega)
          have HBk := Lib.hid hBk
          have hix2 : ∀ w, (Instr.indexAt 29 (.slice (some ⟨gr, 0, none⟩) 1 cr) (.int .i64 0)).run Tryz.prog w = .ok (.pointer (some ⟨gr, 0, none⟩)) w := fun w => run_bx (k := 0) (by omega) w
          replace HD3 := Lib.hid (below_trans HD3.out hb HD3.out.size)
          replace PS3 := Lib.hid (PS3.out.below hb PS3.out.lt)
          replace PU3 := Lib.hid (PU3.out.below hb PU3.out.lt)
          replace PX3 := Lib.hid (PX3.out.below hb PX3.out.lt)
          replace HSv3 := Lib.hid (HSv3.out.below hb)
          replace PB := Lib.hid (PB.out.below hb PB.out.lt)
          clear hb hQr hq hBk HRU
          go_wp2_with (first
            | (refine wpList_store_row rfl 34 _ _ rfl W11.heap.size Z2 rfl rfl _ _ (heap_alloc_new _ _) (HIP.out _ HZ2.out.1) (by rw [HZP.out.1, HZ2.out.1]) HZ2.out.2.1 ?_; rw [World.setRow_alloc_new]
               have hb := (Below.refl W11.heap.size W11).alloc (Nat.le_refl _) (.cells Z2 34)
               have hBE := PB.out.lt
               replace HD3 := Lib.hid (below_trans HD3.out hb HD3.out.size)
               replace PS3 := Lib.hid (PS3.out.below hb PS3.out.lt)
               replace PU3 := Lib.hid (PU3.out.below hb PU3.out.lt)
               replace PX3 := Lib.hid (PX3.out.below hb PX3.out.lt)
               replace HSv3 := Lib.hid (HSv3.out.below hb)
               replace PB := Lib.hid (PB.out.below hb PB.out.lt)
               replace HBk := Lib.hid (HBk.out.below hb)
               have PE := Lib.hid (At.new W11 Z2 34)
               clear hb
               revert hBE HD3 PS3 PU3 PX3 HSv3 PB HBk PE
               generalize W11.heap.size = b20
               generalize World.alloc _ _ = W12
               intro hBE HD3 PS3 PU3 PX3 HSv3 PB HBk PE
               have HRG := Lib.hid (show W12.rangeAt gr 0 R.toList from HBk.out.range (i := 0) (by omega) HR.out)
               clear HBk)
            | refine wpList_load_range (by rfl) 32 _ rfl gr 0 rfl HRG.out Tryz.underlying32 rfl (HIB.out _ HR.out.1) ?_
            | (refine wpList_store_row rfl 32 _ _ rfl bB R rfl rfl _ _ PB.out (HIB.out _ HR.out.1) (by rw [HZB.out, HR.out.1]) HR.out.2.1 ?_
               clear HRG
               replace HD3 := Lib.hid (below_setRow' HD3.out hwB R)
               replace PS3 := Lib.hid (PS3.out.setRow_other (C := R) (Nat.ne_of_lt hBS))
               replace PU3 := Lib.hid (PU3.out.setRow_other (C := R) (Nat.ne_of_lt (Nat.lt_trans hUS hBS)))
               replace PX3 := Lib.hid (PX3.out.setRow_other (C := R) (Nat.ne_of_lt hBX))
               replace HSv3 := Lib.hid (Sgs.row HSv3.out R fun g' hg => hgB g' hg)
               replace PB := Lib.hid (PB.out.setRow (C := R))
               replace PE := Lib.hid (PE.out.setRow_other (C := R) (Nat.ne_of_gt hBE))
               revert HD3 PS3 PU3 PX3 HSv3 PB PE
               generalize World.setRow _ _ _ = W13
               intro HD3 PS3 PU3 PX3 HSv3 PB PE
               )
            | refine wpList_load_all (by rfl) 34 _ rfl bU rfl HUx2.out PU3.out Tryz.underlying34 rfl HIP.out ?_)
          refine (HLO.out _).mono ?_
          rintro e W14 ⟨rfl, hb⟩
          replace HD3 := Lib.hid (below_trans HD3.out hb HD3.out.size)
          replace PS3 := Lib.hid (PS3.out.below hb PS3.out.lt)
          replace PU3 := Lib.hid (PU3.out.below hb PU3.out.lt)
          replace PX3 := Lib.hid (PX3.out.below hb PX3.out.lt)
          replace HSv3 := Lib.hid (HSv3.out.below hb)
          replace PB := Lib.hid (PB.out.below hb PB.out.lt)
          replace PE := Lib.hid (PE.out.below hb PE.out.lt)
          have HU2 := Lib.hid (Duo.start (Below.refl W14.heap.size W14) Zb Zp 32 34)
          clear hb HLO
          go_wp2_with (first
            | (refine wpList_store_row rfl 32 _ _ rfl W14.heap.size R rfl rfl _ _ HU2.out.2.2.1 (HIB.out _ HR.out.1) (by rw [HZB.out, HR.out.1]) HR.out.2.1 ?_
               replace HU2 := Lib.hid (HU2.out.set1 R)
               revert HU2
               generalize World.setRow _ _ _ = W15
               intro HU2)
            | (refine wpList_store_row rfl 34 _ _ rfl (W14.heap.size + 1) Z2 rfl rfl _ _ HU2.out.2.2.2 (HIP.out _ HZ2.out.1) (by rw [HZP.out.1, HZ2.out.1]) HZ2.out.2.1 ?_
               replace HU2 := Lib.hid (HU2.out.set2 Z2)
               replace HD3 := Lib.hid (below_trans HD3.out HU2.out.1 HD3.out.size)
               replace PS3 := Lib.hid (PS3.out.below HU2.out.1 PS3.out.lt)
               replace PU3 := Lib.hid (PU3.out.below HU2.out.1 PU3.out.lt)
               replace PX3 := Lib.hid (PX3.out.below HU2.out.1 PX3.out.lt)
               replace HSv3 := Lib.hid (HSv3.out.below HU2.out.1)
               replace PB := Lib.hid (PB.out.below HU2.out.1 PB.out.lt)
               replace PE := Lib.hid (PE.out.below HU2.out.1 PE.out.lt)
               revert HU2 HD3 PS3 PU3 PX3 HSv3 PB PE
               generalize World.setRow _ _ _ = W16
               intro HU2 HD3 PS3 PU3 PX3 HSv3 PB PE
               )
            | refine wpList_load_all (by rfl) 32 _ rfl W14.heap.size rfl HR.out HU2.out.2.2.1 Tryz.underlying32 rfl HIB.out ?_
            | refine wpList_load_all (by rfl) 32 _ rfl bB rfl HR.out PB.out Tryz.underlying32 rfl HIB.out ?_
            | refine wpList_load_all (by rfl) 34 _ rfl b20 rfl HZ2.out PE.out Tryz.underlying34 rfl HIP.out ?_
            | refine wpList_load_all (by rfl) 34 _ rfl (W14.heap.size + 1) rfl HZ2.out HU2.out.2.2.2 Tryz.underlying34 rfl HIP.out ?_
            | (refine wpList_store_row rfl 34 _ _ rfl bU Z2 rfl rfl _ _ PU3.out (HIP.out _ HZ2.out.1) (by rw [HUx2.out.1, HZ2.out.1]) HZ2.out.2.1 ?_
               clear HU2 PE
               replace HD3 := Lib.hid (below_setRow' HD3.out HSB.out Z2)
               replace PS3 := Lib.hid (PS3.out.setRow_other (C := Z2) (Nat.ne_of_gt hUS))
               replace PU3 := Lib.hid (PU3.out.setRow (C := Z2))
               replace PX3 := Lib.hid (PX3.out.setRow_other (C := Z2) (Nat.ne_of_gt (Nat.lt_trans hUS g10')))
               replace HSv3 := Lib.hid (Sgs.row HSv3.out Z2 fun g' hg => hgU g' hg)
               replace PB := Lib.hid (PB.out.setRow_other (C := Z2) (Nat.ne_of_gt (Nat.lt_trans hUS hBS)))
               revert HD3 PS3 PU3 PX3 HSv3 PB
               generalize World.setRow _ _ _ = W17
               intro HD3 PS3 PU3 PX3 HSv3 PB
               ))
          go_loopw [23] (fun i w' => ∃ j : Nat, j ≤ 16 ∧ i = .int .i64 j ∧ Hid (Below W17.heap.size W17 w')) (fun i _ => 16 - (intOf i).toNat)
          case atStart => exact ⟨0, by omega, rfl, Lib.hid (Below.refl _ _)⟩
          case round =>
            obtain ⟨j, hj, rfl, HI⟩ := hrel
            by_cases hj16 : j < 16
            · have j1 : (j : Int) < 16 := by omega
              have j0 : (0 : Int) ≤ (j : Int) := by omega
              have cb := HR.out.cell (PB.out.below HI.out PB.out.lt) j hj16
              have cx := HX.out.cell (PX3.out.below HI.out PX3.out.lt) j hj16
              have hbd := so_bd F m gn k j
              have hfx : false = true → soW F m gn k j = soK F m (k + 1) j := fun h => by rw [so_first (by rw [hfk]; exact h)]
              obtain ⟨q, hq⟩ : ∃ q, soW F m gn k j = q := ⟨_, rfl⟩
              obtain ⟨x, hx⟩ : ∃ x, soK F m (k + 1) j = x := ⟨_, rfl⟩
              rw [hq] at cb hbd hfx
              rw [hx] at cx hfx
              obtain ⟨q1, q2⟩ := hbd
              have d1 : decide (q < -32768) = false := decide_eq_false (by omega)
              have d2 : decide (32767 < q) = false := decide_eq_false (by omega)
              have cb' : wr.drew.cell? ⟨bB, j, none⟩ = some (.int .i64 q) := cb
              have cx' : wr.drew.cell? ⟨b10, j, none⟩ = some (.int .i64 x) := cx
              clear hq hx hj
              clear hfx cx cx'
              go_wp2_with fail
              go_quiet (fail)
              go_wp2_with fail
              go_roundw
              case rel => exact ⟨j + 1, by omega, by go_num, Lib.hid (below_drewN HI.out _)⟩
              case measure => simp [intOf]; omega
            · have j1 : ¬ (j : Int) < 16 := by omega
              go_wp2_with fail
              go_roundw
              case rel => exact ⟨k + 1, Y, Z2, by omega, by rw [hfk], by go_num, HY, HZ2, Lib.hid (below_trans HD3.out HI.out HD3.out.size), Lib.hid (PS3.out.below HI.out PS3.out.lt), Lib.hid (PU3.out.below HI.out PU3.out.lt), Lib.hid (HSv3.out.below HI.out)⟩
              case measure => simp [intOf]; omega
      · have kn : ¬ (k : Int) < n1 := by omega
        have hgk : gn k = false := by rw [HGN.out]; simp [hkn]
        obtain ⟨R, hR⟩ : ∃ X, IsRow 16 (soW F m gn k) X := ⟨_, isRow _ _⟩
        obtain ⟨Z2, hZ2⟩ : ∃ X, IsRow 38 (sS F m gn (k + 1)) X := ⟨_, isRow _ _⟩
        have hfk : fr gn (k + 1) = fl := by show (fr gn k && !gn k) = fl; rw [hfl, hgk]; simp
        have HDS := Lib.hid (fun w' hT => decode_s HFS.out h10 h32 hgk HUx2.out hR hZ2 w' hT)
        rw [HP.out] at HDS
        have HR := Lib.hid hR
        have HZ2 := Lib.hid hZ2
        have HCP := Lib.hid (fun w' (h : Sgs w' 0 (some ⟨g, 0, none⟩) N d (pkB F m)) => show w'.cell? ⟨g, k, none⟩ = some (.string P) by have := Sgs.cell h hlt; rw [HP.out] at this; exact this)
        have HTW := Lib.hid (HTAB.out.next HD3.out.drew)
        clear hR hZ2
        go_wp2_with fail
        refine mv_startS (fun w' => Sgs w' 0 (some ⟨g, 0, none⟩) N d (pkB F m)) (HSv3.out.below (Below.refl _ _).drew) fun hS => ?_
        refine mv_yield (i := 1) (d := 99) (.slice (some ⟨g, 0, none⟩) N d) rfl rfl (by kernel_rfl) (by kernel_rfl) (by kernel_rfl) hS (y_run (by rfl) fun _ => by rfl) ?_
        simp only [Act.put, List.setIfInBounds_toArray, List.set_cons_zero, List.set_cons_succ]
        refine mv_yield (i := 2) (d := 100) (.int .i64 k) rfl rfl (by kernel_rfl) (by kernel_rfl) (by kernel_rfl) hS (y_run (by rfl) fun _ => by rfl) ?_
        simp only [Act.put, List.setIfInBounds_toArray, List.set_cons_zero, List.set_cons_succ]
        refine mv_yield (i := 3) (d := 101) (.pointer (some ⟨g, k, none⟩)) rfl rfl (by kernel_rfl) (by kernel_rfl) (by kernel_rfl) hS (y_sx (by rfl) rfl rfl rfl rfl hlt) ?_
        simp only [Act.put, List.setIfInBounds_toArray, List.set_cons_zero, List.set_cons_succ]
        refine mv_yield (i := 4) (d := 102) (.string P) rfl rfl (by kernel_rfl) (by kernel_rfl) (by kernel_rfl) hS (y_cellB (by rfl) rfl rfl HCP.out) ?_
        simp only [Act.put, List.setIfInBounds_toArray, List.set_cons_zero, List.set_cons_succ]
        refine mv_ready [0] (by kernel_rfl) (by simp) (ar_load_all (i := 0) (d := 98) rfl rfl (by rfl) rfl rfl HUx2.out (PU3.out.drewN 1) Tryz.underlying34 rfl (HIP.out _ HUx2.out.1) hS ?_ AllReadyH.nil)
        simp only [Act.put, List.setIfInBounds_toArray, List.set_cons_zero, List.set_cons_succ]
        refine mv_ready [5] (by kernel_rfl) (by simp) (ar_callP (i := 5) (d := 103) (v := .tuple #[.agg R, .agg Z2, .int .i64 0]) (P := fun w' => Below W10.heap.size W10 w') #[.agg Ux, .string P] rfl rfl (by rfl) rfl enter_decode (by kernel_rfl) ((HDS.out _ HTW.out).mono fun e w' h => ⟨h.1, below_trans ((Below.refl W10.heap.size W10).drew) h.2 (Nat.le_refl _)⟩) (fun w' hb => HSv3.out.below hb) (fun w' hb hS2 => ?_) AllReadyH.nil)
        simp only [Act.put, List.setIfInBounds_toArray, List.set_cons_zero, List.set_cons_succ]
        replace hS := hS2
        clear hS2
        refine mv_yield (i := 6) (d := 97) (.tuple #[.agg R, .agg Z2, .int .i64 0]) rfl rfl (by kernel_rfl) (by kernel_rfl) (by kernel_rfl) hS (y_run (by rfl) (fun w' => run_move rfl rfl)) ?_
        simp only [Act.put, List.setIfInBounds_toArray, List.set_cons_zero, List.set_cons_succ]
        refine mv_yield (i := 7) (d := 104) (.agg R) rfl rfl (by kernel_rfl) (by kernel_rfl) (by kernel_rfl) hS (y_run (by rfl) (fun w' => run_extract rfl rfl rfl)) ?_
        simp only [Act.put, List.setIfInBounds_toArray, List.set_cons_zero, List.set_cons_succ]
        refine mv_yield (i := 8) (d := 105) (.agg Z2) rfl rfl (by kernel_rfl) (by kernel_rfl) (by kernel_rfl) hS (y_run (by rfl) (fun w' => run_extract rfl rfl rfl)) ?_
        simp only [Act.put, List.setIfInBounds_toArray, List.set_cons_zero, List.set_cons_succ]
        refine mv_yield (i := 9) (d := 106) (.int .i64 0) rfl rfl (by kernel_rfl) (by kernel_rfl) (by kernel_rfl) hS (y_run (by rfl) (fun w' => run_extract rfl rfl rfl)) ?_
        simp only [Act.put, List.setIfInBounds_toArray, List.set_cons_zero, List.set_cons_succ]
        replace HD3 := Lib.hid (below_trans HD3.out hb HD3.out.size)
        replace PS3 := Lib.hid (PS3.out.below hb PS3.out.lt)
        replace PU3 := Lib.hid (PU3.out.below hb PU3.out.lt)
        replace PX3 := Lib.hid (PX3.out.below hb PX3.out.lt)
        replace HSv3 := Lib.hid (HSv3.out.below hb)
        replace PB := Lib.hid (PB.out.below hb PB.out.lt)
        refine mv_store2 (i := 10) (j := 11) bB bU R Z2 Zb Ux (Nat.ne_of_gt (Nat.lt_trans hUS hBS)) rfl rfl (by rfl) rfl rfl rfl PB.out (by rw [HZB.out, HR.out.1]) HR.out.2.1 (HIB.out _ HR.out.1) rfl rfl (by rfl) rfl rfl rfl PU3.out (by rw [HUx2.out.1, HZ2.out.1]) HZ2.out.2.1 (HIP.out _ HZ2.out.1) (by kernel_rfl) (by kernel_rfl) (by kernel_rfl)
          (Sgs.row hS R hgB) (Sgs.row (Sgs.row hS R hgB) Z2 hgU) ?_
        clear hS hb HTW HDS
        replace HD3 := Lib.hid (below_setRow' HD3.out hwB R)
        replace PS3 := Lib.hid (PS3.out.setRow_other (C := R) (Nat.ne_of_lt hBS))
        replace PU3 := Lib.hid (PU3.out.setRow_other (C := R) (Nat.ne_of_lt (Nat.lt_trans hUS hBS)))
        replace PX3 := Lib.hid (PX3.out.setRow_other (C := R) (Nat.ne_of_lt hBX))
        replace HSv3 := Lib.hid (Sgs.row HSv3.out R fun g' hg => hgB g' hg)
        replace PB := Lib.hid (PB.out.setRow (C := R))
        replace HD3 := Lib.hid (below_setRow' HD3.out HSB.out Z2)
        replace PS3 := Lib.hid (PS3.out.setRow_other (C := Z2) (Nat.ne_of_gt hUS))
        replace PU3 := Lib.hid (PU3.out.setRow (C := Z2))
        replace PX3 := Lib.hid (PX3.out.setRow_other (C := Z2) (Nat.ne_of_gt (Nat.lt_trans hUS g10')))
        replace HSv3 := Lib.hid (Sgs.row HSv3.out Z2 fun g' hg => hgU g' hg)
        replace PB := Lib.hid (PB.out.setRow_other (C := Z2) (Nat.ne_of_gt (Nat.lt_trans hUS hBS)))
        revert HD3 PS3 PU3 PX3 HSv3 PB
        generalize World.setRow (World.setRow _ _ _) _ _ = W11
        intro HD3 PS3 PU3 PX3 HSv3 PB
        go_wp2_with fail
        go_loopw [23] (fun i w' => ∃ j : Nat, j ≤ 16 ∧ i = .int .i64 j ∧ Hid (Below W11.heap.size W11 w')) (fun i _ => 16 - (intOf i).toNat)
        case atStart => exact ⟨0, by omega, rfl, Lib.hid (Below.refl _ _)⟩
        case round =>
          obtain ⟨j, hj, rfl, HI⟩ := hrel
          by_cases hj16 : j < 16
          · have j1 : (j : Int) < 16 := by omega
            have j0 : (0 : Int) ≤ (j : Int) := by omega
            have cb := HR.out.cell (PB.out.below HI.out PB.out.lt) j hj16
            have cx := HX.out.cell (PX3.out.below HI.out PX3.out.lt) j hj16
            have hbd := so_bd F m gn k j
            have hfx : fl = true → soW F m gn k j = soK F m (k + 1) j := fun h => by rw [so_first (by rw [hfk]; exact h)]
            obtain ⟨q, hq⟩ : ∃ q, soW F m gn k j = q := ⟨_, rfl⟩
            obtain ⟨x, hx⟩ : ∃ x, soK F m (k + 1) j = x := ⟨_, rfl⟩
            rw [hq] at cb hbd hfx
            rw [hx] at cx hfx
            obtain ⟨q1, q2⟩ := hbd
            have d1 : decide (q < -32768) = false := decide_eq_false (by omega)
            have d2 : decide (32767 < q) = false := decide_eq_false (by omega)
            have cb' : wr.drew.cell? ⟨bB, j, none⟩ = some (.int .i64 q) := cb
            have cx' : wr.drew.cell? ⟨b10, j, none⟩ = some (.int .i64 x) := cx
            clear hq hx hj
            cases fl
            · clear hfx cx cx'
              go_wp2_with fail
              go_quiet (fail)
              go_wp2_with fail
              go_roundw
              case rel => exact ⟨j + 1, by omega, by go_num, Lib.hid (below_drewN HI.out _)⟩
              case measure => simp [intOf]; omega
            · have ex := hfx rfl
              rw [← ex] at cx cx'
              have d3 : (q != q) = false := by simp
              clear ex hfx
              go_wp2_with fail
              go_quiet (fail)
              go_wp2_with fail
              go_roundw
              case rel => exact ⟨j + 1, by omega, by go_num, Lib.hid (below_drewN HI.out _)⟩
              case measure => simp [intOf]; omega
          · have j1 : ¬ (j : Int) < 16 := by omega
            go_wp2_with fail
            go_roundw
            case rel => exact ⟨k + 1, Y, Z2, by omega, by rw [hfk], by go_num, HY, HZ2, Lib.hid (below_trans HD3.out HI.out HD3.out.size), Lib.hid (PS3.out.below HI.out PS3.out.lt), Lib.hid (PU3.out.below HI.out PU3.out.lt), Lib.hid (HSv3.out.below HI.out)⟩
            case measure => simp [intOf]; omega
    · obtain rfl : k = N := by omega
      obtain ⟨fl, hfl⟩ : ∃ fl, fr gn k = fl := ⟨_, rfl⟩
      rw [hfl]
      cases fl
      · go_wp2_with fail
        go_ret
        exact ⟨rfl, HD2.out⟩
      · have es := st_eq_p HUx2.out HSx2.out (fun i _ => by rw [sS_first hfl])
        go_wp2_with (first
          | refine wpList_load_all (by rfl) 34 _ rfl bU rfl HUx2.out PU2.out Tryz.underlying34 rfl HIP.out ?_
          | refine wpList_load_all (by rfl) 34 _ rfl bS rfl HSx2.out PS2.out Tryz.underlying34 rfl HIP.out ?_)
        go_ret
        exact ⟨rfl, HD2.out⟩
end Go.Proofs.YtfohinlldchdpaaGreatDoor.Ww
end
