/- Texts of the walk, one behind the other. -/
import Derived.Test.YtimhemcoflpmcaaGreatDoorDecPlaysM4
import Derived.Test.YtimhemcoflpmcaaGreatDoorDecPlaysM1
import Derived.Test.YtimhemcoflpmcaaGreatDoorDecPlaysM7

section
/- The document's decoder (layer 7): bytes, NewDec, Place, Take. -/
set_option maxRecDepth 100000
set_option linter.unusedVariables false
namespace Go.Proofs.YtimhemcoflpmcaaGreatDoor.De
open Go.RowKit Go.Proofs.YtimhemcoflpmcaaGreatDoor.Row Go.Proofs.YtimhemcoflpmcaaGreatDoor.Rg

theorem refByte_as (B : ByteArray) (s : List UInt8) (i y : Nat) (w : World) (hs : ⟨s.toArray⟩ = B) (hi : i ≤ 1000000) (hn : s.length ≤ 1000000) (hy : byteF s i = y) :
    Calls Tryz.prog 55 #[.string B, .int .i64 i] w fun e w' => e = .returned (.int .i64 y) ∧ w = w' := by
  obtain ⟨n, hsz⟩ : ∃ n, B.size = n := ⟨_, rfl⟩
  have hl : s.length = n := by rw [← hsz, ← hs]; rfl
  by_cases h : i < n
  · have hc : ∃ c : UInt8, (∀ h, B[i]'h = c) ∧ c.toNat = y := by
      refine ⟨s[i]'(by omega), fun h => by subst hs; rfl, ?_⟩
      rw [← hy]
      unfold byteF
      rw [List.getD_eq_getElem?_getD, List.getElem?_eq_getElem (by omega)]
      rfl
    obtain ⟨c, hb, hcy⟩ := hc
    have hc2 : c.toNat ≤ 255 := by have := c.toNat_lt; omega
    have HCY := Lib.hid hcy
    have h1 : ¬ (n : Int) ≤ i := by omega
    have h0 : (0 : Int) ≤ i := by omega
    clear hs hy hcy
    go_enter Tryz.func55, Tryz.ntmps55
    go_wp2
    go_ret
    exact ⟨by rw [← HCY.out]; rfl, rfl⟩
  · have e : y = 0 := by
      rw [← hy]
      unfold byteF
      rw [List.getD_eq_getElem?_getD, List.getElem?_eq_none (by omega)]
      rfl
    subst e
    have h1 : (n : Int) ≤ i := by omega
    clear hs hy
    go_enter Tryz.func55, Tryz.ntmps55
    go_wp2
    go_ret
    exact ⟨rfl, rfl⟩

/-- The document's decoder, as a value. -/
def rdA (B : ByteArray) (d : Dt) : Array Value := #[.string B, .int .i64 d.c, .int .i64 d.r, .int .i64 ((4 + d.g : Nat) : Int)]
theorem feed_small (f : Nat → Nat) (hf : ∀ i, f i ≤ 255) : ∀ k, k ≤ 4 → feed f 0 k 0 < 256 ^ k
  | 0, _ => by show 0 < 1; omega
  | k + 1, h => by
    have ih := feed_small f hf k (by omega)
    have := hf k
    rw [feed_snoc, Nat.zero_add, Nat.pow_succ]
    have : feed f 0 k 0 * 256 + f k < 256 ^ k * 256 := by omega
    exact Nat.lt_of_le_of_lt (Nat.mod_le _ _) this
theorem feed_four (f : Nat → Nat) (hf : ∀ i, f i ≤ 255) (k : Nat) (h : k < 4) : 256 * feed f 0 k 0 + f k = feed f 0 (k + 1) 0 := by
  have h1 := feed_small f hf k (by omega)
  have h2 := hf k
  have h3 : 256 ^ k ≤ 256 ^ 3 := Nat.pow_le_pow_right (by omega) (by omega)
  rw [feed_snoc, Nat.zero_add, Nat.mod_eq_of_lt (by omega)]
  omega
theorem results_dec {fn : Func} {p : Tmp} (h : fn.results = #[.cell p 56]) (tmps : Array Value) (w : World) (g : Nat) (v a b c : Value)
    (hp : tmps.getD p undef = .pointer (some ⟨g, 0, none⟩)) (hg : At w g #[v, a, b, c] 56) : (results fn tmps).run Tryz.prog w = .ok (.agg #[v, a, b, c]) w :=
  results_cell_row h tmps w g 56 #[v, a, b, c] (0, 0) _ hp hg Tryz.underlying56 rfl (by kernel_rfl)

theorem one_dec (B : ByteArray) (a b c : Int) : (#[Value.string B, Value.int .i64 a, Value.int .i64 b, Value.int .i64 c]).all (·.oneCell') = true := by simp [Value.oneCell']

theorem refNewDec_as (B : ByteArray) (s : List UInt8) (w : World) (hs : ⟨s.toArray⟩ = B) (hn : s.length ≤ 1000000) :
    Calls Tryz.prog 22 #[.string B] w fun e w' => e = .returned (.agg (rdA B (Dt.new (byteF s)))) ∧ Below w.heap.size w w' := by
  have HB := Lib.hid (fun i y w hi hy => refByte_as B s i y w hs hi hn hy)
  have HF := Lib.hid (feed_four (byteF s) (byteF_le s))
  have HS := Lib.hid (feed_small (byteF s) (byteF_le s))
  have HY := Lib.hid (byteF_le s)
  clear hs
  have HA := Lib.hid (At.new w #[.string ⟨#[]⟩, .int .i64 0, .int .i64 0, .int .i64 0] 56)
  have HBB := Lib.hid ((Below.refl w.heap.size w).alloc (Nat.le_refl _) (.cells #[.string ⟨#[]⟩, .int .i64 0, .int .i64 0, .int .i64 0] 56))
  go_enter Tryz.func22, Tryz.ntmps22
  go_wp2_with fail
  revert HA HBB
  generalize World.alloc _ _ = W
  intro HA HBB
  go_loopw [3, 4] (fun a i wx => ∃ k : Nat, k ≤ 4 ∧ a = .int .i64 (feed (byteF s) 0 k 0 : Nat) ∧ i = .int .i64 k ∧ wx = W) (fun _ i _ => 4 - (intOf i).toNat)
  case atStart => exact ⟨0, by omega, rfl, rfl, rfl⟩
  case round =>
    obtain ⟨k, hk, rfl, rfl, rfl⟩ := hrel
    by_cases hlt : k < 4
    · have k1 : (k : Int) < 4 := by omega
      have HN := Lib.hid (HF.out k hlt)
      have hx1 := HS.out k hk
      have hx2 : 256 ^ k ≤ 256 ^ 4 := Nat.pow_le_pow_right (by omega) hk
      have hy1 := HY.out k
      obtain ⟨x, hx⟩ : ∃ x, feed (byteF s) 0 k 0 = x := ⟨_, rfl⟩
      obtain ⟨y, hy⟩ : ∃ y, byteF s k = y := ⟨_, rfl⟩
      rw [hx] at HN hx1 ⊢
      rw [hy] at HN hy1
      have x3 : x ≤ 4294967296 := by omega
      have HYK := Lib.hid hy
      clear hx hy hx1 hx2
      go_wp2_with fail
      refine (HB.out k y _ (by omega) HYK.out).mono ?_
      rintro e w' ⟨rfl, rfl⟩
      go_wp2_with fail
      go_roundw
      case rel => exact ⟨k + 1, by omega, by rw [← HN.out]; go_num, by go_num, trivial⟩
      case measure => simp [intOf]; omega
    · obtain rfl : k = 4 := by omega
      have HD := Lib.hid (show (Dt.new (byteF s)).c = feed (byteF s) 0 4 0 from rfl)
      obtain ⟨x, hx⟩ : ∃ x, feed (byteF s) 0 4 0 = x := ⟨_, rfl⟩
      rw [hx] at HD ⊢
      clear hx hlt hk
      go_wp2_with (first
        | refine wpList_store_row rfl 56 _ _ rfl w.heap.size #[.string B, .int .i64 x, .int .i64 4294967295, .int .i64 4] rfl rfl _ _ HA.out (by kernel_rfl) rfl (one_dec _ _ _ _) ?_)
      refine bodyPost_ret (v := .agg #[.string B, .int .i64 x, .int .i64 4294967295, .int .i64 4]) (results_dec rfl _ _ w.heap.size _ _ _ _ rfl HA.out.setRow) rfl ⟨?_, below_setRow' HBB.out (Nat.le_refl _) _⟩
      unfold rdA
      rw [HD.out]
      rfl

theorem run_min2 (x y u : Int) (h : min x y = u) (w : World) :
    (Builtin.min_ #[3, 3] 3 #[.int .i64 x, .int .i64 y]).run Tryz.prog w = .ok (.int .i64 u) w := by
  have e : (if y < x then y else x) = u := by rw [← h]; split <;> omega
  rw [← e]
  simp [Builtin.min_, Builtin.min2]

theorem refPlace_as (B : ByteArray) (d : Dt) (t p : Nat) (w : World) (hd : d.ok) (h1 : 1 ≤ t) (h2 : t ≤ 32768) (hp : d.place t = p) :
    Calls Tryz.prog 24 #[.agg (rdA B d), .int .i64 t] w fun e w' => e = .returned (.int .i64 p) ∧ Below w.heap.size w w' := by
  obtain ⟨r1, r2, r3⟩ := hd
  unfold rdA
  obtain ⟨G, hG⟩ : ∃ G : Int, ((4 + d.g : Nat) : Int) = G := ⟨_, rfl⟩
  rw [hG]
  clear hG
  unfold Dt.place at hp
  have u1 : 512 ≤ d.r / t := by rw [Nat.le_div_iff_mul_le h1]; omega
  have u2 := Nat.div_le_self d.r t
  obtain ⟨u, hu⟩ : ∃ u, d.r / t = u := ⟨_, rfl⟩
  rw [hu] at hp u1 u2
  have q2 := Nat.div_le_self d.c u
  obtain ⟨q, hq⟩ : ∃ q, d.c / u = q := ⟨_, rfl⟩
  rw [hq] at hp q2
  have HU := Lib.hid hu
  have HQ := Lib.hid hq
  obtain ⟨r, hr⟩ : ∃ r, d.r = r := ⟨_, rfl⟩
  obtain ⟨c, hc⟩ : ∃ c, d.c = c := ⟨_, rfl⟩
  rw [hr] at hu r1 r2 u2 ⊢
  rw [hc] at hq r3 q2 ⊢
  have t0 : ¬ (t : Int) = 0 := by omega
  have u0 : ¬ (u : Int) = 0 := by omega
  have e1 : (r : Int).tdiv t = u := by rw [Int.tdiv_eq_ediv_of_nonneg (by omega), ← hu]; exact (Int.natCast_ediv r t).symm
  have e2 : (c : Int).tdiv u = q := by rw [Int.tdiv_eq_ediv_of_nonneg (by omega), ← hq]; exact (Int.natCast_ediv c u).symm
  have e3 : (r : Int) / t = u := by rw [← hu]; exact (Int.natCast_ediv r t).symm
  have e4 : (c : Int) / u = q := by rw [← hq]; exact (Int.natCast_ediv c u).symm
  have rm := run_min2 (q : Int) ((t : Int) - 1) (p : Int) (by omega)
  have c1 : (w.alloc (.cells #[.string B, .int .i64 c, .int .i64 r, .int .i64 G] 56)).drew.cell? ⟨w.heap.size, 1, none⟩ = some (.int .i64 c) := (At.new w #[.string B, .int .i64 c, .int .i64 r, .int .i64 G] 56).cell 1
  have c2 : (w.alloc (.cells #[.string B, .int .i64 c, .int .i64 r, .int .i64 G] 56)).drew.cell? ⟨w.heap.size, 2, none⟩ = some (.int .i64 r) := (At.new w #[.string B, .int .i64 c, .int .i64 r, .int .i64 G] 56).cell 2
  have HB := Lib.hid ((Below.refl w.heap.size w).alloc (Nat.le_refl _) (.cells #[.string B, .int .i64 c, .int .i64 r, .int .i64 G] 56))
  clear hu hq hr hc hp
  go_enter Tryz.func24, Tryz.ntmps24
  go_wp2_with fail
  go_quiet (fail)
  go_wp2
  go_ret
  exact ⟨rfl, below_drewN HB.out _⟩
end Go.Proofs.YtimhemcoflpmcaaGreatDoor.De
end
