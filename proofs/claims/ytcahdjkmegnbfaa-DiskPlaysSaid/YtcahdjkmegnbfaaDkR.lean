/- The document's disk, as a value: slices that are only read; contracts of its New, fused. -/
import Derived.Test.YtcahdjkmegnbfaaDkG
import Derived.Laws.AppendOwnNone
set_option maxRecDepth 100000
set_option linter.unusedVariables false
set_option linter.unusedSimpArgs false
namespace Go.Proofs.Ytcahdjkmegnbfaa.Dk
open Go.RowKit Go.Proofs.Ytcahdjkmegnbfaa.Row

/-- 'a, n, c' is a slice of n elements m cells wide, nil or in a block of G's. -/
def SlG (w : World) (G : Nat → Prop) (m : Nat) (a : Option Addr) (n c : Nat) (F : Nat → Array Value) : Prop :=
  n ≤ c ∧ c ≤ maxLen ∧ Wid m F n ∧ ((a = none ∧ n = 0 ∧ c = 0) ∨ ∃ b o, a = some ⟨b, o, none⟩ ∧ G b ∧ b < w.heap.size ∧ ∀ i, i < n → w.rangeAt b (o + i * m) (F i).toList)
section
variable {w w' : World} {G H : Nat → Prop} {m n c B : Nat} {a : Option Addr} {F K : Nat → Array Value} {te ts : TypeId}
theorem SlG.nil (w : World) (G : Nat → Prop) (m : Nat) (F : Nat → Array Value) : SlG w G m none 0 0 F := ⟨Nat.le_refl _, Nat.zero_le _, fun i hi => absurd hi (Nat.not_lt_zero i), .inl ⟨rfl, rfl, rfl⟩⟩
theorem SlG.keep (h : SlG w G m a n c F) (hs : w.heap.size ≤ w'.heap.size) (hk : ∀ k, G k → k < w.heap.size → w'.heap[k]? = w.heap[k]?) : SlG w' G m a n c F := by
  obtain ⟨h1, h2, h3, h4 | ⟨b, o, e, hG, hb, hr⟩⟩ := h
  · exact ⟨h1, h2, h3, .inl h4⟩
  · exact ⟨h1, h2, h3, .inr ⟨b, o, e, hG, Nat.lt_of_lt_of_le hb hs, fun i hi j v hv => (World.cell?_of_block (w := w) (hk b hG hb)).trans (hr i hi j v hv)⟩⟩
theorem SlG.below (h : SlG w G m a n c F) (hb : Below w.heap.size w w') : SlG w' G m a n c F := h.keep hb.size fun k _ hk => hb.block k hk
theorem SlG.kp (h : SlG w G m a n c F) (hk : Kp G w w') : SlG w' G m a n c F := h.keep hk.1 fun k hG _ => hk.2 k hG
theorem SlG.setCell (h : SlG w G m a n c F) {p : Addr} (v : Value) (hne : ∀ k, G k → k ≠ p.block) : SlG (w.setCell p v) G m a n c F :=
  h.keep (by simp [World.setCell]) fun k hG _ => heap_setCell_other _ _ _ _ (hne k hG)
theorem SlG.setRow (h : SlG w G m a n c F) {g : Nat} (C : Array Value) (hne : ∀ k, G k → k ≠ g) : SlG (w.setRow g C) G m a n c F :=
  h.keep (by rw [size_setRow]; exact Nat.le_refl _) fun k hG _ => Go.setRow_other _ _ _ _ (hne k hG)
theorem SlG.sub (h : SlG w G m a n c F) (hH : ∀ k, G k → k < w.heap.size → H k) : SlG w H m a n c F := by
  obtain ⟨h1, h2, h3, h4 | ⟨b, o, e, hG, hb, hr⟩⟩ := h
  · exact ⟨h1, h2, h3, .inl h4⟩
  · exact ⟨h1, h2, h3, .inr ⟨b, o, e, hH b hG hb, hb, hr⟩⟩
theorem SlG.ext (h : SlG w G m a n c F) (e : ∀ i, i < n → F i = K i) : SlG w G m a n c K := by
  obtain ⟨h1, h2, h3, h4⟩ := h
  refine ⟨h1, h2, fun i hi => by rw [← e i hi]; exact h3 i hi, h4.imp id fun ⟨b, o, e1, hG, hb, hr⟩ => ⟨b, o, e1, hG, hb, fun i hi => by rw [← e i hi]; exact hr i hi⟩⟩
theorem Els.slG (h : Els w B te m a n c F) (hG : ∀ k, B ≤ k → k < w.heap.size → G k) : SlG w G m a n c F := by
  obtain ⟨h0, h1, ⟨e, hn⟩ | ⟨g, cap, cur, e, h3, h4, h5⟩⟩ := id h
  · simp only [Value.slice.injEq] at e
    exact ⟨h.cap.1, h.cap.2, h0, .inl ⟨e.1, hn, e.2.2⟩⟩
  · simp only [Value.slice.injEq] at e
    obtain ⟨rfl, _, rfl⟩ := e
    have hg : g < w.heap.size := (Array.getElem?_eq_some_iff.1 h4).1
    exact ⟨h.cap.1, h.cap.2, h0, .inr ⟨g, 0, rfl, hG g h3 hg, hg, fun i hi => by rw [Nat.zero_add]; exact h.range hi⟩⟩
theorem SlG.range (h : SlG w G m a n c F) {k : Nat} (hk : k < n) : ∃ b o, a = some ⟨b, o, none⟩ ∧ G b ∧ w.rangeAt b (o + k * m) (F k).toList := by
  obtain ⟨h1, h2, h3, ⟨_, h4, _⟩ | ⟨b, o, e, hG, hb, hr⟩⟩ := h
  · omega
  · exact ⟨b, o, e, hG, hr k hk⟩

/-- 'append(p, q...)', q only read. -/
theorem wpList_append_sl {ops : Array Oper} {rest : List Oper} {o : Oper} {ac : Act} {Q : Exit → Act → World → Prop} {by_ : Nat} {Z : Array Value} (T : ElT ts te m by_ Z) (hgd : o.guard = none) (s x : Operand)
    (ho : o.op = .call { callee := .builtin .append, args := #[s, x], argTypes := #[ts, ts] })
    (hs : ac.eval s = .slice a n c) (hown : Els w B te m a n c F) {ax : Option Addr} {k d : Nat} (hx : ac.eval x = .slice ax k d) (hX : SlG w G m ax k d K)
    (hn : n + k ≤ 1000000) (hB : B ≤ w.heap.size)
    (hK : ∀ a' c' w', Els w' B te m a' (n + k) c' (catE F n K) → Below B w w' → w.grownBy w' (Value.slice a n c).ownBlock → wpList Try.prog ops Q rest (ac.put o.dst (.slice a' (n + k) c')) w') : wpList Try.prog ops Q (o :: rest) ac w := by
  obtain ⟨h1, h2, h3, ⟨rfl, rfl, rfl⟩ | ⟨b, p, rfl, hG, hb, hr⟩⟩ := hX
  · obtain ⟨i, z, hi, hz, hzc, hsz, hby⟩ := T.info
    refine wpList_append_own_none hgd s x ts ho B te i m T.hu hi (.slice a n c) n (elL F n) hs hown.2 hx ?_
    exact hK a c w (hown.ext fun i hi => by unfold catE; rw [if_pos hi]) (Below.refl _ _) ⟨rfl, rfl, rfl, Nat.le_refl _, fun _ _ _ => rfl⟩
  · exact wpList_append_els T hgd s x ho hs hown b p k d hx h3 hr hn hB fun a' c' w' h4 h5 h6 _ => hK a' c' w' h4 h5 h6
end

/-- 'append([]T{}, q...)'. -/
theorem wpList_copy_sl {w : World} {G : Nat → Prop} {m B : Nat} {K : Nat → Array Value} {te ts : TypeId} {ops : Array Oper} {rest : List Oper} {o : Oper} {ac : Act} {Q : Exit → Act → World → Prop} {by_ : Nat} {Z : Array Value} (T : ElT ts te m by_ Z) (hgd : o.guard = none) (s x : Operand)
    (ho : o.op = .call { callee := .builtin .append, args := #[s, x], argTypes := #[ts, ts] }) {g : Nat}
    (hs : ac.eval s = .slice (some ⟨g, 0, none⟩) 0 0) (hg : At w g #[] te) (hBg : B ≤ g) {ax : Option Addr} {k d : Nat} (hx : ac.eval x = .slice ax k d) (hX : SlG w G m ax k d K) (hn : k ≤ 1000000)
    (hK : ∀ a' c' w', Els w' B te m a' k c' K → Below B w w' → w.grownBy w' (some g) → wpList Try.prog ops Q rest (ac.put o.dst (.slice a' k c')) w') : wpList Try.prog ops Q (o :: rest) ac w := by
  refine wpList_append_sl T hgd s x ho hs (Els.empty (fun _ => #[]) hBg hg) hx hX (by omega) (Nat.le_trans hBg (Nat.le_of_lt hg.lt)) fun a' c' w' h1 h2 h3 => ?_
  rw [Nat.zero_add] at h1 ⊢
  exact hK a' c' w' (h1.ext fun i hi => by rw [catE_0]) h2 h3

theorem elt_p : ElT 30 35 64 64 zP :=
  ⟨Try.underlying30, ⟨_, _, rfl, rfl, by kernel_rfl, by kernel_rfl, by kernel_rfl⟩, pag_z.size, by omega, by omega⟩
theorem elt_i : ElT 31 3 1 8 #[.int .i64 0] :=
  ⟨Try.underlying31, ⟨_, _, rfl, rfl, by kernel_rfl, by kernel_rfl, by kernel_rfl⟩, rfl, by omega, by omega⟩

/-- The document's disk, cell by cell. -/
def refV (x0 x1 x2 x3 : Value) (dn : Bool) (fu : Int) : Array Value := #[x0, x1, x2, x3, .bool dn, .int .i64 fu]
def zR : Array Value := refV (.slice none 0 0) (.slice none 0 0) (.slice none 0 0) (.slice none 0 0) false 0
theorem zero_ref (w : World) : (zeroValue 33).run Try.prog w = .ok (.agg zR) w := by kernel_rfl
theorem info_ref {A : Array Value} (h : A.size = 6) : (Try.prog.info? 33).map (·.size) = some A.size := by rw [h]; kernel_rfl
/-- The document's disk, as a value: what is sure, what is read, the writes that aren't sure, in G's blocks. -/
def Rk (w : World) (G : Nat → Prop) (size n : Nat) (sure seen : Nat → Array Value) (sec : Nat → Int) (pg : Nat → Array Value) (dn : Bool) (fu : Int) (v : Array Value) : Prop :=
  ∃ a0 c0 a1 c1 a2 c2 a3 c3, v = refV (.slice a0 size c0) (.slice a1 size c1) (.slice a2 n c2) (.slice a3 n c3) dn fu ∧ SlG w G 64 a0 size c0 sure ∧ SlG w G 64 a1 size c1 seen ∧ SlG w G 1 a2 n c2 (fun k => #[.int .i64 (sec k)]) ∧ SlG w G 64 a3 n c3 pg
section
variable {w w' : World} {G H : Nat → Prop} {size n : Nat} {sure seen : Nat → Array Value} {sec : Nat → Int} {pg : Nat → Array Value} {dn : Bool} {fu : Int} {v : Array Value}
theorem Rk.keep (h : Rk w G size n sure seen sec pg dn fu v) (hs : w.heap.size ≤ w'.heap.size) (hk : ∀ k, G k → k < w.heap.size → w'.heap[k]? = w.heap[k]?) : Rk w' G size n sure seen sec pg dn fu v := by
  obtain ⟨a0, c0, a1, c1, a2, c2, a3, c3, e, h0, h1, h2, h3⟩ := h
  exact ⟨a0, c0, a1, c1, a2, c2, a3, c3, e, h0.keep hs hk, h1.keep hs hk, h2.keep hs hk, h3.keep hs hk⟩
theorem Rk.kp (h : Rk w G size n sure seen sec pg dn fu v) (hk : Kp G w w') : Rk w' G size n sure seen sec pg dn fu v := h.keep hk.1 fun k hG _ => hk.2 k hG
theorem Rk.below (h : Rk w G size n sure seen sec pg dn fu v) (hb : Below w.heap.size w w') : Rk w' G size n sure seen sec pg dn fu v := h.keep hb.size fun k _ hk => hb.block k hk
theorem Rk.sub (h : Rk w G size n sure seen sec pg dn fu v) (hH : ∀ k, G k → k < w.heap.size → H k) : Rk w H size n sure seen sec pg dn fu v := by
  obtain ⟨a0, c0, a1, c1, a2, c2, a3, c3, e, h0, h1, h2, h3⟩ := h
  exact ⟨a0, c0, a1, c1, a2, c2, a3, c3, e, h0.sub hH, h1.sub hH, h2.sub hH, h3.sub hH⟩
theorem Rk.as (h : Rk w G size n sure seen sec pg dn fu v) {sure' seen' : Nat → Array Value} {sec' : Nat → Int} {pg' : Nat → Array Value} (e0 : ∀ k, k < size → sure k = sure' k) (e1 : ∀ k, k < size → seen k = seen' k) (e2 : ∀ k, k < n → sec k = sec' k) (e3 : ∀ k, k < n → pg k = pg' k) :
    Rk w G size n sure' seen' sec' pg' dn fu v := by
  obtain ⟨a0, c0, a1, c1, a2, c2, a3, c3, e, h0, h1, h2, h3⟩ := h
  exact ⟨a0, c0, a1, c1, a2, c2, a3, c3, e, h0.ext e0, h1.ext e1, h2.ext fun i hi => by rw [e2 i hi], h3.ext e3⟩
theorem Rk.six (h : Rk w G size n sure seen sec pg dn fu v) : v.size = 6 ∧ v.all (·.oneCell') = true := by
  obtain ⟨a0, c0, a1, c1, a2, c2, a3, c3, rfl, _⟩ := h
  exact ⟨rfl, by simp [refV, Value.oneCell']⟩
end
theorem built_new (x y : Value) (hx : x.oneCell' = true) (hy : y.oneCell' = true) : Try.prog.built 33 [(0, x), (1, y), (5, .int .i64 (-1))] = some (refV x y (.slice none 0 0) (.slice none 0 0) false (-1)) := by
  cases x <;> first | (cases hx; done) | (cases y <;> first | (cases hy; done) | kernel_rfl)
theorem refV_one (x0 x1 x2 x3 : Value) (dn : Bool) (fu : Int) (h0 : x0.oneCell' = true) (h1 : x1.oneCell' = true) (h2 : x2.oneCell' = true) (h3 : x3.oneCell' = true) : (refV x0 x1 x2 x3 dn fu).all (·.oneCell') = true := by
  have hb : (Value.bool dn).oneCell' = true := rfl
  have hi : (Value.int .i64 fu).oneCell' = true := rfl
  simp [refV, h0, h1, h2, h3, hb, hi]

/-- One row as a result. -/
theorem results_one {fn : Func} {p : Tmp} {t u : TypeId} (h : fn.results = #[.cell p t]) (tmps : Array Value) (w : World) (g : Nat) (A : Array Value) (d : TypeDesc)
    (hp : tmps.getD p undef = .pointer (some ⟨g, 0, none⟩)) (hg : At w g A u) (hu : Try.prog.underlying t = some d) (hd : d.isRow = true) (hA : (Try.prog.info? t).map (·.size) = some A.size) :
    (results fn tmps).run Try.prog w = .ok (.agg A) w := by
  have hp' : tmps[p]?.getD undef = .pointer (some ⟨g, 0, none⟩) := by simpa using hp
  have h1 := run_loadVar_row w g u t A (0, 0) _ hg hu (by cases d <;> first | rfl | cases hd) hA
  simp [results, h, hp', asAddr, h1]
/-- What the document's functions answer: a disk (and a number, or not). -/
def RetK (w : World) (G : Nat → Prop) (mk : Value → Value) (size n : Nat) (sure seen : Nat → Array Value) (sec : Nat → Int) (pg : Nat → Array Value) (dn : Bool) (fu : Int) (e : Ending) (w' : World) : Prop :=
  ∃ v, e = .returned (mk (.agg v)) ∧ Below w.heap.size w w' ∧ Rk w' (fun k => G k ∨ (w.heap.size ≤ k ∧ k < w'.heap.size)) size n sure seen sec pg dn fu v

/-- A fuse behind one more; whether it goes well. -/
theorem fused_as (w : World) (x0 x1 x2 x3 : Value) (h0 : x0.oneCell' = true) (h1 : x1.oneCell' = true) (h2 : x2.oneCell' = true) (h3 : x3.oneCell' = true) (dn : Bool) (fu : Int) (hf : (Lit.int .i64 fu).wf = true) :
    Calls Try.prog 24 #[.agg (refV x0 x1 x2 x3 dn fu)] w fun e w' => e = .returned (.tuple #[.agg (refV x0 x1 x2 x3 dn (if 0 < fu then fu - 1 else fu)), .bool (fu != 0)]) ∧ Below w.heap.size w w' := by
  have hz := zero_ref
  have hb := ((Below.refl w.heap.size w).alloc (Nat.le_refl _) (.cells (refV x0 x1 x2 x3 dn fu) 33)).alloc (by simp) (.cells zR 33)
  have hA1 := (At.new w (refV x0 x1 x2 x3 dn fu) 33).alloc (.cells zR 33)
  have hA2 := At.new (w.alloc (.cells (refV x0 x1 x2 x3 dn fu) 33)) zR 33
  rw [World.size_alloc] at hA2
  have HO := Lib.hid (fun dn fu => refV_one x0 x1 x2 x3 dn fu h0 h1 h2 h3)
  have HB := Lib.hid hb
  have HA1 := Lib.hid hA1
  have HA2 := Lib.hid hA2
  have c5 : _ = some (Value.int .i64 fu) := (hA1.cell 5).trans rfl
  have f5 := hA1.frozen 5
  have hfb := bounds_i64 hf
  clear hb hA1 hA2 h0 h1 h2 h3 hf
  by_cases hz0 : fu = 0
  · subst hz0
    rw [if_neg (by omega)]
    go_enter Try.func24, Try.ntmps24
    go_wp2_with (first
      | refine wpList_load_range (by rfl) 33 _ rfl w.heap.size 0 rfl (At.rng HA1.out) Try.underlying33 rfl (info_ref rfl) ?_
      | (refine wpList_store_row rfl 33 _ _ rfl (w.heap.size + 1) (refV x0 x1 x2 x3 dn 0) rfl rfl _ _ HA2.out (info_ref rfl) rfl (HO.out _ _) ?_
         have HR := Lib.hid (HA2.out.setRow (C := refV x0 x1 x2 x3 dn 0))
         have HBB := Lib.hid (below_setRow' HB.out (Nat.le_succ _) (refV x0 x1 x2 x3 dn 0))))
    exact bodyPost_ret (v := .tuple #[.agg (refV x0 x1 x2 x3 dn 0), .bool false]) (results_any_int rfl _ _ (w.heap.size + 1) _ _ rfl rfl HR.out Try.underlying33 rfl (info_ref rfl)) rfl ⟨rfl, HBB.out⟩
  · have hne : (fu != 0) = true := by rw [bne_iff_ne]; exact hz0
    rw [hne]
    by_cases hp : 0 < fu
    · rw [if_pos hp]
      have hA3 := (At.new w ((refV x0 x1 x2 x3 dn fu).setIfInBounds 5 (.int .i64 (fu - 1))) 33).alloc (.cells zR 33)
      have hA4 := At.new (w.alloc (.cells ((refV x0 x1 x2 x3 dn fu).setIfInBounds 5 (.int .i64 (fu - 1))) 33)) zR 33
      rw [World.size_alloc] at hA4
      have HA3 := Lib.hid (show At ((w.alloc (.cells ((refV x0 x1 x2 x3 dn fu).setIfInBounds 5 (.int .i64 (fu - 1))) 33)).alloc (.cells zR 33)) w.heap.size (refV x0 x1 x2 x3 dn (fu - 1)) 33 from hA3)
      have HA4 := Lib.hid hA4
      have HB3 := Lib.hid (((Below.refl w.heap.size w).alloc (Nat.le_refl _) (.cells ((refV x0 x1 x2 x3 dn fu).setIfInBounds 5 (.int .i64 (fu - 1))) 33)).alloc (by simp) (.cells zR 33))
      clear hA3 hA4
      go_enter Try.func24, Try.ntmps24
      go_wp2_with (first
        | refine wpList_load_range (by rfl) 33 _ rfl w.heap.size 0 rfl (At.rng HA3.out) Try.underlying33 rfl (info_ref rfl) ?_
        | (refine wpList_store_row rfl 33 _ _ rfl (w.heap.size + 1) (refV x0 x1 x2 x3 dn (fu - 1)) rfl rfl _ _ HA4.out (info_ref rfl) rfl (HO.out _ _) ?_
           have HR := Lib.hid (HA4.out.setRow (C := refV x0 x1 x2 x3 dn (fu - 1)))
           have HBB := Lib.hid (below_setRow' HB3.out (Nat.le_succ _) (refV x0 x1 x2 x3 dn (fu - 1)))))
      exact bodyPost_ret (v := .tuple #[.agg (refV x0 x1 x2 x3 dn (fu - 1)), .bool true]) (results_any_int rfl _ _ (w.heap.size + 1) _ _ rfl rfl HR.out Try.underlying33 rfl (info_ref rfl)) rfl ⟨rfl, HBB.out⟩
    · rw [if_neg hp]
      go_enter Try.func24, Try.ntmps24
      go_wp2_with (first
        | refine wpList_load_range (by rfl) 33 _ rfl w.heap.size 0 rfl (At.rng HA1.out) Try.underlying33 rfl (info_ref rfl) ?_
        | (refine wpList_store_row rfl 33 _ _ rfl (w.heap.size + 1) (refV x0 x1 x2 x3 dn fu) rfl rfl _ _ HA2.out (info_ref rfl) rfl (HO.out _ _) ?_
           have HR := Lib.hid (HA2.out.setRow (C := refV x0 x1 x2 x3 dn fu))
           have HBB := Lib.hid (below_setRow' HB.out (Nat.le_succ _) (refV x0 x1 x2 x3 dn fu))))
      exact bodyPost_ret (v := .tuple #[.agg (refV x0 x1 x2 x3 dn fu), .bool true]) (results_any_int rfl _ _ (w.heap.size + 1) _ _ rfl rfl HR.out Try.underlying33 rfl (info_ref rfl)) rfl ⟨rfl, HBB.out⟩
end Go.Proofs.Ytcahdjkmegnbfaa.Dk
