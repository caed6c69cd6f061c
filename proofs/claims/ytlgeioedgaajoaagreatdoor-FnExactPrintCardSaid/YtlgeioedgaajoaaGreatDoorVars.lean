import Derived.Test.YtlgeioedgaajoaaGreatDoorPure
import Derived.Test.YtlgeioedgaajoaaGreatDoorOwn
namespace Go.Proofs.YtlgeioedgaajoaaGreatDoor
open Go.RowKit
set_option linter.unusedSimpArgs false
set_option linter.unusedVariables false

/-- The cells of a list of variables, three each. -/
def Cs (w : World) : List Value → List DVar → Prop
  | cells, [] => cells = []
  | cells, y :: ys => ∃ a b c rest, cells = a :: b :: c :: rest ∧ RVar 0 w [a, b, c] y ∧ Cs w rest ys

theorem Cs.append {w : World} {c1 c2 : List Value} {y1 y2 : List DVar} (h1 : Cs w c1 y1) (h2 : Cs w c2 y2) : Cs w (c1 ++ c2) (y1 ++ y2) := by
  induction y1 generalizing c1 with
  | nil => have : c1 = [] := h1; subst this; exact h2
  | cons y ys ih =>
    obtain ⟨a, b, c, rest, rfl, hR, hrest⟩ := h1
    exact ⟨a, b, c, rest ++ c2, rfl, hR, ih hrest⟩
theorem Cs.length {w : World} {cs : List Value} {ys : List DVar} (h : Cs w cs ys) : cs.length = ys.length * 3 := by
  induction ys generalizing cs with
  | nil => have : cs = [] := h; subst this; rfl
  | cons y ys ih =>
    obtain ⟨a, b, c, rest, rfl, hR, hrest⟩ := h
    have := ih hrest
    simp only [List.length_cons]
    omega
theorem Cs.stays {w w' : World} (hb : Below w.heap.size w w') {cs : List Value} {ys : List DVar} (h : Cs w cs ys) : Cs w' cs ys := by
  induction ys generalizing cs with
  | nil => exact h
  | cons y ys ih =>
    obtain ⟨a, b, c, rest, rfl, hR, hrest⟩ := h
    exact ⟨a, b, c, rest, rfl, RVar_kept.stays _ _ _ _ _ hb hR, ih hrest⟩
theorem Cs.one {w : World} {cs : List Value} {ys : List DVar} (h : Cs w cs ys) : ∀ u, u ∈ cs → u.oneCell' = true := by
  induction ys generalizing cs with
  | nil => have : cs = [] := h; subst this; intro u hu; cases hu
  | cons y ys ih =>
    obtain ⟨a, b, c, rest, rfl, hR, hrest⟩ := h
    obtain ⟨cl, e, _, _, hcl⟩ := hR
    obtain ⟨ac, cc, rfl⟩ := hcl.shape
    simp only [List.cons.injEq] at e
    obtain ⟨rfl, rfl, rfl, _⟩ := e
    intro u hu
    simp only [List.mem_cons] at hu
    rcases hu with rfl | rfl | rfl | hu
    · rfl
    · rfl
    · rfl
    · exact ih hrest u hu
theorem Cs.get {w : World} {cs : List Value} {ys : List DVar} (h : Cs w cs ys) (i : Nat) (hi : i < ys.length) : ∃ q : List Value, q.length = 3 ∧ (∀ j (hj : j < q.length), cs[i * 3 + j]? = some q[j]) ∧ RVar 0 w q ys[i] := by
  induction ys generalizing cs i with
  | nil => exact absurd hi (Nat.not_lt_zero _)
  | cons y ys ih =>
    obtain ⟨a, b, c, rest, rfl, hR, hrest⟩ := h
    cases i with
    | zero =>
      refine ⟨[a, b, c], rfl, fun j hj => ?_, hR⟩
      match j, hj with
      | 0, _ => rfl
      | 1, _ => rfl
      | 2, _ => rfl
    | succ i =>
      obtain ⟨q, hq, hc, hr⟩ := ih hrest i (by simpa using hi)
      refine ⟨q, hq, fun j hj => ?_, hr⟩
      rw [show (i + 1) * 3 + j = (i * 3 + j) + 1 + 1 + 1 from by omega]
      simpa using hc j hj

theorem cells_of {w w0 : World} {b : Nat} {ys : List DVar} {o : Nat} (h : ∀ i (hi : i < ys.length), ∃ cs : List Value, cs.length = 3 ∧ (∀ j (hj : j < cs.length), w.cell? ⟨b, o + i * 3 + j, none⟩ = some cs[j]) ∧ RVar 0 w0 cs ys[i]) :
    ∃ news, Cs w0 news ys ∧ ∀ j u, news[j]? = some u → w.cell? ((⟨b, o, none⟩ : Addr).add j) = some u := by
  induction ys generalizing o with
  | nil => exact ⟨[], rfl, fun j u h => by simp at h⟩
  | cons y ys ih =>
    obtain ⟨cs, hl, hc, hR⟩ := h 0 (by simp)
    obtain ⟨rest, hrest, hcell⟩ := ih (o := o + 3) (fun i hi => by
      obtain ⟨q, hq, hcq, hRq⟩ := h (i + 1) (by simpa using hi)
      refine ⟨q, hq, fun j hj => ?_, by simpa using hRq⟩
      rw [show o + 3 + i * 3 + j = o + (i + 1) * 3 + j from by omega]
      exact hcq j hj)
    match cs, hl with
    | [a0, a1, a2], _ =>
      refine ⟨a0 :: a1 :: a2 :: rest, ⟨a0, a1, a2, rest, rfl, hR, hrest⟩, fun j u hu => ?_⟩
      match j with
      | 0 => have := hc 0 (by simp); simp at hu; subst hu; simpa [Addr.add] using this
      | 1 => have := hc 1 (by simp); simp at hu; subst hu; simpa [Addr.add] using this
      | 2 => have := hc 2 (by simp); simp at hu; subst hu; simpa [Addr.add] using this
      | j + 3 =>
        have := hcell j u (by simpa using hu)
        rw [← this]
        rw [Addr.add_lit, Addr.add_lit, show o + (j + 3) = o + 3 + j from by omega]

theorem info_Var : (Tryz.prog.info? 64).map (fun i => (i.zero, i.size, i.bytes)) = some (some (.agg #[.string ByteArray.empty, .int .i64 0, .slice none 0 0]), 3, 48) := by kernel_rfl

/-- 'append(list, ys...)' onto a list of one's own. -/
theorem wpList_append_vars (w w0 : World) (hw0 : Below w0.heap.size w0 w) {ops : Array Oper} {rest : List Oper} {o : Oper} {a : Act} {Q : Exit → Act → World → Prop} (hgd : o.guard = none) (s x : Operand)
    (ho : o.op = .call { callee := .builtin .append, args := #[s, x], argTypes := #[35, 35] })
    (base g n cap : Nat) (cells : List Value) (hs : a.eval s = .slice (some ⟨g, 0, none⟩) n cap) (hown : w.ownsRow base 64 3 (.slice (some ⟨g, 0, none⟩) n cap) n cells)
    (xv : Value) (hx : a.eval x = xv) (ys : List DVar) (hsl : SlAt 3 48 RVar 0 w0 xv ys) (hb : (n + ys.length) * 48 ≤ 140737488355328) (hbase : base ≤ w.heap.size)
    (h : ∀ g' cap' w' news, w'.ownsRow base 64 3 (.slice (some ⟨g', 0, none⟩) (n + ys.length) cap') (n + ys.length) (cells ++ news) → w.grownBy w' (some g) → Cs w0 news ys → wpList Tryz.prog ops Q rest (a.put o.dst (.slice (some ⟨g', 0, none⟩) (n + ys.length) cap')) w') : wpList Tryz.prog ops Q (o :: rest) a w := by
  obtain ⟨i, hi, hz0, hz1, hz2⟩ := info_parts info_Var
  obtain ⟨ax, cx, rfl, _, hn, hel⟩ := hsl
  cases ax with
  | none =>
    have hy : ys = [] := by
      cases ys with
      | nil => rfl
      | cons y ys =>
        obtain ⟨b, o, cs, hbo, _⟩ := hel 0 (by simp)
        cases hbo
    subst hy
    refine wpList_plain hgd fun K hK => ?_
    have hcap : n ≤ cap := by
      obtain ⟨_, hh⟩ := hown
      rcases hh with ⟨hh, _⟩ | ⟨g1, cap1, cur, hv, _, _, h2, _⟩
      · cases hh
      · simp only [Value.slice.injEq] at hv
        obtain ⟨_, _, rfl⟩ := hv
        exact h2
    have hrun := run_append_room_src (P := Tryz.prog) w 35 35 o.type 64 i Tryz.underlying35 hi g 0 n cap (.slice none 0 cx) 0 [] (Src.ofNil w Tryz.underlying35 cx) (by omega) (fun j hj => by simp at hj) (fun j hj => by simp at hj)
    unfold Oper.wp execOp
    simp only [ho, resolve, invoke, builtin, Sem.run_bind, Sem.run_pure, Result.andThen_ok, List.map_toArray, List.map_cons, List.map_nil, hs, hx, hrun, List.length_nil]
    refine hK _ _ ?_
    have hsc : w.setCells g (0 + n * i.size) [] = w := by simp [World.setCells]
    rw [hsc]
    have := h g cap w [] (by simpa using hown) (World.grownBy.refl w _) rfl
    simpa using this
  | some ad =>
    by_cases hy : ys.length = 0
    · have hy' : ys = [] := List.eq_nil_of_length_eq_zero hy
      subst hy'
      refine wpList_append_own w hgd s x 35 ho base 64 i _ 3 48 Tryz.underlying35 hi hz0 hz1 hz2 rfl (by decide) _ n cells hs hown ad 0 cx [] (by simpa using hx) (by simp) (fun j u h => by simp at h) (fun u h => by cases h) (by simp [maxLen]; omega) (by simpa using hb) hbase ?_
      intro v' w' h1 h2 h3
      obtain ⟨hl, hh⟩ := h1
      rcases hh with ⟨rfl, _⟩ | ⟨g', cap', cur, rfl, hr⟩
      · have := h3.1 rfl
        cases this.1
      · exact h g' cap' w' [] ⟨hl, Or.inr ⟨g', cap', cur, rfl, hr⟩⟩ h2 rfl
    · obtain ⟨b, oo, cs, hbo, _⟩ := hel 0 (by omega)
      simp only [Option.some.injEq] at hbo
      subst hbo
      obtain ⟨news, hcs, hcell⟩ := cells_of (w := w) (w0 := w0) (b := b) (ys := ys) (o := oo) (fun i hi => by
        obtain ⟨b', o', cs', hbo', _, hlt', hl', hc', hR'⟩ := hel i hi
        simp only [Option.some.injEq, Addr.mk.injEq] at hbo'
        obtain ⟨rfl, rfl, _⟩ := hbo'
        exact ⟨cs', hl', fun j hj => by rw [hw0.cell (p := ⟨b, _, none⟩) hlt']; exact hc' j hj, hR'⟩)
      refine wpList_append_own w hgd s x 35 ho base 64 i _ 3 48 Tryz.underlying35 hi hz0 hz1 hz2 rfl (by decide) _ n cells hs hown _ ys.length cx news hx hcs.length hcell hcs.one (by simp [maxLen]; omega) hb hbase ?_
      intro v' w' h1 h2 h3
      obtain ⟨hl, hh⟩ := h1
      rcases hh with ⟨rfl, _⟩ | ⟨g', cap', cur, rfl, hr⟩
      · have := h3.1 rfl
        cases this.1
      · exact h g' cap' w' news ⟨hl, Or.inr ⟨g', cap', cur, rfl, hr⟩⟩ h2 hcs

theorem own_start (w : World) (base : Nat) (hb : base ≤ w.heap.size) (e : TypeId) : (w.alloc (.cells #[] e)).ownsRow base e 3 (.slice (some ⟨w.heap.size, 0, none⟩) 0 0) 0 [] :=
  ⟨rfl, Or.inr ⟨_, _, #[], rfl, hb, Deep.blk_alloc_new _ _, Nat.le_refl _, Nat.zero_le _, rfl, rfl⟩⟩

theorem own_at {w : World} {base g n cap : Nat} {e : TypeId} {cells : List Value} (h : w.ownsRow base e 3 (.slice (some ⟨g, 0, none⟩) n cap) n cells) {ys : List DVar} (hcs : Cs w cells ys) (hn : ys.length = n) (hb : n * 48 ≤ 140737488355328) :
    SlAt 3 48 RVar 0 w (.slice (some ⟨g, 0, none⟩) n cap) ys := by
  have hcap : n ≤ cap := by
    obtain ⟨_, hh⟩ := h
    rcases hh with ⟨hh, _⟩ | ⟨g1, cap1, cur, hv, _, _, h2, _⟩
    · cases hh
    · simp only [Value.slice.injEq] at hv
      obtain ⟨_, _, rfl⟩ := hv
      exact h2
  refine ⟨_, cap, by rw [hn], ⟨by unfold Len; omega, by omega⟩, by unfold Len; omega, fun i hi => ?_⟩
  obtain ⟨q, hq, hc, hR⟩ := hcs.get i hi
  refine ⟨g, 0, q, rfl, Nat.zero_le _, (h.lt g rfl).2, hq, fun j hj => ?_, hR⟩
  have := h.cells (g := g) rfl (i * 3 + j) _ (hc j hj)
  rw [Addr.add_lit] at this
  rw [← this]
  rw [show 0 + i * 3 + j = 0 + (i * 3 + j) from by omega]

theorem own_base {w : World} {base g n cap : Nat} {e : TypeId} {cells : List Value} (h : w.ownsRow base e 3 (.slice (some ⟨g, 0, none⟩) n cap) n cells) : base ≤ g := (h.lt g rfl).1

set_option maxHeartbeats 1000000 in
theorem l1Vars_ok (x : DNode) (a1 a2 a3 a4 : Value) (w : World) (h1 : SlAt 3 48 RVar 0 w a1 x.ins) (h2 : SlAt 3 48 RVar 0 w a2 x.outs) (h3 : SlAt 3 48 RVar 0 w a3 x.vars) (hsum : x.ins.length + x.outs.length + x.vars.length ≤ 1048576) :
    Calls Tryz.prog 20 #[.agg #[.string x.name, a1, a2, a3, a4]] w fun e w' => ∃ v, e = .returned v ∧ SlAt 3 48 RVar 0 w' v (x.ins ++ x.outs ++ x.vars) ∧ Below w.heap.size w w' := by
  obtain ⟨s, ins, outs, vars, eqs⟩ := x
  simp only at *
  have H1 := hide h1
  have H2 := hide h2
  have H3 := hide h3
  clear h1 h2 h3
  have P0 : Below (w.heap.size + 1) (w.alloc (.cells #[.string s, a1, a2, a3, a4] 38)) ((w.alloc (.cells #[.string s, a1, a2, a3, a4] 38)).alloc (.cells #[] 64)) := (Below.refl _ _).alloc (by simp) _
  have P0' : Below w.heap.size w (w.alloc (.cells #[.string s, a1, a2, a3, a4] 38)) := (Below.refl _ _).alloc (Nat.le_refl _) _
  have Q0 : Below w.heap.size w ((w.alloc (.cells #[.string s, a1, a2, a3, a4] 38)).alloc (.cells #[] 64)) := P0'.trans (P0.mono (Nat.le_succ _))
  have O0 : ((w.alloc (.cells #[.string s, a1, a2, a3, a4] 38)).alloc (.cells #[] 64)).ownsRow (w.heap.size + 1) 64 3 (.slice (some ⟨w.heap.size + 1, 0, none⟩) 0 0) 0 [] := by
    have := own_start (w.alloc (.cells #[.string s, a1, a2, a3, a4] 38)) (w.heap.size + 1) (by simp) 64
    simpa using this
  have HP0 := hide P0
  have HQ0 := hide Q0
  have HP0' := hide P0'
  have HO0 := hide O0
  clear P0 Q0 P0' O0
  go_enter Tryz.func20, Tryz.ntmps20
  go_wp2_with (at_builtin; go_must (refine wpList_append_vars _ w (unhide HQ0) rfl _ _ rfl (w.heap.size + 1) (w.heap.size + 1) 0 0 [] rfl (unhide HO0) _ rfl ins (unhide H1) (by omega) (by simp) ?_))
  intro g1 cap1 w1 news1 hown1 hgr1 hcs1
  have hsz1 := hgr1.size
  simp only [World.size_alloc] at hsz1
  have B1 := grow_below (unhide HP0) hgr1 (by simp) (Nat.le_refl _)
  have Q1 : Below w.heap.size w w1 := (unhide HP0').trans (B1.mono (Nat.le_succ _))
  have HB1 := hide B1
  have HQ1 := hide Q1
  have HO1 := hide hown1
  have HC1 := hide hcs1
  have k2 := box_cell (B := 0) B1 2
  have k3 := box_cell (B := 0) B1 3
  simp at k2 k3
  clear hown1 hgr1 hcs1 B1 Q1
  go_wp2_with (at_builtin; go_must (refine wpList_append_vars _ w (unhide HQ1) rfl _ _ rfl (w.heap.size + 1) g1 _ cap1 _ rfl (unhide HO1) _ rfl outs (unhide H2) (by omega) (by omega) ?_))
  intro g2 cap2 w2 news2 hown2 hgr2 hcs2
  have hsz2 := hgr2.size
  have B2 := grow_below (unhide HB1) hgr2 (by omega) (own_base (unhide HO1))
  have Q2 : Below w.heap.size w w2 := (unhide HP0').trans (B2.mono (Nat.le_succ _))
  have HB2 := hide B2
  have HQ2 := hide Q2
  have HO2 := hide hown2
  have HC2 := hide hcs2
  have k3 := box_cell (B := 0) B2 3
  simp at k3
  clear hown2 hgr2 hcs2 B2 Q2 k2
  go_wp2_with (at_builtin; go_must (refine wpList_append_vars _ w (unhide HQ2) rfl _ _ rfl (w.heap.size + 1) g2 _ cap2 _ rfl (unhide HO2) _ rfl vars (unhide H3) (by omega) (by omega) ?_))
  intro g3 cap3 w3 news3 hown3 hgr3 hcs3
  have B3 := grow_below (unhide HB2) hgr3 (by omega) (own_base (unhide HO2))
  have Q3 : Below w.heap.size w w3 := (unhide HP0').trans (B3.mono (Nat.le_succ _))
  have D := own_at (ys := ins ++ outs ++ vars) hown3 (by
    rw [← List.append_assoc]
    exact (((unhide HC1).append (unhide HC2)).append hcs3).stays Q3) (by rw [List.length_append, List.length_append]) (by omega)
  have HD := hide D
  have HQ3 := hide Q3
  clear D Q3 B3 hown3 hgr3 hcs3
  go_wp2
  go_ret
  exact ⟨_, rfl, unhide HD, unhide HQ3⟩

end Go.Proofs.YtlgeioedgaajoaaGreatDoor
