import Derived.Test.YtmglbkndjnflkaaGreatDoorMI5
namespace Go.Proofs.YtmglbkndjnflkaaGreatDoor
open Go.RowKit
set_option linter.unusedSimpArgs false
set_option linter.unusedVariables false

set_option maxRecDepth 20000 in
set_option maxHeartbeats 2000000 in
theorem save_ok (X : BD) (hE : BE X) (H : List ByteArray) (nx : Nat) (w : World) (hS : BS X w H nx) (s : DStm) (sb so : Nat) (ov cv av : Value) (hA : SA X.W0 sb so s ov cv av) (hk : s.kind = 2) :
    Calls Tryz.prog 131 #[.pointer (some ⟨X.bb, 0, none⟩), .pointer (some ⟨sb, so, none⟩)] w (LPost X H nx w s (decide (0 ≤ s.at_ ∧ s.at_ < (X.k.mems.length : Int)) && cfB X.k s.code)) := by
  have HCF : Hid (Calls Tryz.prog 138 #[.pointer (some ⟨X.pb, 0, none⟩), cv] w.drew fun e w' => e = .returned (.bool (cfB X.k s.code)) ∧ Hid (Below w.heap.size w w') ∧ w'.cell? ⟨X.bb, 0, none⟩ = some (.pointer (some ⟨X.pb, 0, none⟩)) ∧ w'.cell? ⟨X.pb, 0, none⟩ = some (.pointer (some ⟨X.cb, X.co, none⟩)) ∧ w'.cell? ⟨X.cb, X.co + 4, none⟩ = some X.a4 ∧ w'.cell? ⟨sb, so + 2, none⟩ = some (.int .i64 s.at_) ∧ w'.cell? ⟨sb, so + 4, none⟩ = some cv) := by
    have hd : Below w.heap.size w w.drew := (Below.refl _ _).drew
    refine (codeFits_ok X.k s.code cv X.pb X.mb X.cb X.co w.drew (hE.pr.stays (hS.stays hd).old) (hA.code.stays RItem_kept (hS.stays hd).old)).mono ?_
    rintro e w' ⟨rfl, hb'⟩
    have h2 := hd.trans (hb'.mono hd.size)
    have hC := (hS.stays h2).cells hE
    have hB := hA.stays rfl (hS.stays h2).old
    exact ⟨rfl, h2, hC.b0, hC.p0, hC.c4, hB.c2, hB.c4⟩
  have HSS : Hid (∀ w1, Below w.heap.size w w1 → BS X w1 H nx) := fun w1 hb => hS.stays hb
  have HCV := hide hA.code
  have HK := hide hk
  have hC := hS.cells hE
  have hB := hA.stays rfl hS.old
  have b0 := hC.b0
  have p0 := hC.p0
  have c4 := hC.c4
  have s2 := hB.c2
  have s4 := hB.c4
  obtain ⟨mi, mc, hm⟩ := hE.cls.mems.shape
  have hml := hE.cls.mems.lenI
  rw [hm] at c4 HCF
  obtain ⟨o2, p2, rfl⟩ := (unhide HCV).shape
  have hat := hA.at_
  clear hS hA hC hB hm hk hE
  generalize cfB X.k s.code = cb at *
  have HAT : Hid (∃ a, s.at_ = a) := ⟨_, rfl⟩
  by_cases h1 : s.at_ < 0
  · have e1 : decide (s.at_ < 0) = true := decide_eq_true h1
    rw [decide_eq_false (by omega), Bool.false_and]
    clear HCF h1
    go_enter Tryz.func131, Tryz.ntmps131
    go_wp2_with fail
    go_quiet ((fail))
    go_wp2
    go_ret
    exact LPost.no (below_dn _ _) (unhide HSS _ (below_dn _ _))
  have e1 : decide (s.at_ < 0) = false := decide_eq_false h1
  by_cases h2 : (X.k.mems.length : Int) ≤ s.at_
  · have e2 : decide ((X.k.mems.length : Int) ≤ s.at_) = true := decide_eq_true h2
    rw [decide_eq_false (by omega), Bool.false_and]
    clear HCF h1 h2
    go_enter Tryz.func131, Tryz.ntmps131
    go_wp2_with fail
    go_quiet ((fail))
    go_wp2
    go_ret
    exact LPost.no (below_dn _ _) (unhide HSS _ (below_dn _ _))
  have e2 : decide ((X.k.mems.length : Int) ≤ s.at_) = false := decide_eq_false h2
  rw [decide_eq_true (⟨by omega, by omega⟩ : 0 ≤ s.at_ ∧ s.at_ < (X.k.mems.length : Int)), Bool.true_and]
  clear h1 h2
  cases cb
  · go_enter Tryz.func131, Tryz.ntmps131
    go_wp2_with fail
    go_region_held3 (fun w' => w'.cell? ⟨X.bb, 0, none⟩ = some (.pointer (some ⟨X.pb, 0, none⟩)) ∧ w'.cell? ⟨X.pb, 0, none⟩ = some (.pointer (some ⟨X.cb, X.co, none⟩)) ∧ w'.cell? ⟨X.cb, X.co + 4, none⟩ = some (.slice mi X.k.mems.length mc) ∧ w'.cell? ⟨sb, so + 2, none⟩ = some (.int .i64 s.at_) ∧ w'.cell? ⟨sb, so + 4, none⟩ = some (.slice o2 s.code.length p2)) (go_keep) (first | (go_at_call 138; refine (unhide HCF).mono ?_; rintro e w2 ⟨rfl, HB2, u0, u1, u2, u3, u4⟩))
    go_wp2
    go_ret
    exact LPost.no (unhide HB2) (unhide HSS _ (unhide HB2))
  · go_enter Tryz.func131, Tryz.ntmps131
    go_wp2_with fail
    go_region_held3 (fun w' => w'.cell? ⟨X.bb, 0, none⟩ = some (.pointer (some ⟨X.pb, 0, none⟩)) ∧ w'.cell? ⟨X.pb, 0, none⟩ = some (.pointer (some ⟨X.cb, X.co, none⟩)) ∧ w'.cell? ⟨X.cb, X.co + 4, none⟩ = some (.slice mi X.k.mems.length mc) ∧ w'.cell? ⟨sb, so + 2, none⟩ = some (.int .i64 s.at_) ∧ w'.cell? ⟨sb, so + 4, none⟩ = some (.slice o2 s.code.length p2)) (go_keep) (first | (go_at_call 138; refine (unhide HCF).mono ?_; rintro e w2 ⟨rfl, HB2, u0, u1, u2, u3, u4⟩))
    go_wp2_with fail
    go_region
    go_wp2
    go_ret
    have hb := ((unhide HB2).drew).alloc (unhide HB2).size (.cells #[.int .i64 1, .int .i64 s.at_, .slice o2 s.code.length p2] 201)
    exact ⟨(fun _ => ⟨(199, w2.heap.size), rfl, ⟨(unhide HB2).size, (blk_box w2.drew _ _).lt⟩, Or.inr (Or.inl ⟨unhide HK, rfl, _, blk_box _ _ _, unhide HCV⟩)⟩), (fun h => by cases h), But.of_below hb, unhide HSS _ hb⟩

end Go.Proofs.YtmglbkndjnflkaaGreatDoor
namespace Go.Proofs.YtmglbkndjnflkaaGreatDoor
open Go.RowKit
set_option linter.unusedSimpArgs false
set_option linter.unusedVariables false

/-- Every variable was given its last value before the statement that is read now. -/
def GS (X : BD) (w : World) (nx : Nat) : Prop := ∃ gv : List Int, gv.length = (varsOf X.k).length ∧ (∀ x, x ∈ gv → 0 ≤ x ∧ x < nx) ∧ BlkAt w X.gb 3 (gv.map (Value.int .i64)).toArray
/-- Behind i outputs of the statement. -/
def gvOK (k : DClass) (outs : List ByteArray) (nx : Nat) (i : Nat) (gv : List Int) : Prop := gv.length = (varsOf k).length ∧ ∀ q (h : q < gv.length), (0 ≤ gv[q] ∧ gv[q] ≤ nx) ∧ (gv[q] = nx ↔ ∃ j, ∃ hj : j < outs.length, j < i ∧ placeI (varsOf k) outs[j] = (q : Int))
theorem gvOK.zero {k : DClass} {outs : List ByteArray} {nx : Nat} {gv : List Int} (h1 : gv.length = (varsOf k).length) (h2 : ∀ x, x ∈ gv → 0 ≤ x ∧ x < nx) : gvOK k outs nx 0 gv := by
  refine ⟨h1, fun q h => ?_⟩
  have := h2 _ (List.getElem_mem h)
  refine ⟨by omega, ?_⟩
  constructor
  · intro e; omega
  · rintro ⟨j, _, hj, _⟩; omega
theorem gvOK.next {k : DClass} {outs : List ByteArray} {nx : Nat} {i p : Nat} {gv : List Int} (h : gvOK k outs nx i gv) (hi : i < outs.length) (hp : placeI (varsOf k) outs[i] = (p : Int)) (hn : p < (varsOf k).length) : gvOK k outs nx (i + 1) (gv.set p nx) := by
  obtain ⟨h1, h2⟩ := h
  refine ⟨by rw [List.length_set]; exact h1, fun q hq => ?_⟩
  rw [List.length_set] at hq
  rw [List.getElem_set]
  obtain ⟨a, b⟩ := h2 q hq
  by_cases e : p = q
  · rw [if_pos e]
    exact ⟨by omega, fun _ => ⟨i, hi, by omega, by rw [hp, e]⟩, fun _ => rfl⟩
  · rw [if_neg e]
    refine ⟨a, b.trans ?_⟩
    constructor
    · rintro ⟨j, hj, hji, hh⟩; exact ⟨j, hj, by omega, hh⟩
    · rintro ⟨j, hj, hji, hh⟩
      refine ⟨j, hj, ?_, hh⟩
      by_cases ej : j = i
      · subst ej; rw [hp] at hh; omega
      · omega
theorem gvOK.bound {k : DClass} {outs : List ByteArray} {nx : Nat} {i : Nat} {gv : List Int} (h : gvOK k outs nx i gv) : ∀ x, x ∈ gv → 0 ≤ x ∧ x ≤ nx := fun x hx => by
  obtain ⟨q, hq, rfl⟩ := List.getElem_of_mem hx
  exact (h.2 q hq).1
theorem gvOK.dup {k : DClass} {outs : List ByteArray} {nx : Nat} {i p : Nat} {gv : List Int} (h : gvOK k outs nx i gv) (hi : i < outs.length) (hp : placeI (varsOf k) outs[i] = (p : Int)) (hq : p < gv.length) : (gv[p] == (nx : Int)) = dupB k outs i := by
  rw [Bool.eq_iff_iff, beq_iff_eq, (h.2 p hq).2]
  unfold dupB
  rw [List.getElem?_eq_getElem hi]
  simp only
  rw [List.any_eq_true]
  constructor
  · rintro ⟨j, hj, hji, e⟩
    refine ⟨j, List.mem_range.2 hji, ?_⟩
    rw [List.getElem?_eq_getElem hj]
    simp only [beq_iff_eq]
    rw [e, hp]
  · rintro ⟨j, hj, e⟩
    rw [List.mem_range] at hj
    rw [List.getElem?_eq_getElem (by omega)] at e
    simp only [beq_iff_eq] at e
    exact ⟨j, by omega, hj, by rw [e, hp]⟩
theorem gv_set (gv : List Int) (p : Nat) (v : Int) : (gv.map (Value.int .i64)).toArray.setIfInBounds p (.int .i64 v) = ((gv.set p v).map (Value.int .i64)).toArray := by
  simp [List.map_set]
theorem gv_cell {w : World} {g : Nat} {e : TypeId} {gv : List Int} (h : BlkAt w g e (gv.map (Value.int .i64)).toArray) (p : Nat) (hp : p < gv.length) : w.cell? ⟨g, p, none⟩ = some (.int .i64 gv[p]) :=
  h.cell (i := p) (v := .int .i64 gv[p]) (by simp [hp])
def rowOK (k : DClass) (outs : List ByteArray) (i : Nat) (cs : Array Value) : Prop := cs.size = outs.length ∧ ∀ j (hj : j < outs.length), j < i → cs[j]? = some (.int .i64 (placeI (varsOf k) outs[j]))
theorem rowOK.next {k : DClass} {outs : List ByteArray} {i : Nat} {cs : Array Value} (h : rowOK k outs i cs) (hi : i < outs.length) {v : Int} (hv : placeI (varsOf k) outs[i] = v) : rowOK k outs (i + 1) (cs.setIfInBounds i (.int .i64 v)) := by
  refine ⟨by rw [Array.size_setIfInBounds]; exact h.1, fun j hj hji => ?_⟩
  rw [Array.getElem?_setIfInBounds]
  by_cases e : i = j
  · subst e
    rw [if_pos rfl, if_pos (by rw [h.1]; exact hi), hv]
  · rw [if_neg e]
    exact h.2 j hj (by omega)
theorem rowOK.at {k : DClass} {outs : List ByteArray} {cs : Array Value} {w : World} {g : Nat} {e : TypeId} (h : rowOK k outs outs.length cs) (hb : BlkAt w g e cs) (hn : outs.length ≤ 1000) (hv : (varsOf k).length ≤ 1000) : SlAt 1 8 RInt 0 w (.slice (some ⟨g, 0, none⟩) outs.length outs.length) (outs.map (placeI (varsOf k))) := by
  refine ⟨some ⟨g, 0, none⟩, outs.length, by rw [List.length_map], ⟨by rw [List.length_map]; unfold Len; omega, by rw [List.length_map]; omega⟩, by rw [List.length_map]; unfold Len; omega, fun i hi => ?_⟩
  rw [List.length_map] at hi
  refine ⟨g, 0, [.int .i64 (placeI (varsOf k) outs[i])], rfl, Nat.zero_le _, hb.lt, rfl, fun j hj => ?_, ?_⟩
  · have : j = 0 := by simpa using hj
    subst this
    simp only [Nat.mul_one, Nat.add_zero, Nat.zero_add, List.getElem_cons_zero]
    exact hb.cell (h.2 i hi hi)
  · rw [List.getElem_map]
    have := place_bd (varsOf k) outs[i]
    exact ⟨rfl, by unfold I64; omega⟩
theorem BS.but {X : BD} (hE : BE X) {w w' : World} {H : List ByteArray} {nx : Nat} (h : BS X w H nx) (hb : But [X.gb] w w') {gv : List Int} (g1 : gv.length = (varsOf X.k).length) (g2 : ∀ x, x ∈ gv → 0 ≤ x ∧ x ≤ nx) (g3 : BlkAt w' X.gb 3 (gv.map (Value.int .i64)).toArray) : BS X w' H nx :=
  ⟨h.old.trans (hb.below _ h.old.size (fun q hq => by rw [List.mem_singleton] at hq; subst hq; exact hE.ng.1)), Nat.le_trans h.lo hb.size, h.nxl, hb.blk h.bl (by simpa using hE.bg), hb.blk h.hl (by simpa using hE.hg), gv, g1, g2, g3⟩
theorem GS.stays {X : BD} {w w' : World} {nx : Nat} (h : GS X w nx) (hb : Below w.heap.size w w') : GS X w' nx := by
  obtain ⟨gv, a, b, c⟩ := h
  exact ⟨gv, a, b, c.below hb c.lt⟩

theorem LPost.no' {X : BD} {H : List ByteArray} {nx : Nat} {w w' : World} {s : DStm} (hb : But [X.gb] w w') (hs : BS X w' H nx) : LPost X H nx w s false (.returned .nilIface) w' := ⟨(fun h => by cases h), (fun _ => rfl), hb, hs⟩
theorem But.setNew {S : List Nat} {a w : World} (h : But S a w) {p : Addr} (hp : a.heap.size ≤ p.block) (u : Value) : But S a (w.setCell p u) :=
  ⟨h.os, h.tape, h.output, by simpa [World.setCell] using h.size, fun k hk hn => by rw [Below.heap_setCell _ _ _ _ (by omega)]; exact h.block k hk hn⟩
theorem But.setIn {S : List Nat} {a w : World} (h : But S a w) {p : Addr} (hp : p.block ∈ S) (u : Value) : But S a (w.setCell p u) := h.trans (But.setCell w hp u)
theorem BlkAt.other {w : World} {g : Nat} {e : TypeId} {cs : Array Value} (h : BlkAt w g e cs) {p : Addr} (hp : g ≠ p.block) (u : Value) : BlkAt (w.setCell p u) g e cs := (Below.heap_setCell _ _ _ _ hp).trans h
/-- The expressions of a call. -/
theorem args_ok (X : BD) (hE : BE X) (args : List (List DItem)) (v : Value) (hv : SlAt 1 24 RItems 0 X.W0 v args) (w : World) (hb : Below X.W0.heap.size X.W0 w) :
    Calls Tryz.prog 139 #[v, .func (.func 138) #[.pointer (some ⟨X.pb, 0, none⟩)] #[]] w (Ans (.bool (args.all (cfB X.k))) w) := by
  have HQ : (List.range args.length).all (fun j => match args[j]? with | some c => cfB X.k c | none => false) = args.all (cfB X.k) := range_all _ _ _ (fun j hj => by rw [List.getElem?_eq_getElem hj])
  refine (everyCodeI X.pb (fun _ wr => Below w.heap.size w wr) (fun wr => Below w.heap.size w wr) (fun j => match args[j]? with | some c => cfB X.k c | none => false) args _ w ?_ ?_ ?_ (Below.refl _ _)).mono ?_
  · intro _ wr h
    exact hv.stays RItems_kept (hb.trans (h.mono hb.size))
  · intro _ w1 w2 h1 h2
    exact h1.trans (h2.mono h1.size)
  · intro j hj cs wr h hR
    obtain ⟨c, rfl, hc⟩ := hR
    refine (codeFits_ok X.k args[j] c X.pb X.mb X.cb X.co wr (hE.pr.stays (hb.trans (h.mono hb.size))) hc).mono ?_
    rintro e w' ⟨rfl, hb'⟩
    rw [List.getElem?_eq_getElem hj]
    have hb2 := h.trans (hb'.mono h.size)
    exact ⟨rfl, (fun _ => hb2), fun _ => hb2⟩
  · rintro e w' ⟨rfl, h1, h2⟩
    rw [HQ] at h1 h2 ⊢
    refine ⟨rfl, ?_⟩
    cases hh : args.all (cfB X.k)
    · exact h2 hh
    · exact h1 hh

theorem callI_lo (ks : List DClass) (k : DClass) (H : List ByteArray) (s : DStm) (h : s.at_ < 0 ∨ (k.insts.length : Int) ≤ s.at_) : callI ks k H s = false := by unfold callI; rw [if_pos h]
theorem callI_in (ks : List DClass) (k : DClass) (H : List ByteArray) (s : DStm) (j gi : Nat) (g : DClass) (hj : j < k.insts.length) (ha : s.at_ = (j : Int)) (hgi : k.insts[j] = (gi : Int)) (hg : ks[gi]? = some g) :
    callI ks k H s = (decide (s.outs.length = g.outs.length ∧ s.args.length = g.ins.length) && s.args.all (cfB k) && (List.range s.outs.length).all (oneB k H s.outs)) := by
  have e : (k.insts.getD s.at_.toNat 0).toNat = gi := by
    rw [ha, Int.toNat_natCast, List.getD_eq_getElem?_getD, List.getElem?_eq_getElem hj, Option.getD_some, hgi, Int.toNat_natCast]
  unfold callI
  rw [if_neg (by rw [ha]; omega), e, hg]

end Go.Proofs.YtmglbkndjnflkaaGreatDoor
