import Derived.Test.YtmglbkndjnflkaaGreatDoorMI16
namespace Go.Proofs.YtmglbkndjnflkaaGreatDoor
open Go.RowKit
set_option linter.unusedSimpArgs false
set_option linter.unusedVariables false

/-- The places of a plan, without those of a builder. -/
def bdOf (W0 : World) (ks : List DClass) (k : DClass) (pb mb cb co : Nat) (a1 a2 a3 a4 a5 a6 iv : Value) (ins : List (Nat × Nat)) (known : List Int) (bb hb gb lo : Nat) : BD := ⟨W0, ks, k, pb, mb, cb, co, a1, a2, a3, a4, a5, a6, iv, ins, known, bb, hb, gb, lo⟩
/-- What build reads: as in BE, without the builder. -/
structure PE (W0 : World) (ks : List DClass) (k : DClass) (pb mb cb co : Nat) (a1 a2 a3 a4 a5 a6 iv : Value) (ins : List (Nat × Nat)) (known : List Int) : Prop where
  cls : CA W0 cb co k a1 a2 a3 a4 a5 a6
  p0 : W0.cell? ⟨pb, 0, none⟩ = some (.pointer (some ⟨cb, co, none⟩))
  p1 : W0.cell? ⟨pb, 1, none⟩ = some (.map (some mb))
  p2 : W0.cell? ⟨pb, 2, none⟩ = some iv
  map : MapN W0 mb (varsOf k).length (namesF (varsOf k))
  inl : ins.length = k.insts.length
  insts : SlAt 2 16 RInst 0 W0 iv ins
  callee : ∀ j (h : j < ins.length) (h' : j < k.insts.length), ∃ gi g cb co b1 n1 b2 n2, k.insts[j] = ((gi : Nat) : Int) ∧ ks[gi]? = some g ∧ W0.cell? ⟨ins[j].1, 0, none⟩ = some (.pointer (some ⟨cb, co, none⟩)) ∧ W0.cell? ⟨cb, co + 1, none⟩ = some (.slice b1 g.ins.length n1) ∧ W0.cell? ⟨cb, co + 2, none⟩ = some (.slice b2 g.outs.length n2) ∧ W0.cell? ⟨ins[j].1, 5, none⟩ = some (.int .i64 (known.getD gi 0)) ∧ (0 ≤ known.getD gi 0 ∧ known.getD gi 0 ≤ 400000) ∧ g.ins.length ≤ 1000 ∧ g.outs.length ≤ 1000
  vl : (varsOf k).length ≤ 1000
theorem PE.be {W0 : World} {ks : List DClass} {k : DClass} {pb mb cb co : Nat} {a1 a2 a3 a4 a5 a6 iv : Value} {ins : List (Nat × Nat)} {known : List Int} (h : PE W0 ks k pb mb cb co a1 a2 a3 a4 a5 a6 iv ins known) (hbl : k.body.length ≤ 30000) {bb hb gb lo : Nat} (nb : W0.heap.size ≤ bb ∧ bb < lo) (nh : W0.heap.size ≤ hb ∧ hb < lo) (ng : W0.heap.size ≤ gb ∧ gb < lo) (bh : bb ≠ hb) (bg : bb ≠ gb) (hg : hb ≠ gb) : BE (bdOf W0 ks k pb mb cb co a1 a2 a3 a4 a5 a6 iv ins known bb hb gb lo) :=
  ⟨h.cls, h.p0, h.p1, h.p2, h.map, h.inl, h.insts, h.callee, h.vl, hbl, nb, nh, ng, bh, bg, hg⟩
def buildB (ks : List DClass) (k : DClass) (known : List Int) : Bool := match listF ks k (k.body.length + 1) k.body [] 0 with
  | some (t, []) => decide (t.cost (knOf k.insts known) 0 ≤ 400000)
  | _ => false
def zrow (n : Nat) : Obj := .cells (madeCells #[.int .i64 0] n) 3
theorem cnt_nil (k : DClass) (q : Nat) : cnt k [] q = 0 := rfl
theorem held_zero (k : DClass) : heldA k [] = madeCells #[.int .i64 0] (varsOf k).length := by
  apply Array.ext_getElem?
  intro i
  by_cases hi : i < (varsOf k).length
  · rw [heldA_get k [] i hi, cnt_nil]
    simp [madeCells, hi, Nat.mod_one]
  · rw [Array.getElem?_eq_none (by rw [heldA_size]; omega), Array.getElem?_eq_none (by rw [size_madeCells]; omega)]
theorem given_zero (n : Nat) : madeCells #[.int .i64 0] n = ((List.replicate n (0 : Int)).map (Value.int .i64)).toArray := by
  apply Array.ext_getElem?
  intro i
  by_cases hi : i < n
  · simp [madeCells, hi, Nat.mod_one]
  · rw [Array.getElem?_eq_none (by rw [size_madeCells]; omega), Array.getElem?_eq_none (by simp; omega)]

theorem two_sets {w w5 : World} (hb : Below w.heap.size w w5) (pb : Nat) (a b : Value) : But [pb] w ((w5.setCell ⟨pb, 4, none⟩ a).setCell ⟨pb, 5, none⟩ b) :=
  ((But.of_below hb).setIn (p := ⟨pb, 4, none⟩) (List.mem_singleton.2 rfl) a).setIn (p := ⟨pb, 5, none⟩) (List.mem_singleton.2 rfl) b
theorem start_bs {ks : List DClass} {k : DClass} {pb mb cb co : Nat} {a1 a2 a3 a4 a5 a6 iv : Value} {ins : List (Nat × Nat)} {known : List Int} {w : World} (h : PE w ks k pb mb cb co a1 a2 a3 a4 a5 a6 iv ins known) (h3 : k.body.length ≤ 30000) (hb gb : Nat) (hh : (hb = w.heap.size ∧ gb = w.heap.size + 1) ∨ (hb = w.heap.size + 1 ∧ gb = w.heap.size)) :
    BE (bdOf w ks k pb mb cb co a1 a2 a3 a4 a5 a6 iv ins known (w.heap.size + 1 + 1) hb gb (w.heap.size + 3)) ∧ BS (bdOf w ks k pb mb cb co a1 a2 a3 a4 a5 a6 iv ins known (w.heap.size + 1 + 1) hb gb (w.heap.size + 3)) (((w.alloc (zrow (varsOf k).length)).alloc (zrow (varsOf k).length)).alloc (.cells #[.pointer (some ⟨pb, 0, none⟩), .int .i64 0, .slice (some ⟨hb, 0, none⟩) (varsOf k).length (varsOf k).length, .slice (some ⟨gb, 0, none⟩) (varsOf k).length (varsOf k).length] 150)).drew [] 0 ∧ Below w.heap.size w (((w.alloc (zrow (varsOf k).length)).alloc (zrow (varsOf k).length)).alloc (.cells #[.pointer (some ⟨pb, 0, none⟩), .int .i64 0, .slice (some ⟨hb, 0, none⟩) (varsOf k).length (varsOf k).length, .slice (some ⟨gb, 0, none⟩) (varsOf k).length (varsOf k).length] 150)).drew := by
  have hE : BE (bdOf w ks k pb mb cb co a1 a2 a3 a4 a5 a6 iv ins known (w.heap.size + 1 + 1) hb gb (w.heap.size + 3)) := h.be h3 (by omega) (by omega) (by omega) (by omega) (by omega) (by omega)
  have s1 : (w.alloc (zrow (varsOf k).length)).heap.size = w.heap.size + 1 := by simp
  have s2 : ((w.alloc (zrow (varsOf k).length)).alloc (zrow (varsOf k).length)).heap.size = w.heap.size + 1 + 1 := by simp
  have k1 : BlkAt (w.alloc (zrow (varsOf k).length)) w.heap.size 3 (madeCells #[.int .i64 0] (varsOf k).length) := blk_box w _ _
  have k2 := blk_box (w.alloc (zrow (varsOf k).length)) (madeCells #[.int .i64 0] (varsOf k).length) 3
  rw [s1] at k2
  have b2 : Below (w.heap.size + 1) (w.alloc (zrow (varsOf k).length)) ((w.alloc (zrow (varsOf k).length)).alloc (zrow (varsOf k).length)) := (Below.refl _ _).alloc (by omega) _
  have k1' : BlkAt ((w.alloc (zrow (varsOf k).length)).alloc (zrow (varsOf k).length)) w.heap.size 3 (madeCells #[.int .i64 0] (varsOf k).length) := k1.below b2 (by omega)
  have hr : ∀ g, g = w.heap.size ∨ g = w.heap.size + 1 → BlkAt ((w.alloc (zrow (varsOf k).length)).alloc (zrow (varsOf k).length)) g 3 (madeCells #[.int .i64 0] (varsOf k).length) := fun g hg => by
    rcases hg with rfl | rfl
    · exact k1'
    · exact k2
  have hrb := hr hb (by omega)
  have hrg := hr gb (by omega)
  have bw : Below w.heap.size w ((w.alloc (zrow (varsOf k).length)).alloc (zrow (varsOf k).length)) := ((Below.refl _ _).alloc (Nat.le_refl _) _).alloc (by omega) _
  generalize (w.alloc (zrow (varsOf k).length)).alloc (zrow (varsOf k).length) = W at *
  have b3 : Below W.heap.size W (W.alloc (.cells #[.pointer (some ⟨pb, 0, none⟩), .int .i64 0, .slice (some ⟨hb, 0, none⟩) (varsOf k).length (varsOf k).length, .slice (some ⟨gb, 0, none⟩) (varsOf k).length (varsOf k).length] 150)).drew := ((Below.refl _ _).alloc (Nat.le_refl _) _).drew
  have k3 : BlkAt (W.alloc (.cells #[.pointer (some ⟨pb, 0, none⟩), .int .i64 0, .slice (some ⟨hb, 0, none⟩) (varsOf k).length (varsOf k).length, .slice (some ⟨gb, 0, none⟩) (varsOf k).length (varsOf k).length] 150)).drew W.heap.size 150 #[.pointer (some ⟨pb, 0, none⟩), .int .i64 0, .slice (some ⟨hb, 0, none⟩) (varsOf k).length (varsOf k).length, .slice (some ⟨gb, 0, none⟩) (varsOf k).length (varsOf k).length] := blk_box W _ _
  have bw3 := bw.trans (b3.mono bw.size)
  have hlt := k3.lt
  rw [s2] at k3 hlt
  refine ⟨hE, ⟨bw3, by show w.heap.size + 3 ≤ _; omega, Nat.zero_le _, k3, ?_, List.replicate (varsOf k).length 0, by simp [bdOf], ?_, ?_⟩, bw3⟩
  · rw [show heldA (bdOf w ks k pb mb cb co a1 a2 a3 a4 a5 a6 iv ins known (w.heap.size + 1 + 1) hb gb (w.heap.size + 3)).k [] = madeCells #[.int .i64 0] (varsOf k).length from held_zero k]
    exact hrb.below b3 hrb.lt
  · intro x hx
    have := List.eq_of_mem_replicate hx
    omega
  · rw [← given_zero]
    exact hrg.below b3 hrg.lt

def BuPost (ks : List DClass) (k : DClass) (pb mb cb co : Nat) (a1 a2 a3 a4 a5 a6 iv fv : Value) (ins : List (Nat × Nat)) (known : List Int) (room : Int) (w : World) (R : Bool) (o : Option (PL × List DStm)) (e : Ending) (w' : World) : Prop :=
  e = .returned (.bool R) ∧ But [pb] w w' ∧ (R = true → ∃ t bv nodes bb hb gb lo, o = some (t, []) ∧ BlkAt w' pb 103 #[.pointer (some ⟨cb, co, none⟩), .map (some mb), iv, fv, bv, .int .i64 (t.cost (knOf k.insts known) 0), .int .i64 room] ∧ SlAt 1 16 RIf 0 w' bv nodes ∧ NodesAt (bdOf w ks k pb mb cb co a1 a2 a3 a4 a5 a6 iv ins known bb hb gb lo) (New w.heap.size w'.heap.size) w' t nodes)
set_option maxRecDepth 20000 in
set_option maxHeartbeats 4000000 in
theorem build_ok (ks : List DClass) (k : DClass) (pb mb cb co : Nat) (a1 a2 a3 a4 a5 a6 iv fv : Value) (ins : List (Nat × Nat)) (known : List Int) (room : Int) (w : World) (h : PE w ks k pb mb cb co a1 a2 a3 a4 a5 a6 iv ins known) (hkb : ∀ x, x ∈ known → 0 ≤ x ∧ x ≤ 400001)
    (hpl : BlkAt w pb 103 #[.pointer (some ⟨cb, co, none⟩), .map (some mb), iv, fv, .slice none 0 0, .int .i64 0, .int .i64 room]) (hcp : cb ≠ pb) :
    Calls Tryz.prog 74 #[.pointer (some ⟨pb, 0, none⟩)] w (BuPost ks k pb mb cb co a1 a2 a3 a4 a5 a6 iv fv ins known room w (decide (k.body.length ≤ 30000) && buildB ks k known) (listF ks k (k.body.length + 1) k.body [] 0)) := by
  have p0 := h.p0
  have p1 := h.p1
  have lp := hpl.lt
  obtain ⟨ba, bc, hba⟩ := h.cls.body.shape
  have hbl := h.cls.body.lenI
  have c6 := h.cls.c6
  rw [hba] at c6
  have lc := h.cls.lt
  clear hba
  have hvl := h.vl
  have HP := hide h
  have HPL := hide hpl
  by_cases h3 : k.body.length ≤ 30000
  case neg =>
    have e1 : decide (30000 < (k.body.length : Int)) = true := decide_eq_true (by omega)
    rw [decide_eq_false h3, Bool.false_and]
    clear h hpl hkb HP HPL h3
    go_enter Tryz.func74, Tryz.ntmps74
    go_wp2
    go_ret
    exact ⟨rfl, But.refl _ _, fun h => by cases h⟩
  have e1 : decide (30000 < (k.body.length : Int)) = false := decide_eq_false (by omega)
  rw [decide_eq_true h3, Bool.true_and]
  have hml : ∀ ty, (Builtin.len_ #[98] ty #[.map (some mb)]).run Tryz.prog w.drew = .ok (.int .i64 ((varsOf k).length : Int)) w.drew := fun ty => MapP.len (w := w.drew) (h.map.block rfl) Tryz.underlying98 ty
  have hA : Below w.heap.size w (w.alloc (zrow (varsOf k).length)).drew := ((Below.refl _ _).alloc (Nat.le_refl _) _).drew
  have hml2 : ∀ ty, (Builtin.len_ #[98] ty #[.map (some mb)]).run Tryz.prog (w.alloc (zrow (varsOf k).length)).drew = .ok (.int .i64 ((varsOf k).length : Int)) (w.alloc (zrow (varsOf k).length)).drew := fun ty => (h.map.below hA h.map.lt).len Tryz.underlying98 ty
  have q1 : (w.alloc (zrow (varsOf k).length)).drew.cell? ⟨pb, 1, none⟩ = some (.map (some mb)) := (hA.cell (p := ⟨pb, 1, none⟩) lp).trans p1
  have hmk : ∀ w : World, (Instr.makeSlice 37 (.int .i64 ((varsOf k).length : Int)) (.int .i64 ((varsOf k).length : Int))).run Tryz.prog w = .ok (.slice (some ⟨w.heap.size, 0, none⟩) (varsOf k).length (varsOf k).length) (w.alloc (zrow (varsOf k).length)) := fun w => by
    have h9 := make_rows (P := Tryz.prog) 37 3 (.int .i64 0) 1 8 Tryz.underlying37 (by kernel_rfl) (varsOf k).length (by omega) (by omega) w
    rw [Nat.mul_one] at h9
    exact h9
  have HKK : Hid (∀ s, 0 ≤ knOf k.insts known s ∧ knOf k.insts known s ≤ 400001) := fun s => getD_bd known 400001 (by omega) hkb _
  have HKB := hide hkb
  have HST := hide (fun hb gb hh => start_bs h h3 hb gb hh)
  have HBU : Hid (buildB ks k known = match listF ks k (k.body.length + 1) k.body [] 0 with
    | some (t, []) => decide (t.cost (knOf k.insts known) 0 ≤ 400000)
    | _ => false) := rfl
  have HLO : Hid (∀ X : BD, X.ks = ks → X.k = k → X.known = known → BE X → ∀ w3, BS X w3 [] 0 → Calls Tryz.prog 98 #[.pointer (some ⟨X.bb, 0, none⟩), .int .i64 0] w3 (LsPost X [] w3 (listF ks k (k.body.length + 1) k.body [] 0))) := fun X e1 e2 e3 hE w3 hS => by
    have h9 := list_ok X hE (by rw [e3]; exact hkb) (k.body.length + 1) [] 0 0 w3 hS (by rw [e2]; omega) (by omega) (by omega) (by simp)
    rw [e1, e2] at h9
    exact h9
  clear hA h hpl HP hkb
  generalize buildB ks k known = R at *
  generalize listF ks k (k.body.length + 1) k.body [] 0 = o at *
  generalize hz : zrow (varsOf k).length = Z at *
  go_enter Tryz.func74, Tryz.ntmps74
  go_wp2_with fail
  go_region
  · obtain ⟨hE, hS, hbw⟩ := unhide HST (w.heap.size) (w.heap.size + 1) (Or.inl ⟨rfl, rfl⟩)
    have HL : Hid (Calls Tryz.prog 98 #[.pointer (some ⟨w.heap.size + 1 + 1, 0, none⟩), .int .i64 0] _ (LsPost (bdOf w ks k pb mb cb co a1 a2 a3 a4 a5 a6 iv ins known (w.heap.size + 1 + 1) (w.heap.size) (w.heap.size + 1) (w.heap.size + 3)) [] _ o)) := unhide HLO (bdOf w ks k pb mb cb co a1 a2 a3 a4 a5 a6 iv ins known (w.heap.size + 1 + 1) (w.heap.size) (w.heap.size + 1) (w.heap.size + 3)) rfl rfl rfl hE _ hS
    have HE := hide hE
    have HBW := hide hbw
    clear hE hS hbw HST hml hml2 q1 hmk
    generalize (((w.alloc Z).alloc Z).alloc (.cells #[.pointer (some ⟨pb, 0, none⟩), .int .i64 0, .slice (some ⟨w.heap.size, 0, none⟩) (varsOf k).length (varsOf k).length, .slice (some ⟨w.heap.size + 1, 0, none⟩) (varsOf k).length (varsOf k).length] 150)).drew = w3 at *
    have HPS : Hid (∀ w4, Below w.heap.size w w4 → BlkAt w4 pb 103 #[.pointer (some ⟨cb, co, none⟩), .map (some mb), iv, fv, .slice none 0 0, .int .i64 0, .int .i64 room]) := fun w4 hb => (unhide HPL).below hb lp
    have HMO : Hid (∀ t v nodes w4 P, SlAt 1 16 RIf 0 w4 v nodes → NodesAt (bdOf w ks k pb mb cb co a1 a2 a3 a4 a5 a6 iv ins known (w.heap.size + 1 + 1) (w.heap.size) (w.heap.size + 1) (w.heap.size + 3)) P w4 t nodes → Calls Tryz.prog 99 #[v] w4 (Ans (.int .i64 (t.cost (knOf k.insts known) 0)) w4)) := fun t v nodes w4 P h1 h2 => mostOf_ok (bdOf w ks k pb mb cb co a1 a2 a3 a4 a5 a6 iv ins known (w.heap.size + 1 + 1) (w.heap.size) (w.heap.size + 1) (w.heap.size + 3)) P 0 t v nodes w4 h1 h2 (unhide HKK)
    have HB3 : Hid (Below w.heap.size w w3) := unhide HBW
    clear HBW
    cases o with
    | none =>
      have e : R = false := unhide HBU
      subst e
      go_wp2_with fail
      refine (unhide HL).mono ?_
      rintro e w4 ⟨rfl, hb4⟩
      have hb4' : Below w.heap.size w w4 := hb4
      have HM := hide (unhide HMO .nil (.slice none 0 0) [] w4 (fun _ => True) ⟨none, 0, rfl, ⟨by simp [Len], Nat.le_refl _⟩, by simp [Len], fun i hi => absurd hi (Nat.not_lt_zero _)⟩ rfl)
      have HB4 := hide hb4'
      clear hb4 hb4'
      go_wp2_with fail
      refine (unhide HM).mono ?_
      rintro e w5 ⟨rfl, hb5⟩
      have hb5' : Below w.heap.size w w5 := (unhide HB4).trans (hb5.mono (unhide HB4).size)
      have hk5 := unhide HPS w5 hb5'
      have x4 := hk5.cell (i := 4) (v := .slice none 0 0) rfl
      have x5 := hk5.cell (i := 5) (v := .int .i64 0) rfl
      have z4 := hk5.free 4
      have z5 := hk5.free 5
      have HB5 := hide hb5'
      clear hb5 hb5' hk5 HPS
      simp only [PL.cost]
      go_wp2_with fail
      go_quiet ((fail))
      go_wp2
      go_ret
      exact ⟨rfl, (two_sets (unhide HB5) pb _ _).trans (But.of_below (below_dn _ _)), fun h => by cases h⟩
    | some qq =>
      obtain ⟨t, rest⟩ := qq
      go_wp2_with fail
      refine (unhide HL).mono ?_
      rintro e w4 ⟨v, nodes, rfl, ⟨hv, hvb⟩, hn, hbs, hbt, hrest⟩
      have HM := hide (unhide HMO t v nodes w4 _ hv hn)
      have HV := hide hv
      have HN := hide hn
      have hb4 : Below w.heap.size w w4 := hbs.old
      have HB4 := hide hb4
      have HBS := hide hbs
      obtain ⟨va, vc, rfl⟩ := hv.shape
      have HSZ : Hid (w3.heap.size ≤ w4.heap.size) := hbt.size
      have HVB := hide hvb
      have HRL : Hid (rest.length ≤ k.body.length) := by
        have h9 : rest.length = (k.body.drop (k.body.length - rest.length)).length := congrArg List.length hrest
        rw [List.length_drop] at h9
        refine hide ?_
        omega
      clear hv hvb hn hbs hbt hb4 hrest
      go_wp2_with fail
      refine (unhide HM).mono ?_
      rintro e w5 ⟨rfl, hb5⟩
      have hb5' : Below w.heap.size w w5 := (unhide HB4).trans (hb5.mono (unhide HB4).size)
      have hk5 := unhide HPS w5 hb5'
      have x4 := hk5.cell (i := 4) (v := .slice none 0 0) rfl
      have x5 := hk5.cell (i := 5) (v := .int .i64 0) rfl
      have z4 := hk5.free 4
      have z5 := hk5.free 5
      have HB5 := hide hb5'
      have HB45 := hide hb5
      have HK5 := hide hk5
      have hcc := cost_bd _ (unhide HKK) t 0 (by omega) (by omega)
      have hS5 := (unhide HBS).stays hb5
      have hC5 := hS5.cells (unhide HE)
      have y1 : w5.cell? ⟨w.heap.size + 1 + 1, 1, none⟩ = some (.int .i64 ((k.body.length - rest.length : Nat) : Int)) := hC5.b1
      have y6 : w5.cell? ⟨cb, co + 6, none⟩ = some (.slice ba k.body.length bc) := by rw [hb5'.cell (p := ⟨cb, _, none⟩) lc]; exact c6
      have HRT : Hid (R = true → ∃ t' bv nodes' bb hb gb lo, some (t, rest) = some (t', []) ∧ BlkAt ((w5.setCell ⟨pb, 4, none⟩ (.slice va nodes.length vc)).setCell ⟨pb, 5, none⟩ (.int .i64 (t.cost (knOf k.insts known) 0))) pb 103 #[.pointer (some ⟨cb, co, none⟩), .map (some mb), iv, fv, bv, .int .i64 (t'.cost (knOf k.insts known) 0), .int .i64 room] ∧ SlAt 1 16 RIf 0 ((w5.setCell ⟨pb, 4, none⟩ (.slice va nodes.length vc)).setCell ⟨pb, 5, none⟩ (.int .i64 (t.cost (knOf k.insts known) 0))) bv nodes' ∧ NodesAt (bdOf w ks k pb mb cb co a1 a2 a3 a4 a5 a6 iv ins known bb hb gb lo) (New w.heap.size ((w5.setCell ⟨pb, 4, none⟩ (.slice va nodes.length vc)).setCell ⟨pb, 5, none⟩ (.int .i64 (t.cost (knOf k.insts known) 0))).heap.size) ((w5.setCell ⟨pb, 4, none⟩ (.slice va nodes.length vc)).setCell ⟨pb, 5, none⟩ (.int .i64 (t.cost (knOf k.insts known) 0))) t' nodes') := fun hr => by
        have hrest : rest = [] := by
          cases rest with
          | nil => rfl
          | cons r rs => rw [hr] at HBU; have h9 : true = false := unhide HBU; cases h9
        have hk : KeptP (New w3.heap.size w4.heap.size) w4 ((w5.setCell ⟨pb, 4, none⟩ (.slice va nodes.length vc)).setCell ⟨pb, 5, none⟩ (.int .i64 (t.cost (knOf k.insts known) 0))) := (KeptP.of_below (unhide HB45)).trans ((two_sets (Below.refl _ w5) pb _ _).keptP (fun q hq h => by rw [List.mem_singleton] at hq; subst hq; have := h.1; have := (unhide HB3).size; omega))
        refine ⟨t, .slice va nodes.length vc, nodes, w.heap.size + 1 + 1, w.heap.size, w.heap.size + 1, w.heap.size + 3, by rw [hrest], ?_, (unhide HV).keptP RIf_any hk (unhide HVB), NodesAt.mono (fun b h => ⟨Nat.le_trans (unhide HB3).size h.1, Nat.lt_of_lt_of_le h.2 hk.1⟩) _ _ (NodesAt.keptP hk _ _ (unhide HN))⟩
        have h9 := ((unhide HK5).set 4 (.slice va nodes.length vc)).set 5 (.int .i64 (t.cost (knOf k.insts known) 0))
        exact h9
      have HBT : Hid (But [pb] w ((w5.setCell ⟨pb, 4, none⟩ (.slice va nodes.length vc)).setCell ⟨pb, 5, none⟩ (.int .i64 (t.cost (knOf k.insts known) 0)))) := two_sets (unhide HB5) pb _ _
      have hK6 : BlkAt ((w5.setCell ⟨pb, 4, none⟩ (.slice va nodes.length vc)).setCell ⟨pb, 5, none⟩ (.int .i64 (t.cost (knOf k.insts known) 0))) pb 103 #[.pointer (some ⟨cb, co, none⟩), .map (some mb), iv, fv, .slice va nodes.length vc, .int .i64 (t.cost (knOf k.insts known) 0), .int .i64 room] := ((unhide HK5).set 4 (.slice va nodes.length vc)).set 5 (.int .i64 (t.cost (knOf k.insts known) 0))
      have f0 := hK6.cell (i := 0) (v := .pointer (some ⟨cb, co, none⟩)) rfl
      have f5 := hK6.cell (i := 5) (v := .int .i64 (t.cost (knOf k.insts known) 0)) rfl
      have f1 : ((w5.setCell ⟨pb, 4, none⟩ (.slice va nodes.length vc)).setCell ⟨pb, 5, none⟩ (.int .i64 (t.cost (knOf k.insts known) 0))).cell? ⟨w.heap.size + 1 + 1, 1, none⟩ = some (.int .i64 ((k.body.length - rest.length : Nat) : Int)) := by
        rw [← y1]
        exact World.cell?_of_block (w := w5) (((Below.heap_setCell _ _ _ _ (by show w.heap.size + 1 + 1 ≠ pb; omega)).trans (Below.heap_setCell _ _ _ _ (by show w.heap.size + 1 + 1 ≠ pb; omega))))
      have f6 : ((w5.setCell ⟨pb, 4, none⟩ (.slice va nodes.length vc)).setCell ⟨pb, 5, none⟩ (.int .i64 (t.cost (knOf k.insts known) 0))).cell? ⟨cb, co + 6, none⟩ = some (.slice ba k.body.length bc) := by
        rw [← y6]
        exact World.cell?_of_block (w := w5) (((Below.heap_setCell _ _ _ _ (by show cb ≠ pb; exact hcp)).trans (Below.heap_setCell _ _ _ _ (by show cb ≠ pb; exact hcp))))
      clear y1 y6 hS5 hC5 hK6 hk5 hb5 hb5' HPS
      generalize hcst : t.cost (knOf k.insts known) 0 = cst at *
      have HCS := hide hcst
      clear hcst
      go_wp2_with fail
      generalize (w5.setCell ⟨pb, 4, none⟩ (.slice va nodes.length vc)).setCell ⟨pb, 5, none⟩ (.int .i64 cst) = w6 at *
      clear x4 x5 z4 z5
      cases rest with
      | nil =>
        have e7 : ((k.body.length : Int) == (k.body.length : Int)) = true := by simp
        rw [List.length_nil, Nat.sub_zero] at f1
        by_cases hc4 : cst ≤ 400000
        · have e8 : decide (cst ≤ 400000) = true := decide_eq_true hc4
          have HF : Hid (R = true) := (unhide HBU).trans (by show decide (t.cost (knOf k.insts known) 0 ≤ 400000) = true; rw [unhide HCS]; exact e8)
          go_quiet ((fail))
          go_wp2
          go_ret
          rw [unhide HF]
          refine ⟨rfl, (unhide HBT).trans (But.of_below (below_dn _ _)), fun _ => ?_⟩
          obtain ⟨t', bv, nodes', bb, hb, gb, lo, g1, g2, g3, g4⟩ := unhide HRT (unhide HF)
          exact ⟨t', bv, nodes', bb, hb, gb, lo, g1, g2, g3, NodesAt.keptP (KeptP.of_below (below_dn w6 nq)) _ _ g4⟩
        · have e8 : decide (cst ≤ 400000) = false := decide_eq_false hc4
          have HF : Hid (R = false) := (unhide HBU).trans (by show decide (t.cost (knOf k.insts known) 0 ≤ 400000) = false; rw [unhide HCS]; exact e8)
          go_quiet ((fail))
          go_wp2
          go_ret
          rw [unhide HF]
          exact ⟨rfl, (unhide HBT).trans (But.of_below (below_dn _ _)), fun h => by cases h⟩
      | cons r rs =>
        have hbs2 := (unhide HBS).nxl
        have e7 : (((k.body.length - (r :: rs).length : Nat) : Int) == (k.body.length : Int)) = false := by
          rw [beq_eq_false_iff_ne, List.length_cons]
          have := unhide HRL
          rw [List.length_cons] at this
          omega
        have e7n : ((k.body.length - (r :: rs).length) == k.body.length) = false := by
          rw [beq_eq_false_iff_ne, List.length_cons]
          have := unhide HRL
          rw [List.length_cons] at this
          omega
        have HF : Hid (R = false) := unhide HBU
        generalize k.body.length - (r :: rs).length = nn at *
        clear hbs2
        go_quiet ((fail))
        go_wp2
        go_ret
        rw [unhide HF]
        exact ⟨rfl, (unhide HBT).trans (But.of_below (below_dn _ _)), fun h => by cases h⟩
  · obtain ⟨hE, hS, hbw⟩ := unhide HST (w.heap.size + 1) (w.heap.size) (Or.inr ⟨rfl, rfl⟩)
    have HL : Hid (Calls Tryz.prog 98 #[.pointer (some ⟨w.heap.size + 1 + 1, 0, none⟩), .int .i64 0] _ (LsPost (bdOf w ks k pb mb cb co a1 a2 a3 a4 a5 a6 iv ins known (w.heap.size + 1 + 1) (w.heap.size + 1) (w.heap.size) (w.heap.size + 3)) [] _ o)) := unhide HLO (bdOf w ks k pb mb cb co a1 a2 a3 a4 a5 a6 iv ins known (w.heap.size + 1 + 1) (w.heap.size + 1) (w.heap.size) (w.heap.size + 3)) rfl rfl rfl hE _ hS
    have HE := hide hE
    have HBW := hide hbw
    clear hE hS hbw HST hml hml2 q1 hmk
    generalize (((w.alloc Z).alloc Z).alloc (.cells #[.pointer (some ⟨pb, 0, none⟩), .int .i64 0, .slice (some ⟨w.heap.size + 1, 0, none⟩) (varsOf k).length (varsOf k).length, .slice (some ⟨w.heap.size, 0, none⟩) (varsOf k).length (varsOf k).length] 150)).drew = w3 at *
    have HPS : Hid (∀ w4, Below w.heap.size w w4 → BlkAt w4 pb 103 #[.pointer (some ⟨cb, co, none⟩), .map (some mb), iv, fv, .slice none 0 0, .int .i64 0, .int .i64 room]) := fun w4 hb => (unhide HPL).below hb lp
    have HMO : Hid (∀ t v nodes w4 P, SlAt 1 16 RIf 0 w4 v nodes → NodesAt (bdOf w ks k pb mb cb co a1 a2 a3 a4 a5 a6 iv ins known (w.heap.size + 1 + 1) (w.heap.size + 1) (w.heap.size) (w.heap.size + 3)) P w4 t nodes → Calls Tryz.prog 99 #[v] w4 (Ans (.int .i64 (t.cost (knOf k.insts known) 0)) w4)) := fun t v nodes w4 P h1 h2 => mostOf_ok (bdOf w ks k pb mb cb co a1 a2 a3 a4 a5 a6 iv ins known (w.heap.size + 1 + 1) (w.heap.size + 1) (w.heap.size) (w.heap.size + 3)) P 0 t v nodes w4 h1 h2 (unhide HKK)
    have HB3 : Hid (Below w.heap.size w w3) := unhide HBW
    clear HBW
    cases o with
    | none =>
      have e : R = false := unhide HBU
      subst e
      go_wp2_with fail
      refine (unhide HL).mono ?_
      rintro e w4 ⟨rfl, hb4⟩
      have hb4' : Below w.heap.size w w4 := hb4
      have HM := hide (unhide HMO .nil (.slice none 0 0) [] w4 (fun _ => True) ⟨none, 0, rfl, ⟨by simp [Len], Nat.le_refl _⟩, by simp [Len], fun i hi => absurd hi (Nat.not_lt_zero _)⟩ rfl)
      have HB4 := hide hb4'
      clear hb4 hb4'
      go_wp2_with fail
      refine (unhide HM).mono ?_
      rintro e w5 ⟨rfl, hb5⟩
      have hb5' : Below w.heap.size w w5 := (unhide HB4).trans (hb5.mono (unhide HB4).size)
      have hk5 := unhide HPS w5 hb5'
      have x4 := hk5.cell (i := 4) (v := .slice none 0 0) rfl
      have x5 := hk5.cell (i := 5) (v := .int .i64 0) rfl
      have z4 := hk5.free 4
      have z5 := hk5.free 5
      have HB5 := hide hb5'
      clear hb5 hb5' hk5 HPS
      simp only [PL.cost]
      go_wp2_with fail
      go_quiet ((fail))
      go_wp2
      go_ret
      exact ⟨rfl, (two_sets (unhide HB5) pb _ _).trans (But.of_below (below_dn _ _)), fun h => by cases h⟩
    | some qq =>
      obtain ⟨t, rest⟩ := qq
      go_wp2_with fail
      refine (unhide HL).mono ?_
      rintro e w4 ⟨v, nodes, rfl, ⟨hv, hvb⟩, hn, hbs, hbt, hrest⟩
      have HM := hide (unhide HMO t v nodes w4 _ hv hn)
      have HV := hide hv
      have HN := hide hn
      have hb4 : Below w.heap.size w w4 := hbs.old
      have HB4 := hide hb4
      have HBS := hide hbs
      obtain ⟨va, vc, rfl⟩ := hv.shape
      have HSZ : Hid (w3.heap.size ≤ w4.heap.size) := hbt.size
      have HVB := hide hvb
      have HRL : Hid (rest.length ≤ k.body.length) := by
        have h9 : rest.length = (k.body.drop (k.body.length - rest.length)).length := congrArg List.length hrest
        rw [List.length_drop] at h9
        refine hide ?_
        omega
      clear hv hvb hn hbs hbt hb4 hrest
      go_wp2_with fail
      refine (unhide HM).mono ?_
      rintro e w5 ⟨rfl, hb5⟩
      have hb5' : Below w.heap.size w w5 := (unhide HB4).trans (hb5.mono (unhide HB4).size)
      have hk5 := unhide HPS w5 hb5'
      have x4 := hk5.cell (i := 4) (v := .slice none 0 0) rfl
      have x5 := hk5.cell (i := 5) (v := .int .i64 0) rfl
      have z4 := hk5.free 4
      have z5 := hk5.free 5
      have HB5 := hide hb5'
      have HB45 := hide hb5
      have HK5 := hide hk5
      have hcc := cost_bd _ (unhide HKK) t 0 (by omega) (by omega)
      have hS5 := (unhide HBS).stays hb5
      have hC5 := hS5.cells (unhide HE)
      have y1 : w5.cell? ⟨w.heap.size + 1 + 1, 1, none⟩ = some (.int .i64 ((k.body.length - rest.length : Nat) : Int)) := hC5.b1
      have y6 : w5.cell? ⟨cb, co + 6, none⟩ = some (.slice ba k.body.length bc) := by rw [hb5'.cell (p := ⟨cb, _, none⟩) lc]; exact c6
      have HRT : Hid (R = true → ∃ t' bv nodes' bb hb gb lo, some (t, rest) = some (t', []) ∧ BlkAt ((w5.setCell ⟨pb, 4, none⟩ (.slice va nodes.length vc)).setCell ⟨pb, 5, none⟩ (.int .i64 (t.cost (knOf k.insts known) 0))) pb 103 #[.pointer (some ⟨cb, co, none⟩), .map (some mb), iv, fv, bv, .int .i64 (t'.cost (knOf k.insts known) 0), .int .i64 room] ∧ SlAt 1 16 RIf 0 ((w5.setCell ⟨pb, 4, none⟩ (.slice va nodes.length vc)).setCell ⟨pb, 5, none⟩ (.int .i64 (t.cost (knOf k.insts known) 0))) bv nodes' ∧ NodesAt (bdOf w ks k pb mb cb co a1 a2 a3 a4 a5 a6 iv ins known bb hb gb lo) (New w.heap.size ((w5.setCell ⟨pb, 4, none⟩ (.slice va nodes.length vc)).setCell ⟨pb, 5, none⟩ (.int .i64 (t.cost (knOf k.insts known) 0))).heap.size) ((w5.setCell ⟨pb, 4, none⟩ (.slice va nodes.length vc)).setCell ⟨pb, 5, none⟩ (.int .i64 (t.cost (knOf k.insts known) 0))) t' nodes') := fun hr => by
        have hrest : rest = [] := by
          cases rest with
          | nil => rfl
          | cons r rs => rw [hr] at HBU; have h9 : true = false := unhide HBU; cases h9
        have hk : KeptP (New w3.heap.size w4.heap.size) w4 ((w5.setCell ⟨pb, 4, none⟩ (.slice va nodes.length vc)).setCell ⟨pb, 5, none⟩ (.int .i64 (t.cost (knOf k.insts known) 0))) := (KeptP.of_below (unhide HB45)).trans ((two_sets (Below.refl _ w5) pb _ _).keptP (fun q hq h => by rw [List.mem_singleton] at hq; subst hq; have := h.1; have := (unhide HB3).size; omega))
        refine ⟨t, .slice va nodes.length vc, nodes, w.heap.size + 1 + 1, w.heap.size + 1, w.heap.size, w.heap.size + 3, by rw [hrest], ?_, (unhide HV).keptP RIf_any hk (unhide HVB), NodesAt.mono (fun b h => ⟨Nat.le_trans (unhide HB3).size h.1, Nat.lt_of_lt_of_le h.2 hk.1⟩) _ _ (NodesAt.keptP hk _ _ (unhide HN))⟩
        have h9 := ((unhide HK5).set 4 (.slice va nodes.length vc)).set 5 (.int .i64 (t.cost (knOf k.insts known) 0))
        exact h9
      have HBT : Hid (But [pb] w ((w5.setCell ⟨pb, 4, none⟩ (.slice va nodes.length vc)).setCell ⟨pb, 5, none⟩ (.int .i64 (t.cost (knOf k.insts known) 0)))) := two_sets (unhide HB5) pb _ _
      have hK6 : BlkAt ((w5.setCell ⟨pb, 4, none⟩ (.slice va nodes.length vc)).setCell ⟨pb, 5, none⟩ (.int .i64 (t.cost (knOf k.insts known) 0))) pb 103 #[.pointer (some ⟨cb, co, none⟩), .map (some mb), iv, fv, .slice va nodes.length vc, .int .i64 (t.cost (knOf k.insts known) 0), .int .i64 room] := ((unhide HK5).set 4 (.slice va nodes.length vc)).set 5 (.int .i64 (t.cost (knOf k.insts known) 0))
      have f0 := hK6.cell (i := 0) (v := .pointer (some ⟨cb, co, none⟩)) rfl
      have f5 := hK6.cell (i := 5) (v := .int .i64 (t.cost (knOf k.insts known) 0)) rfl
      have f1 : ((w5.setCell ⟨pb, 4, none⟩ (.slice va nodes.length vc)).setCell ⟨pb, 5, none⟩ (.int .i64 (t.cost (knOf k.insts known) 0))).cell? ⟨w.heap.size + 1 + 1, 1, none⟩ = some (.int .i64 ((k.body.length - rest.length : Nat) : Int)) := by
        rw [← y1]
        exact World.cell?_of_block (w := w5) (((Below.heap_setCell _ _ _ _ (by show w.heap.size + 1 + 1 ≠ pb; omega)).trans (Below.heap_setCell _ _ _ _ (by show w.heap.size + 1 + 1 ≠ pb; omega))))
      have f6 : ((w5.setCell ⟨pb, 4, none⟩ (.slice va nodes.length vc)).setCell ⟨pb, 5, none⟩ (.int .i64 (t.cost (knOf k.insts known) 0))).cell? ⟨cb, co + 6, none⟩ = some (.slice ba k.body.length bc) := by
        rw [← y6]
        exact World.cell?_of_block (w := w5) (((Below.heap_setCell _ _ _ _ (by show cb ≠ pb; exact hcp)).trans (Below.heap_setCell _ _ _ _ (by show cb ≠ pb; exact hcp))))
      clear y1 y6 hS5 hC5 hK6 hk5 hb5 hb5' HPS
      generalize hcst : t.cost (knOf k.insts known) 0 = cst at *
      have HCS := hide hcst
      clear hcst
      go_wp2_with fail
      generalize (w5.setCell ⟨pb, 4, none⟩ (.slice va nodes.length vc)).setCell ⟨pb, 5, none⟩ (.int .i64 cst) = w6 at *
      clear x4 x5 z4 z5
      cases rest with
      | nil =>
        have e7 : ((k.body.length : Int) == (k.body.length : Int)) = true := by simp
        rw [List.length_nil, Nat.sub_zero] at f1
        by_cases hc4 : cst ≤ 400000
        · have e8 : decide (cst ≤ 400000) = true := decide_eq_true hc4
          have HF : Hid (R = true) := (unhide HBU).trans (by show decide (t.cost (knOf k.insts known) 0 ≤ 400000) = true; rw [unhide HCS]; exact e8)
          go_quiet ((fail))
          go_wp2
          go_ret
          rw [unhide HF]
          refine ⟨rfl, (unhide HBT).trans (But.of_below (below_dn _ _)), fun _ => ?_⟩
          obtain ⟨t', bv, nodes', bb, hb, gb, lo, g1, g2, g3, g4⟩ := unhide HRT (unhide HF)
          exact ⟨t', bv, nodes', bb, hb, gb, lo, g1, g2, g3, NodesAt.keptP (KeptP.of_below (below_dn w6 nq)) _ _ g4⟩
        · have e8 : decide (cst ≤ 400000) = false := decide_eq_false hc4
          have HF : Hid (R = false) := (unhide HBU).trans (by show decide (t.cost (knOf k.insts known) 0 ≤ 400000) = false; rw [unhide HCS]; exact e8)
          go_quiet ((fail))
          go_wp2
          go_ret
          rw [unhide HF]
          exact ⟨rfl, (unhide HBT).trans (But.of_below (below_dn _ _)), fun h => by cases h⟩
      | cons r rs =>
        have hbs2 := (unhide HBS).nxl
        have e7 : (((k.body.length - (r :: rs).length : Nat) : Int) == (k.body.length : Int)) = false := by
          rw [beq_eq_false_iff_ne, List.length_cons]
          have := unhide HRL
          rw [List.length_cons] at this
          omega
        have e7n : ((k.body.length - (r :: rs).length) == k.body.length) = false := by
          rw [beq_eq_false_iff_ne, List.length_cons]
          have := unhide HRL
          rw [List.length_cons] at this
          omega
        have HF : Hid (R = false) := unhide HBU
        generalize k.body.length - (r :: rs).length = nn at *
        clear hbs2
        go_quiet ((fail))
        go_wp2
        go_ret
        rw [unhide HF]
        exact ⟨rfl, (unhide HBT).trans (But.of_below (below_dn _ _)), fun h => by cases h⟩

end Go.Proofs.YtmglbkndjnflkaaGreatDoor
