import Derived.Test.YtmglbkndjnflkaaGreatDoorMQ2
import Derived.Deep.RegionHeld3
import Derived.Deep.RegionWith
namespace Go.Proofs.YtmglbkndjnflkaaGreatDoor
open Go.RowKit
set_option linter.unusedSimpArgs false
set_option linter.unusedVariables false

def qIt (k : DClass) (xs : List DItem) (j : Nat) : Bool := match xs[j]? with | some t => itFB k t | none => false
theorem range_all {α : Type} (p : α → Bool) (q : Nat → Bool) (xs : List α) (h : ∀ j (hj : j < xs.length), q j = p xs[j]) : (List.range xs.length).all q = xs.all p := by
  rw [Bool.eq_iff_iff, List.all_eq_true, List.all_eq_true]
  constructor
  · intro g x hx
    obtain ⟨j, hj, rfl⟩ := List.getElem_of_mem hx
    rw [← h j hj]
    exact g j (List.mem_range.2 hj)
  · intro g j hj
    rw [h j (List.mem_range.1 hj)]
    exact g _ (List.getElem_mem _)

set_option maxHeartbeats 1000000 in
theorem codeFits_ok (k : DClass) (xs : List DItem) (v : Value) (pb mb cb co : Nat) (w : World) (h : PR w pb mb cb co k) (hv : SlAt 3 32 RItem 0 w v xs) :
    Calls Tryz.prog 138 #[.pointer (some ⟨pb, 0, none⟩), v] w (Ans (.bool (cfB k xs)) w) := by
  obtain ⟨b0, c0, rfl⟩ := hv.shape
  have hlen := hv.lenI
  have HQ : Hid ((List.range xs.length).all (qIt k xs) = xs.all (itFB k)) := range_all _ _ _ (fun j hj => by unfold qIt; rw [List.getElem?_eq_getElem hj])
  have HE : Hid (Calls Tryz.prog 141 #[.slice b0 xs.length c0, .func (.func 142) #[.pointer (some ⟨pb, 0, none⟩)] #[]] w fun e w' => e = .returned (.bool (xs.all (itFB k))) ∧ Below w.heap.size w w') := by
    refine (everyItemI pb (fun _ wr => Below w.heap.size w wr) (fun wr => Below w.heap.size w wr) (qIt k xs) xs _ w ?_ ?_ ?_ (Below.refl _ _)).mono ?_
    · intro _ wr hb
      exact hv.stays RItem_kept hb
    · intro _ w1 w2 h1 h2
      exact h1.trans (h2.mono h1.size)
    · intro j hj cs wr hb hR
      obtain ⟨rfl, hs, _, _⟩ := hR
      refine (itemFits_ok k xs[j] pb mb cb co wr (h.stays hb) hs).mono ?_
      rintro e w' ⟨rfl, hb'⟩
      have e1 : qIt k xs j = itFB k xs[j] := by unfold qIt; rw [List.getElem?_eq_getElem hj]
      rw [e1]
      have hb2 := hb.trans (hb'.mono hb.size)
      exact ⟨rfl, (fun _ => hb2), fun _ => hb2⟩
    · rintro e w' ⟨rfl, h1, h2⟩
      rw [unhide HQ] at h1 h2 ⊢
      refine ⟨rfl, ?_⟩
      cases hh : xs.all (itFB k)
      · exact h2 hh
      · exact h1 hh
  have HV := hide hv
  have HC : Hid (cfB k xs = (decide (xs.length ≤ 6000) && xs.all (itFB k) && wk xs 0)) := rfl
  clear hv h HQ
  have HWK : Hid (∀ w1, Below w.heap.size w w1 → Calls Tryz.prog 143 #[.slice b0 xs.length c0] w1 (Ans (.bool (wk xs 0)) w1)) := fun w1 hb => worksOut_ok xs _ w1 ((unhide HV).stays RItem_kept hb)
  clear HV
  generalize cfB k xs = R at *
  generalize xs.all (itFB k) = ab at *
  generalize wk xs 0 = kb at *
  by_cases h1 : xs.length ≤ 6000
  case neg =>
    have e1 : decide ((xs.length : Int) ≤ 6000) = false := decide_eq_false (by omega)
    have HF : Hid (R = false) := (unhide HC).trans (by rw [decide_eq_false h1]; rfl)
    clear HC h1
    go_enter Tryz.func138, Tryz.ntmps138
    go_wp2
    go_ret
    exact ⟨ret_bl2x (unhide HF).symm, Below.refl _ _⟩
  have e1 : decide ((xs.length : Int) ≤ 6000) = true := decide_eq_true (by omega)
  have HC2 : Hid (R = (ab && kb)) := (unhide HC).trans (by rw [decide_eq_true h1, Bool.true_and])
  clear HC
  cases ab
  · have HF : Hid (R = false) := (unhide HC2).trans (Bool.false_and _)
    clear HC2
    go_enter Tryz.func138, Tryz.ntmps138
    go_wp2_with fail
    refine (unhide HE).mono ?_
    rintro e w1 ⟨rfl, hb1⟩
    have HB1 := hide hb1
    clear hb1
    go_wp2
    go_ret
    exact ⟨ret_bl2x (unhide HF).symm, unhide HB1⟩
  · have HF : Hid (R = kb) := (unhide HC2).trans (Bool.true_and _)
    clear HC2
    go_enter Tryz.func138, Tryz.ntmps138
    go_wp2_with fail
    refine (unhide HE).mono ?_
    rintro e w1 ⟨rfl, hb1⟩
    have HB1 := hide hb1
    clear hb1
    go_wp2_with fail
    refine (unhide HWK w1 (unhide HB1)).mono ?_
    rintro e w2 ⟨rfl, hb2⟩
    have HB2 := hide ((unhide HB1).trans (hb2.mono (unhide HB1).size))
    clear hb2
    go_wp2
    go_ret
    exact ⟨ret_bl2x (unhide HF).symm, unhide HB2⟩

/-! ### A builder at work -/
def RInst (_ : Nat) (_ : World) (cs : List Value) (x : Nat × Nat) : Prop := cs = [.pointer (some ⟨x.1, 0, none⟩), .int .i64 x.2]
theorem RInst_kept : KeptBy RInst := fun _ _ _ _ _ _ h => h
/-- The places of a builder and its plan. -/
structure BD where
  W0 : World
  ks : List DClass
  k : DClass
  pb : Nat
  mb : Nat
  cb : Nat
  co : Nat
  a1 : Value
  a2 : Value
  a3 : Value
  a4 : Value
  a5 : Value
  a6 : Value
  iv : Value
  ins : List (Nat × Nat)
  known : List Int
  bb : Nat
  hb : Nat
  gb : Nat
  lo : Nat
/-- What is known of them in the elder world. -/
structure BE (X : BD) : Prop where
  cls : CA X.W0 X.cb X.co X.k X.a1 X.a2 X.a3 X.a4 X.a5 X.a6
  p0 : X.W0.cell? ⟨X.pb, 0, none⟩ = some (.pointer (some ⟨X.cb, X.co, none⟩))
  p1 : X.W0.cell? ⟨X.pb, 1, none⟩ = some (.map (some X.mb))
  p2 : X.W0.cell? ⟨X.pb, 2, none⟩ = some X.iv
  map : MapN X.W0 X.mb (varsOf X.k).length (namesF (varsOf X.k))
  inl : X.ins.length = X.k.insts.length
  insts : SlAt 2 16 RInst 0 X.W0 X.iv X.ins
  callee : ∀ j (h : j < X.ins.length) (h' : j < X.k.insts.length), ∃ gi g cb co b1 n1 b2 n2, X.k.insts[j] = ((gi : Nat) : Int) ∧ X.ks[gi]? = some g ∧ X.W0.cell? ⟨X.ins[j].1, 0, none⟩ = some (.pointer (some ⟨cb, co, none⟩)) ∧ X.W0.cell? ⟨cb, co + 1, none⟩ = some (.slice b1 g.ins.length n1) ∧ X.W0.cell? ⟨cb, co + 2, none⟩ = some (.slice b2 g.outs.length n2) ∧ X.W0.cell? ⟨X.ins[j].1, 5, none⟩ = some (.int .i64 (X.known.getD gi 0)) ∧ (0 ≤ X.known.getD gi 0 ∧ X.known.getD gi 0 ≤ 400000) ∧ g.ins.length ≤ 1000 ∧ g.outs.length ≤ 1000
  vl : (varsOf X.k).length ≤ 1000
  bl : X.k.body.length ≤ 30000
  nb : X.W0.heap.size ≤ X.bb ∧ X.bb < X.lo
  nh : X.W0.heap.size ≤ X.hb ∧ X.hb < X.lo
  ng : X.W0.heap.size ≤ X.gb ∧ X.gb < X.lo
  bh : X.bb ≠ X.hb
  bg : X.bb ≠ X.gb
  hg : X.hb ≠ X.gb
def heldA (k : DClass) (H : List ByteArray) : Array Value := ((List.range (varsOf k).length).map (fun q => Value.int .i64 (cnt k H q))).toArray
def bCells (X : BD) (nx : Nat) : Array Value := #[.pointer (some ⟨X.pb, 0, none⟩), .int .i64 nx, .slice (some ⟨X.hb, 0, none⟩) (varsOf X.k).length (varsOf X.k).length, .slice (some ⟨X.gb, 0, none⟩) (varsOf X.k).length (varsOf X.k).length]
structure BS (X : BD) (w : World) (H : List ByteArray) (nx : Nat) : Prop where
  old : Below X.W0.heap.size X.W0 w
  lo : X.lo ≤ w.heap.size
  nxl : nx ≤ X.k.body.length
  bl : BlkAt w X.bb 150 (bCells X nx)
  hl : BlkAt w X.hb 3 (heldA X.k H)
  gl : ∃ gv : List Int, gv.length = (varsOf X.k).length ∧ (∀ x, x ∈ gv → 0 ≤ x ∧ x ≤ nx) ∧ BlkAt w X.gb 3 (gv.map (Value.int .i64)).toArray
theorem BS.stays {X : BD} {w w' : World} {H : List ByteArray} {nx : Nat} (h : BS X w H nx) (hb : Below w.heap.size w w') : BS X w' H nx := by
  obtain ⟨gv, g1, g2, g3⟩ := h.gl
  exact ⟨h.old.trans (hb.mono h.old.size), Nat.le_trans h.lo hb.size, h.nxl, h.bl.below hb h.bl.lt, h.hl.below hb h.hl.lt, gv, g1, g2, g3.below hb g3.lt⟩
theorem BE.pr {X : BD} (hE : BE X) : PR X.W0 X.pb X.mb X.cb X.co X.k := by
  obtain ⟨b, c, hh⟩ := hE.cls.mems.shape
  exact ⟨hE.p0, hE.p1, ⟨b, c, by rw [hE.cls.c4, hh]⟩, hE.cls.mems.lenI, hE.map⟩
/-- What the statements of a body read. -/
structure BC (X : BD) (w : World) (nx : Nat) : Prop where
  b0 : w.cell? ⟨X.bb, 0, none⟩ = some (.pointer (some ⟨X.pb, 0, none⟩))
  b1 : w.cell? ⟨X.bb, 1, none⟩ = some (.int .i64 nx)
  b2 : w.cell? ⟨X.bb, 2, none⟩ = some (.slice (some ⟨X.hb, 0, none⟩) (varsOf X.k).length (varsOf X.k).length)
  b3 : w.cell? ⟨X.bb, 3, none⟩ = some (.slice (some ⟨X.gb, 0, none⟩) (varsOf X.k).length (varsOf X.k).length)
  p0 : w.cell? ⟨X.pb, 0, none⟩ = some (.pointer (some ⟨X.cb, X.co, none⟩))
  p1 : w.cell? ⟨X.pb, 1, none⟩ = some (.map (some X.mb))
  p2 : w.cell? ⟨X.pb, 2, none⟩ = some X.iv
  c1 : w.cell? ⟨X.cb, X.co + 1, none⟩ = some X.a1
  c4 : w.cell? ⟨X.cb, X.co + 4, none⟩ = some X.a4
  c6 : w.cell? ⟨X.cb, X.co + 6, none⟩ = some X.a6
theorem BS.cells {X : BD} (hE : BE X) {w : World} {H : List ByteArray} {nx : Nat} (h : BS X w H nx) : BC X w nx :=
  have hp := World.block_lt_of_cell? X.W0 _ hE.p0
  ⟨h.bl.cell (i := 0) rfl, h.bl.cell (i := 1) rfl, h.bl.cell (i := 2) rfl, h.bl.cell (i := 3) rfl, (h.old.cell (p := ⟨X.pb, 0, none⟩) hp).trans hE.p0, (h.old.cell (p := ⟨X.pb, 1, none⟩) hp).trans hE.p1, (h.old.cell (p := ⟨X.pb, 2, none⟩) hp).trans hE.p2, (h.old.cell (p := ⟨X.cb, X.co + 1, none⟩) hE.cls.lt).trans hE.cls.c1, (h.old.cell (p := ⟨X.cb, X.co + 4, none⟩) hE.cls.lt).trans hE.cls.c4, (h.old.cell (p := ⟨X.cb, X.co + 6, none⟩) hE.cls.lt).trans hE.cls.c6⟩
theorem BS.held {X : BD} {w : World} {H : List ByteArray} {nx : Nat} (h : BS X w H nx) (q : Nat) (hq : q < (varsOf X.k).length) : w.cell? ⟨X.hb, q, none⟩ = some (.int .i64 (cnt X.k H q)) :=
  h.hl.cell (i := q) (v := .int .i64 (cnt X.k H q)) (by unfold heldA; simp [hq])

def tgI (k : DClass) (x : ByteArray) : Int := if 0 ≤ placeI (varsOf k) x then placeI (varsOf k) x else 0
theorem ret_tg {a b : Int} {p q : Bool} (h : a = b) (g : p = q) : Ending.returned (.tuple #[.int .i64 a, .bool p]) = .returned (.tuple #[.int .i64 b, .bool q]) := by rw [h, g]

set_option maxHeartbeats 1000000 in
theorem target_ok (X : BD) (hE : BE X) (H : List ByteArray) (nx : Nat) (w : World) (hS : BS X w H nx) (x : ByteArray) (hx : Len x.size) :
    Calls Tryz.prog 137 #[.pointer (some ⟨X.bb, 0, none⟩), .string x] w fun e w' => e = .returned (.tuple #[.int .i64 (tgI X.k x), .bool (tgB X.k H x)]) ∧ Below w.heap.size w w' := by
  have hx' : x.size ≤ maxLen := by unfold Len at hx; unfold maxLen; omega
  have hC := hS.cells hE
  obtain ⟨b0, b1, b2, b3, p0, p1, p2, c1, c4, c6⟩ := hC
  clear b1 b3 p2 c4 c6
  obtain ⟨i1, n1, h1⟩ := hE.cls.ins.shape
  rw [h1] at c1
  have hil := hE.cls.ins.lenI
  have hvl := hE.vl
  have hM : MapN w X.mb (varsOf X.k).length (namesF (varsOf X.k)) := hE.map.below hS.old hE.map.lt
  have HHD := hide (fun q hq => hS.held q hq)
  clear hE hS h1
  have hbd := place_bd (varsOf X.k) x
  by_cases hp : 0 ≤ placeI (varsOf X.k) x
  case neg =>
    have hlk := hM.miss Tryz.underlying9 Tryz.underlying98 (zeroInt w) hx' (namesF_miss _ _ (by omega))
    have HT : Hid (tgI X.k x = 0) := if_neg hp
    have HB : Hid (tgB X.k H x = false) := by
      refine hide ?_
      unfold tgB setB
      rw [decide_eq_false (by omega), Bool.false_and]
    generalize tgI X.k x = ti at *
    generalize tgB X.k H x = tb at *
    clear hM hp hbd HHD
    go_enter Tryz.func137, Tryz.ntmps137
    go_wp2_with fail
    go_quiet ((fail))
    go_wp2
    go_ret2
    exact ⟨ret_tg (unhide HT).symm (unhide HB).symm, below_dn _ _⟩
  have hlk := hM.hit Tryz.underlying9 Tryz.underlying98 (zeroInt w) hx' (namesF_hit _ _ hp)
  have HT : Hid (tgI X.k x = placeI (varsOf X.k) x) := if_pos hp
  have HB : Hid (tgB X.k H x = (decide ((X.k.ins.length : Int) ≤ placeI (varsOf X.k) x) && decide (cnt X.k H (placeI (varsOf X.k) x).toNat = 0))) := rfl
  generalize tgI X.k x = ti at *
  generalize tgB X.k H x = tb at *
  obtain ⟨q, hq⟩ := Int.eq_ofNat_of_zero_le hp
  rw [hq] at HT HB hlk hbd
  clear hq hp hM
  have hqn : q < (varsOf X.k).length := by omega
  have h0 := unhide HHD q hqn
  rw [Int.toNat_natCast] at HB
  generalize cnt X.k H q = cq at *
  generalize (varsOf X.k).length = vn at *
  clear HHD
  by_cases h2 : X.k.ins.length ≤ q
  case neg =>
    have e2 : decide ((X.k.ins.length : Int) ≤ (q : Int)) = false := decide_eq_false (by omega)
    have e2n : decide (X.k.ins.length ≤ q) = false := decide_eq_false h2
    have HF : Hid (tb = false) := (unhide HB).trans (by rw [e2]; rfl)
    clear HB h2
    go_enter Tryz.func137, Tryz.ntmps137
    go_wp2_with fail
    go_quiet ((fail))
    go_wp2
    go_ret2
    exact ⟨ret_tg (unhide HT).symm (unhide HF).symm, below_dn _ _⟩
  have e2 : decide ((X.k.ins.length : Int) ≤ (q : Int)) = true := decide_eq_true (by omega)
  have e2n : decide (X.k.ins.length ≤ q) = true := decide_eq_true h2
  have HB2 : Hid (tb = decide (cq = 0)) := (unhide HB).trans (by rw [e2]; rfl)
  clear HB h2
  by_cases h3 : cq = 0
  · have e3 : ((cq : Int) == 0) = true := by rw [beq_iff_eq]; omega
    have HF : Hid (tb = true) := (unhide HB2).trans (decide_eq_true h3)
    clear HB2 h3
    go_enter Tryz.func137, Tryz.ntmps137
    go_wp2_with fail
    go_quiet ((fail))
    go_wp2
    go_ret2
    exact ⟨ret_tg (unhide HT).symm (unhide HF).symm, below_dn _ _⟩
  · have e3 : ((cq : Int) == 0) = false := by rw [beq_eq_false_iff_ne]; omega
    have HF : Hid (tb = false) := (unhide HB2).trans (decide_eq_false h3)
    clear HB2 h3
    go_enter Tryz.func137, Tryz.ntmps137
    go_wp2_with fail
    go_quiet ((fail))
    go_wp2
    go_ret2
    exact ⟨ret_tg (unhide HT).symm (unhide HF).symm, below_dn _ _⟩

end Go.Proofs.YtmglbkndjnflkaaGreatDoor
namespace Go.Proofs.YtmglbkndjnflkaaGreatDoor
open Go.RowKit
set_option linter.unusedSimpArgs false
set_option linter.unusedVariables false

/-- A statement in memory. -/
structure SA (w : World) (sb so : Nat) (s : DStm) (ov cv av : Value) : Prop where
  lt : sb < w.heap.size
  c0 : w.cell? ⟨sb, so, none⟩ = some (.int .i64 s.kind)
  c1 : w.cell? ⟨sb, so + 1, none⟩ = some (.string s.name)
  c2 : w.cell? ⟨sb, so + 2, none⟩ = some (.int .i64 s.at_)
  c3 : w.cell? ⟨sb, so + 3, none⟩ = some ov
  c4 : w.cell? ⟨sb, so + 4, none⟩ = some cv
  c5 : w.cell? ⟨sb, so + 5, none⟩ = some av
  name : Len s.name.size
  kd : I64 s.kind
  at_ : I64 s.at_
  outs : SlAt 1 16 RStr 0 w ov s.outs
  code : SlAt 3 32 RItem 0 w cv s.code
  args : SlAt 1 24 RItems 0 w av s.args
theorem SA.stays {w w' : World} {sb so : Nat} {s : DStm} {ov cv av : Value} (h : SA w sb so s ov cv av) {B : Nat} (hB : B = w.heap.size) (hb : Below B w w') : SA w' sb so s ov cv av := by
  subst hB
  have hc : ∀ j, w'.cell? ⟨sb, j, none⟩ = w.cell? ⟨sb, j, none⟩ := fun j => hb.cell (p := ⟨sb, j, none⟩) h.lt
  exact ⟨Nat.lt_of_lt_of_le h.lt hb.size, (hc _).trans h.c0, (hc _).trans h.c1, (hc _).trans h.c2, (hc _).trans h.c3, (hc _).trans h.c4, (hc _).trans h.c5, h.name, h.kd, h.at_, h.outs.stays RStr_kept hb, h.code.stays RItem_kept hb, h.args.stays RItems_kept hb⟩
theorem body_at {w : World} {v : Value} {xs : List DStm} (h : SlAt 6 104 RStm 0 w v xs) (i : Nat) (hi : i < xs.length) : ∃ b o ov cv av, (∃ n c, v = .slice (some ⟨b, o, none⟩) n c) ∧ SA w b (o + i * 6) xs[i] ov cv av := by
  obtain ⟨a, cap, rfl, _, _, hx⟩ := h
  obtain ⟨b, o, cs, rfl, _, hb, hl, hc, ⟨ov, cv, av, rfl, h1, h2, h3, h4, h5, h6⟩⟩ := hx i hi
  exact ⟨b, o, ov, cv, av, ⟨_, _, rfl⟩, hb, hc 0 (by simp), hc 1 (by simp), hc 2 (by simp), hc 3 (by simp), hc 4 (by simp), hc 5 (by simp), h1, h2, h3, h4, h5, h6⟩

theorem unusedEmpty_ok (s : DStm) (sb so : Nat) (ov cv av : Value) (w : World) (h : SA w sb so s ov cv av) : Calls Tryz.prog 129 #[.pointer (some ⟨sb, so, none⟩)] w (Ans (.bool (unB s)) w) := by
  obtain ⟨o1, p1, rfl⟩ := h.outs.shape
  obtain ⟨o2, p2, rfl⟩ := h.code.shape
  obtain ⟨o3, p3, rfl⟩ := h.args.shape
  have l1 := h.outs.lenI
  have l3 := h.args.lenI
  obtain ⟨_, c0, c1, c2, c3, c4, c5, _⟩ := h
  obtain ⟨kd, nm, atv, outs, code, args⟩ := s
  simp only at *
  by_cases k1 : kd = 1
  · subst k1; exact unusedEmpty_1 nm atv outs code args o1 o2 o3 _ _ _ p1 p2 p3 rfl rfl rfl l1 l3 sb so w c0 c1 c2 c3 c4 c5
  by_cases k2 : kd = 2
  · subst k2; exact unusedEmpty_2 nm atv outs code args o1 o2 o3 _ _ _ p1 p2 p3 rfl rfl rfl l1 l3 sb so w c0 c1 c2 c3 c4 c5
  by_cases k3 : kd = 3
  · subst k3; exact unusedEmpty_3 nm atv outs code args o1 o2 o3 _ _ _ p1 p2 p3 rfl rfl rfl l1 l3 sb so w c0 c1 c2 c3 c4 c5
  by_cases k4 : kd = 4
  · subst k4; exact unusedEmpty_4 nm atv outs code args o1 o2 o3 _ _ _ p1 p2 p3 rfl rfl rfl l1 l3 sb so w c0 c1 c2 c3 c4 c5
  exact unusedEmpty_0 kd k1 k2 k3 k4 nm atv outs code args o1 o2 o3 _ _ _ p1 p2 p3 rfl rfl rfl l1 l3 sb so w c0 c1 c2 c3 c4 c5

/-- New memory. -/
def New (a c : Nat) (b : Nat) : Prop := a ≤ b ∧ b < c
/-- Blocks that P tells are as they were. -/
def KeptP (P : Nat → Prop) (w w' : World) : Prop := w.heap.size ≤ w'.heap.size ∧ ∀ b, P b → b < w.heap.size → w'.heap[b]? = w.heap[b]?
theorem KeptP.of_below {P : Nat → Prop} {w w' : World} (h : Below w.heap.size w w') : KeptP P w w' := ⟨h.size, fun b _ hb => h.block b hb⟩
theorem But.keptP {S : List Nat} {P : Nat → Prop} {w w' : World} (h : But S w w') (hs : ∀ k, k ∈ S → ¬ P k) : KeptP P w w' := ⟨h.size, fun b hp hb => h.block b hb (fun e => hs b e hp)⟩
theorem KeptP.trans {P : Nat → Prop} {a b c : World} (h : KeptP P a b) (k : KeptP P b c) : KeptP P a c := ⟨Nat.le_trans h.1 k.1, fun i hp hi => (k.2 i hp (Nat.lt_of_lt_of_le hi h.1)).trans (h.2 i hp hi)⟩
theorem BlkAt.keptP {P : Nat → Prop} {w w' : World} {g : Nat} {e : TypeId} {cs : Array Value} (h : BlkAt w g e cs) (hk : KeptP P w w') (hg : P g) : BlkAt w' g e cs := (hk.2 g hg h.lt).trans h
theorem SlAt.keptP {α : Type} {sz byt : Nat} {R : Nat → World → List Value → α → Prop} (hR : ∀ w w' cs x, R 0 w cs x → R 0 w' cs x) {P : Nat → Prop} {w w' : World} {v : Value} {xs : List α} (hk : KeptP P w w') (hv : ∀ b, v.ownBlock = some b → P b) (h : SlAt sz byt R 0 w v xs) : SlAt sz byt R 0 w' v xs := by
  obtain ⟨a, cap, rfl, hl, hl2, h⟩ := h
  refine ⟨a, cap, rfl, hl, hl2, fun i hi => ?_⟩
  obtain ⟨b, o, cs, ha, hlo, hbl, hcs, hc, hr⟩ := h i hi
  subst ha
  have hp : P b := hv b rfl
  exact ⟨b, o, cs, rfl, hlo, Nat.lt_of_lt_of_le hbl hk.1, hcs, fun j hj => by rw [World.cell?_of_block (w := w) (a := ⟨b, _, none⟩) (hk.2 b hp hbl)]; exact hc j hj, hR _ _ _ _ hr⟩
/-- A statement of the tree that isn't an If. -/
def LeafAt (X : BD) (P : Nat → Prop) (w : World) (x : TypeId × Nat) (s : DStm) : Prop :=
  (s.kind = 1 ∧ x.1 = 194 ∧ ∃ cv, BlkAt w x.2 198 #[.int .i64 1, .int .i64 (placeI (varsOf X.k) s.name), cv] ∧ SlAt 3 32 RItem 0 X.W0 cv s.code) ∨
  (s.kind = 2 ∧ x.1 = 199 ∧ ∃ cv, BlkAt w x.2 201 #[.int .i64 1, .int .i64 s.at_, cv] ∧ SlAt 3 32 RItem 0 X.W0 cv s.code) ∨
  (s.kind = 3 ∧ x.1 = 203 ∧ ∃ ov av, BlkAt w x.2 205 #[.int .i64 (1 + knOf X.k.insts X.known s), .pointer (some ⟨(X.ins.getD s.at_.toNat (0, 0)).1, 0, none⟩), .int .i64 (X.ins.getD s.at_.toNat (0, 0)).2, ov, av] ∧ SlAt 1 8 RInt 0 w ov (s.outs.map (placeI (varsOf X.k))) ∧ (∀ b, ov.ownBlock = some b → P b) ∧ SlAt 1 24 RItems 0 X.W0 av s.args)
def LPost (X : BD) (H : List ByteArray) (nx : Nat) (w : World) (s : DStm) (ok : Bool) (e : Ending) (w' : World) : Prop :=
  (ok = true → ∃ x : TypeId × Nat, e = .returned (.iface x.1 (.pointer (some ⟨x.2, 0, none⟩))) ∧ New w.heap.size w'.heap.size x.2 ∧ LeafAt X (New w.heap.size w'.heap.size) w' x s) ∧ (ok = false → e = .returned .nilIface) ∧ But [X.gb] w w' ∧ BS X w' H nx
theorem LPost.no {X : BD} {H : List ByteArray} {nx : Nat} {w w' : World} {s : DStm} (hb : Below w.heap.size w w') (hs : BS X w' H nx) : LPost X H nx w s false (.returned .nilIface) w' := ⟨(fun h => by cases h), (fun _ => rfl), But.of_below hb, hs⟩
theorem LeafAt.keptP {X : BD} {P : Nat → Prop} {w w' : World} {x : TypeId × Nat} {s : DStm} (h : LeafAt X P w x s) (hx : P x.2) (hk : KeptP P w w') : LeafAt X P w' x s := by
  rcases h with ⟨a, b, cv, c, d⟩ | ⟨a, b, cv, c, d⟩ | ⟨a, b, ov, av, c, d, f, e⟩
  · exact Or.inl ⟨a, b, cv, c.keptP hk hx, d⟩
  · exact Or.inr (Or.inl ⟨a, b, cv, c.keptP hk hx, d⟩)
  · exact Or.inr (Or.inr ⟨a, b, ov, av, c.keptP hk hx, d.keptP (fun _ _ _ _ h => h) hk f, f, e⟩)
theorem LeafAt.mono {X : BD} {P Q : Nat → Prop} {w : World} {x : TypeId × Nat} {s : DStm} (h : LeafAt X P w x s) (hq : ∀ b, P b → Q b) : LeafAt X Q w x s := by
  rcases h with ⟨a, b, cv, c, d⟩ | ⟨a, b, cv, c, d⟩ | ⟨a, b, ov, av, c, d, f, e⟩
  · exact Or.inl ⟨a, b, cv, c, d⟩
  · exact Or.inr (Or.inl ⟨a, b, cv, c, d⟩)
  · exact Or.inr (Or.inr ⟨a, b, ov, av, c, d, (fun b hb => hq b (f b hb)), e⟩)

set_option maxHeartbeats 2000000 in
theorem set_ok (X : BD) (hE : BE X) (H : List ByteArray) (nx : Nat) (w : World) (hS : BS X w H nx) (s : DStm) (sb so : Nat) (ov cv av : Value) (hA : SA X.W0 sb so s ov cv av) (hk : s.kind = 1) :
    Calls Tryz.prog 130 #[.pointer (some ⟨X.bb, 0, none⟩), .pointer (some ⟨sb, so, none⟩)] w (LPost X H nx w s (tgB X.k H s.name && cfB X.k s.code)) := by
  have hAw := hA.stays rfl hS.old
  have c1 := hAw.c1
  have hT := target_ok X hE H nx w hS s.name hA.name
  have HTG := hide hT
  have HCF : Hid (∀ w1, Below w.heap.size w w1 → Calls Tryz.prog 138 #[.pointer (some ⟨X.pb, 0, none⟩), cv] w1.drew fun e w' => e = .returned (.bool (cfB X.k s.code)) ∧ Hid (Below w.heap.size w w') ∧ w'.cell? ⟨X.bb, 0, none⟩ = some (.pointer (some ⟨X.pb, 0, none⟩)) ∧ w'.cell? ⟨sb, so + 4, none⟩ = some cv) := fun w1 hb => by
    have hd : Below w.heap.size w w1.drew := hb.drew
    refine (codeFits_ok X.k s.code cv X.pb X.mb X.cb X.co w1.drew (hE.pr.stays (hS.stays hd).old) (hA.code.stays RItem_kept (hS.stays hd).old)).mono ?_
    rintro e w' ⟨rfl, hb'⟩
    have h2 := hd.trans (hb'.mono hd.size)
    exact ⟨rfl, h2, ((hS.stays h2).cells hE).b0, (hA.stays rfl (hS.stays h2).old).c4⟩
  have HCL : Hid (∀ w1, Below w.heap.size w w1 → w1.cell? ⟨sb, so + 4, none⟩ = some cv ∧ w1.cell? ⟨X.bb, 0, none⟩ = some (.pointer (some ⟨X.pb, 0, none⟩))) := fun w1 hb => ⟨(hA.stays rfl (hS.stays hb).old).c4, ((hS.stays hb).cells hE).b0⟩
  have HSS : Hid (∀ w1, Below w.heap.size w w1 → BS X w1 H nx) := fun w1 hb => hS.stays hb
  have HCV := hide hA.code
  have HTI : Hid (tgB X.k H s.name = true → tgI X.k s.name = placeI (varsOf X.k) s.name) := fun h => by
    have h1 := ((tg_iff _ _ _).1 h).1
    unfold setB at h1
    have := of_decide_eq_true h1
    exact if_pos (by omega)
  have HK := hide hk
  clear hS hA hAw hT hk
  obtain ⟨o2, p2, rfl⟩ := (unhide HCV).shape
  obtain ⟨q4, q0⟩ := unhide HCL w (Below.refl _ _)
  generalize tgB X.k H s.name = tb at *
  generalize cfB X.k s.code = cb at *
  cases tb
  · rw [Bool.false_and]
    go_enter Tryz.func130, Tryz.ntmps130
    go_wp2_with fail
    refine (unhide HTG).mono ?_
    rintro e w1 ⟨rfl, hb1⟩
    have HB1 := hide hb1
    clear hb1
    go_wp2_with fail
    go_quiet ((fail))
    go_wp2
    go_ret
    exact LPost.no (below_drewN (unhide HB1) _) (unhide HSS _ (below_drewN (unhide HB1) _))
  · rw [Bool.true_and]
    have hti := unhide HTI rfl
    rw [hti] at HTG
    clear hti HTI
    cases cb
    · go_enter Tryz.func130, Tryz.ntmps130
      go_wp2_with fail
      refine (unhide HTG).mono ?_
      rintro e w1 ⟨rfl, hb1⟩
      have HB1 := hide hb1
      obtain ⟨r4, r0⟩ := unhide HCL w1 hb1
      clear hb1
      go_wp2_with fail
      have HC2 := hide (unhide HCF w1 (unhide HB1))
      clear HCF
      go_region_held3 (fun w' => w'.cell? ⟨X.bb, 0, none⟩ = some (.pointer (some ⟨X.pb, 0, none⟩)) ∧ w'.cell? ⟨sb, so + 4, none⟩ = some (.slice o2 s.code.length p2)) (go_keep) (first | (go_at_call 138; refine (unhide HC2).mono ?_; rintro e w2 ⟨rfl, HB2, u0, u4⟩))
      go_wp2
      go_ret
      exact LPost.no (unhide HB2) (unhide HSS _ (unhide HB2))
    · go_enter Tryz.func130, Tryz.ntmps130
      go_wp2_with fail
      refine (unhide HTG).mono ?_
      rintro e w1 ⟨rfl, hb1⟩
      have HB1 := hide hb1
      obtain ⟨r4, r0⟩ := unhide HCL w1 hb1
      clear hb1
      go_wp2_with fail
      have HC2 := hide (unhide HCF w1 (unhide HB1))
      clear HCF
      go_region_held3 (fun w' => w'.cell? ⟨X.bb, 0, none⟩ = some (.pointer (some ⟨X.pb, 0, none⟩)) ∧ w'.cell? ⟨sb, so + 4, none⟩ = some (.slice o2 s.code.length p2)) (go_keep) (first | (go_at_call 138; refine (unhide HC2).mono ?_; rintro e w2 ⟨rfl, HB2, u0, u4⟩))
      go_wp2
      go_ret
      have hb := (unhide HB2).alloc (unhide HB2).size (.cells #[.int .i64 1, .int .i64 (placeI (varsOf X.k) s.name), .slice o2 s.code.length p2] 198)
      exact ⟨(fun _ => ⟨(194, w2.heap.size), rfl, ⟨(unhide HB2).size, by simp⟩, Or.inl ⟨unhide HK, rfl, _, blk_box _ _ _, unhide HCV⟩⟩), (fun h => by cases h), But.of_below hb, unhide HSS _ hb⟩

end Go.Proofs.YtmglbkndjnflkaaGreatDoor
