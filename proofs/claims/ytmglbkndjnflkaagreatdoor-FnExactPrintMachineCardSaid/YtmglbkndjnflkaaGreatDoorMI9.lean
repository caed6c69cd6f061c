import Derived.Test.YtmglbkndjnflkaaGreatDoorMI7
namespace Go.Proofs.YtmglbkndjnflkaaGreatDoor
open Go.RowKit
set_option linter.unusedSimpArgs false
set_option linter.unusedVariables false

theorem ins_cells {w : World} {v : Value} {xs : List (Nat × Nat)} (h : SlAt 2 16 RInst 0 w v xs) (j : Nat) (hj : j < xs.length) : ∃ b o n c, v = .slice (some ⟨b, o, none⟩) n c ∧ b < w.heap.size ∧ n = xs.length ∧ w.cell? ⟨b, o + j * 2, none⟩ = some (.pointer (some ⟨xs[j].1, 0, none⟩)) ∧ w.cell? ⟨b, o + j * 2 + 1, none⟩ = some (.int .i64 xs[j].2) := by
  obtain ⟨a, cap, rfl, _, _, hx⟩ := h
  obtain ⟨b, o, cs, rfl, _, hb, hl, hc, rfl⟩ := hx j hj
  exact ⟨b, o, _, _, rfl, hb, rfl, hc 0 (by simp), hc 1 (by simp)⟩
theorem str_cells {w : World} {v : Value} {xs : List ByteArray} (h : SlAt 1 16 RStr 0 w v xs) : ∃ a c, v = .slice a xs.length c ∧ ∀ i (hi : i < xs.length), ∃ b o, a = some ⟨b, o, none⟩ ∧ b < w.heap.size ∧ Len xs[i].size ∧ w.cell? ⟨b, o + i, none⟩ = some (.string xs[i]) := by
  obtain ⟨a, cap, rfl, _, _, hx⟩ := h
  refine ⟨a, cap, rfl, fun i hi => ?_⟩
  obtain ⟨b, o, cs, rfl, _, hb, hl, hc, rfl, hs⟩ := hx i hi
  have := hc 0 (by simp)
  rw [Nat.mul_one, Nat.add_zero] at this
  exact ⟨b, o, rfl, hb, hs, this⟩

set_option maxRecDepth 20000 in
set_option maxHeartbeats 2000000 in
theorem call_bad (X : BD) (hE : BE X) (H : List ByteArray) (nx : Nat) (w : World) (hS : BS X w H nx) (hG : GS X w nx) (s : DStm) (sb so : Nat) (ov cv av : Value) (hA : SA X.W0 sb so s ov cv av) (hk : s.kind = 3) (hb : s.at_ < 0 ∨ (X.k.insts.length : Int) ≤ s.at_) :
    Calls Tryz.prog 132 #[.pointer (some ⟨X.bb, 0, none⟩), .pointer (some ⟨sb, so, none⟩)] w (LPost X H nx w s (callI X.ks X.k H s)) := by
  rw [callI_lo _ _ _ _ hb]
  have HSS : Hid (∀ w1, Below w.heap.size w w1 → BS X w1 H nx) := fun w1 hb => hS.stays hb
  have hC := hS.cells hE
  have hB := hA.stays rfl hS.old
  have b0 := hC.b0
  have p2 := hC.p2
  have s2 := hB.c2
  obtain ⟨ib, ic, hiv⟩ := hE.insts.shape
  have hil := hE.insts.lenI
  rw [hiv] at p2
  have hl := hE.inl
  rw [hl] at p2 hil
  have hat := hA.at_
  clear hS hA hC hB hE hG hk hiv hl
  by_cases h1 : s.at_ < 0
  · have e1 : decide (s.at_ < 0) = true := decide_eq_true h1
    clear h1 hb
    go_enter Tryz.func132, Tryz.ntmps132
    go_wp2_with fail
    go_quiet ((fail))
    go_wp2
    go_ret
    exact LPost.no (below_dn _ _) (unhide HSS _ (below_dn _ _))
  have e1 : decide (s.at_ < 0) = false := decide_eq_false h1
  have e2 : decide ((X.k.insts.length : Int) ≤ s.at_) = true := decide_eq_true (by omega)
  clear h1 hb
  go_enter Tryz.func132, Tryz.ntmps132
  go_wp2_with fail
  go_quiet ((fail))
  go_wp2
  go_ret
  exact LPost.no (below_dn _ _) (unhide HSS _ (below_dn _ _))

set_option maxRecDepth 20000 in
set_option maxHeartbeats 4000000 in
theorem call_in (X : BD) (hE : BE X) (H : List ByteArray) (nx : Nat) (w : World) (hS : BS X w H nx) (hG : GS X w nx) (s : DStm) (sb so : Nat) (ov cv av : Value) (hA : SA X.W0 sb so s ov cv av) (hk : s.kind = 3) (j : Nat) (hj : j < X.k.insts.length) (ha : s.at_ = (j : Int)) :
    Calls Tryz.prog 132 #[.pointer (some ⟨X.bb, 0, none⟩), .pointer (some ⟨sb, so, none⟩)] w (LPost X H nx w s (callI X.ks X.k H s)) := by
  have hji : j < X.ins.length := by rw [hE.inl]; exact hj
  obtain ⟨gi, g, gc, go, d1, m1, d2, m2, hgi, hgk, x0, x1, x2, x5, ⟨xk0, xk1⟩, xl1, xl2⟩ := hE.callee j hji hj
  have HR := hide (callI_in X.ks X.k H s j gi g hj ha hgi hgk)
  have HKN : Hid (knOf X.k.insts X.known s = X.known.getD gi 0) := by
    refine hide ?_
    unfold knOf
    rw [ha, Int.toNat_natCast, show X.k.insts.getD j 0 = (gi : Int) by rw [List.getD_eq_getElem?_getD, List.getElem?_eq_getElem hj, Option.getD_some, hgi], Int.toNat_natCast]
  have HIN : Hid (X.ins.getD s.at_.toNat (0, 0) = X.ins[j]) := by
    refine hide ?_
    rw [ha, Int.toNat_natCast, List.getD_eq_getElem?_getD, List.getElem?_eq_getElem hji, Option.getD_some]
  obtain ⟨ib, io, inn, ic, hiv, hib, hin, i0, i1⟩ := ins_cells hE.insts j hji
  have hC := hS.cells hE
  have hB := hA.stays rfl hS.old
  have b0 := hC.b0
  have p2 := hC.p2
  have s2 := hB.c2
  rw [hiv, hin, hE.inl] at p2
  rw [ha] at s2
  have i0 := (hS.old.cell (p := ⟨ib, io + j * 2, none⟩) hib).trans i0
  have i1 := (hS.old.cell (p := ⟨ib, io + j * 2 + 1, none⟩) hib).trans i1
  have hil := hE.insts.lenI
  rw [hE.inl] at hil
  generalize hq : X.ins[j].1 = q at *
  generalize hbg : X.ins[j].2 = bg at *
  generalize hkn : X.known.getD gi 0 = kn at *
  have HQB : Hid (X.ins[j] = (q, bg)) := by rw [← hq, ← hbg]; exact rfl
  have oz := hS.old.size
  have lb := World.block_lt_of_cell? w _ b0
  have lp := World.block_lt_of_cell? w _ p2
  have ls := World.block_lt_of_cell? w _ s2
  have li := World.block_lt_of_cell? w _ i0
  simp only at lb lp ls li
  have e1 : decide ((j : Int) < 0) = false := decide_eq_false (by omega)
  have e2 : decide ((X.k.insts.length : Int) ≤ (j : Int)) = false := decide_eq_false (by omega)
  have e2n : decide (X.k.insts.length ≤ j) = false := decide_eq_false (by omega)
  have hjI : (j : Int) < (X.k.insts.length : Int) := by omega
  obtain ⟨oa, oc, hov, hox⟩ := str_cells hA.outs
  obtain ⟨aa, ac, hav⟩ := hA.args.shape
  have l1 := hA.outs.lenI
  have l2 := hA.args.lenI
  subst hov hav
  generalize hgil : g.ins.length = gil at *
  generalize hgol : g.outs.length = gol at *
  -- what holds in every later world
  have HCX : Hid (∀ w', But [X.gb] w w' → Below X.W0.heap.size X.W0 w' ∧ w'.cell? ⟨X.bb, 0, none⟩ = some (.pointer (some ⟨X.pb, 0, none⟩)) ∧ w'.cell? ⟨sb, so + 3, none⟩ = some (.slice oa s.outs.length oc) ∧ w'.cell? ⟨sb, so + 5, none⟩ = some (.slice aa s.args.length ac) ∧ w'.cell? ⟨q, 0, none⟩ = some (.pointer (some ⟨gc, go, none⟩)) ∧ w'.cell? ⟨gc, go + 1, none⟩ = some (.slice d1 gil m1) ∧ w'.cell? ⟨gc, go + 2, none⟩ = some (.slice d2 gol m2) ∧ w'.cell? ⟨q, 5, none⟩ = some (.int .i64 kn) ∧ w'.cell? ⟨X.bb, 1, none⟩ = some (.int .i64 nx) ∧ w'.cell? ⟨X.bb, 3, none⟩ = some (.slice (some ⟨X.gb, 0, none⟩) (varsOf X.k).length (varsOf X.k).length)) := fun w' hb => by
    have hold : Below X.W0.heap.size X.W0 w' := hS.old.trans (hb.below _ hS.old.size (fun k hk => by rw [List.mem_singleton] at hk; subst hk; exact hE.ng.1))
    have hbb : ∀ i, w'.cell? ⟨X.bb, i, none⟩ = w.cell? ⟨X.bb, i, none⟩ := fun i => hb.cell (p := ⟨X.bb, i, none⟩) hS.bl.lt (by simpa using hE.bg)
    exact ⟨hold, (hbb 0).trans hC.b0, (hold.cell (p := ⟨sb, _, none⟩) hA.lt).trans hA.c3, (hold.cell (p := ⟨sb, _, none⟩) hA.lt).trans hA.c5, (hold.cell (p := ⟨q, 0, none⟩) (World.block_lt_of_cell? X.W0 _ x0)).trans x0, (hold.cell (p := ⟨gc, go + 1, none⟩) (World.block_lt_of_cell? X.W0 _ x1)).trans x1, (hold.cell (p := ⟨gc, go + 2, none⟩) (World.block_lt_of_cell? X.W0 _ x2)).trans x2, (hold.cell (p := ⟨q, 5, none⟩) (World.block_lt_of_cell? X.W0 _ x5)).trans x5, (hbb 1).trans hC.b1, (hbb 3).trans hC.b3⟩
  have HSS : Hid (∀ w1, Below w.heap.size w w1 → BS X w1 H nx) := fun w1 hb => hS.stays hb
  have HGS : Hid (∀ w1, Below w.heap.size w w1 → GS X w1 nx) := fun w1 hb => hG.stays hb
  have HSB : Hid (∀ w', But [X.gb] w w' → ∀ gv : List Int, gv.length = (varsOf X.k).length → (∀ x, x ∈ gv → 0 ≤ x ∧ x ≤ nx) → BlkAt w' X.gb 3 (gv.map (Value.int .i64)).toArray → BS X w' H nx) := fun w' hb gv g1 g2 g3 => hS.but hE hb g1 g2 g3
  have HAR := hide (fun w' hb => args_ok X hE s.args _ hA.args w' hb)
  have HTG := hide (fun x hx w' hb => target_ok X hE H nx w' hb x hx)
  have HOX : Hid (∀ i (hi : i < s.outs.length), ∃ b o, oa = some ⟨b, o, none⟩ ∧ Len s.outs[i].size ∧ ∀ w', Below X.W0.heap.size X.W0 w' → w'.cell? ⟨b, o + i, none⟩ = some (.string s.outs[i])) := fun i hi => by
    obtain ⟨b, o, h1, h2, h3, h4⟩ := hox i hi
    exact ⟨b, o, h1, h3, fun w' hb => (hb.cell (p := ⟨b, _, none⟩) h2).trans h4⟩
  have hlo := hS.lo
  have hvl := hE.vl
  have hnx : nx ≤ 30000 := Nat.le_trans hS.nxl hE.bl
  have HNG := hide hE.ng
  have HGBW : Hid (X.gb < w.heap.size) := by obtain ⟨gv, _, _, h⟩ := hG; exact h.lt
  have HK := hide hk
  have HAV := hide hA.args
  clear hox hC hB hS hE hG hA x0 x1 x2 x5 hgi hgk hq hbg hkn hiv hin hgil hgol hib hk
  -- the callee, boxed
  go_enter Tryz.func132, Tryz.ntmps132
  go_wp2_with fail
  go_quiet ((fail))
  go_wp2_with fail
  have hwq : Below w.heap.size w (w.drewN nq) := below_dn w nq
  have hwz : (w.drewN nq).heap.size = w.heap.size := rfl
  generalize w.drewN nq = wq at *
  have hzb : Below wq.heap.size wq (wq.alloc (.cells #[.pointer none, .int .i64 0] 147)) := (Below.refl _ _).alloc (Nat.le_refl _) _
  have b0 := (hwq.cell (p := ⟨X.bb, 0, none⟩) lb).trans b0
  have p2 := (hwq.cell (p := ⟨X.pb, 2, none⟩) lp).trans p2
  have s2 := (hwq.cell (p := ⟨sb, so + 2, none⟩) ls).trans s2
  have i0 := (hwq.cell (p := ⟨ib, io + j * 2, none⟩) li).trans i0
  have i1 := (hwq.cell (p := ⟨ib, io + j * 2 + 1, none⟩) li).trans i1
  have z1 := (hzb.cell (p := ⟨X.bb, 0, none⟩) (show X.bb < wq.heap.size by omega)).trans b0
  have z2 := (hzb.cell (p := ⟨X.pb, 2, none⟩) (show X.pb < wq.heap.size by omega)).trans p2
  have z3 := (hzb.cell (p := ⟨sb, so + 2, none⟩) (show sb < wq.heap.size by omega)).trans s2
  have z4 := (hzb.cell (p := ⟨ib, io + j * 2, none⟩) (show ib < wq.heap.size by omega)).trans i0
  have z5 := (hzb.cell (p := ⟨ib, io + j * 2 + 1, none⟩) (show ib < wq.heap.size by omega)).trans i1
  have y1 : wq.heap.size ≠ X.bb := by omega
  have y2 : wq.heap.size ≠ X.pb := by omega
  have y3 : wq.heap.size ≠ sb := by omega
  have y4 : wq.heap.size ≠ ib := by omega
  have HWQ := hide hwq
  have HWZ := hide hwz
  clear hzb hwq hwz lb lp ls li oz
  go_region
  clear z1 z2 z3 z4 z5 y1 y2 y3 y4
  have hbG : Below wq.heap.size wq (wq.alloc (.cells #[.pointer (some ⟨q, 0, none⟩), .int .i64 bg] 147)).drew := ((Below.refl _ wq).alloc (Nat.le_refl _) (.cells #[.pointer (some ⟨q, 0, none⟩), .int .i64 bg] 147)).drew
  have hGb : BlkAt (wq.alloc (.cells #[.pointer (some ⟨q, 0, none⟩), .int .i64 bg] 147)).drew wq.heap.size 147 #[.pointer (some ⟨q, 0, none⟩), .int .i64 bg] := blk_box wq _ _
  have hzG : (wq.alloc (.cells #[.pointer (some ⟨q, 0, none⟩), .int .i64 bg] 147)).drew.heap.size = wq.heap.size + 1 := by show (wq.heap.push _).size = _; rw [Array.size_push]
  generalize (wq.alloc (.cells #[.pointer (some ⟨q, 0, none⟩), .int .i64 bg] 147)).drew = wG at *
  have hbw : Below w.heap.size w wG := (unhide HWQ).trans (hbG.mono (by rw [unhide HWZ]; exact Nat.le_refl _))
  generalize wq.heap.size = gB at *
  obtain ⟨f0, f1, f2, f3, f4, f5, f6, f7, f8, f9⟩ := unhide HCX wG (But.of_below hbw)
  have g0 := hGb.cell (i := 0) (v := .pointer (some ⟨q, 0, none⟩)) rfl
  have HBW := hide hbw
  have HGB := hide hGb
  have HZG := hide hzG
  have HF0 := hide f0
  clear hbG hbw hGb hzG f0 b0 p2 s2 i0 i1 HWQ
  have HSW := hide (unhide HSS wG (unhide HBW))
  generalize callI X.ks X.k H s = R at *
  by_cases ho : s.outs.length = gol
  case neg =>
    have c1' : ((s.outs.length : Int) != (gol : Int)) = true := by rw [bne_iff_ne]; omega
    have HF : Hid (R = false) := (unhide HR).trans (by simp [ho])
    clear HR ho
    go_wp2_with fail
    go_quiet ((fail))
    go_wp2
    go_ret
    rw [unhide HF]
    exact LPost.no (below_drewN (unhide HBW) _) ((unhide HSS) _ (below_drewN (unhide HBW) _))
  have c1' : ((s.outs.length : Int) != (gol : Int)) = false := by rw [bne_eq_false_iff_eq]; omega
  by_cases hag : s.args.length = gil
  case neg =>
    have c2' : ((s.args.length : Int) != (gil : Int)) = true := by rw [bne_iff_ne]; omega
    have HF : Hid (R = false) := (unhide HR).trans (by simp [hag])
    clear HR ho hag
    go_wp2_with fail
    go_quiet ((fail))
    go_wp2
    go_ret
    rw [unhide HF]
    exact LPost.no (below_drewN (unhide HBW) _) ((unhide HSS) _ (below_drewN (unhide HBW) _))
  have c2' : ((s.args.length : Int) != (gil : Int)) = false := by rw [bne_eq_false_iff_eq]; omega
  have HR2 : Hid (R = (s.args.all (cfB X.k) && (List.range s.outs.length).all (oneB X.k H s.outs))) := (unhide HR).trans (by rw [decide_eq_true ⟨ho, hag⟩, Bool.true_and])
  clear HR hag
  have HON := hide ho
  have HAC : Hid (Calls Tryz.prog 139 #[.slice aa s.args.length ac, .func (.func 138) #[.pointer (some ⟨X.pb, 0, none⟩)] #[]] wG.drew fun e w' => e = .returned (.bool (s.args.all (cfB X.k))) ∧ Hid (Below w.heap.size w w' ∧ Below wG.heap.size wG w') ∧ w'.cell? ⟨X.bb, 0, none⟩ = some (.pointer (some ⟨X.pb, 0, none⟩)) ∧ w'.cell? ⟨sb, so + 3, none⟩ = some (.slice oa s.outs.length oc) ∧ w'.cell? ⟨sb, so + 5, none⟩ = some (.slice aa s.args.length ac) ∧ w'.cell? ⟨gB, 0, none⟩ = some (.pointer (some ⟨q, 0, none⟩)) ∧ w'.cell? ⟨q, 0, none⟩ = some (.pointer (some ⟨gc, go, none⟩)) ∧ w'.cell? ⟨gc, go + 1, none⟩ = some (.slice d1 gil m1) ∧ w'.cell? ⟨gc, go + 2, none⟩ = some (.slice d2 gol m2)) := by
    have hd : Below w.heap.size w wG.drew := (unhide HBW).drew
    obtain ⟨r0, _⟩ := unhide HCX wG.drew (But.of_below hd)
    refine (unhide HAR wG.drew r0).mono ?_
    rintro e w' ⟨rfl, hb'⟩
    have hb2 : Below wG.heap.size wG w' := ((Below.refl _ wG).drew).trans hb'
    have hb3 : Below w.heap.size w w' := (unhide HBW).trans (hb2.mono (unhide HBW).size)
    obtain ⟨r0, r1, r2, r3, r4, r5, r6, r7, r8, r9⟩ := unhide HCX w' (But.of_below hb3)
    exact ⟨rfl, ⟨hb3, hb2⟩, r1, r2, r3, ((unhide HGB).below hb2 (unhide HGB).lt).cell (i := 0) (v := .pointer (some ⟨q, 0, none⟩)) rfl, r4, r5, r6⟩
  clear HAR ho
  generalize s.args.all (cfB X.k) = ab at *
  cases ab
  · have HF : Hid (R = false) := (unhide HR2).trans (Bool.false_and _)
    clear HR2
    go_wp2_with fail
    go_region_held3 (fun w' => w'.cell? ⟨X.bb, 0, none⟩ = some (.pointer (some ⟨X.pb, 0, none⟩)) ∧ w'.cell? ⟨sb, so + 3, none⟩ = some (.slice oa s.outs.length oc) ∧ w'.cell? ⟨sb, so + 5, none⟩ = some (.slice aa s.args.length ac) ∧ w'.cell? ⟨gB, 0, none⟩ = some (.pointer (some ⟨q, 0, none⟩)) ∧ w'.cell? ⟨q, 0, none⟩ = some (.pointer (some ⟨gc, go, none⟩)) ∧ w'.cell? ⟨gc, go + 1, none⟩ = some (.slice d1 gil m1) ∧ w'.cell? ⟨gc, go + 2, none⟩ = some (.slice d2 gol m2)) (go_keep) (first | (go_at_call 139; refine (unhide HAC).mono ?_; rintro e w2 ⟨rfl, HB2, u0, u1, u2, u3, u4, u5, u6⟩))
    go_wp2
    go_ret
    rw [unhide HF]
    exact LPost.no (unhide HB2).1 ((unhide HSS) _ (unhide HB2).1)
  have HR3 : Hid (R = (List.range s.outs.length).all (oneB X.k H s.outs)) := (unhide HR2).trans (Bool.true_and _)
  clear HR2
  go_wp2_with fail
  go_region_held3 (fun w' => w'.cell? ⟨X.bb, 0, none⟩ = some (.pointer (some ⟨X.pb, 0, none⟩)) ∧ w'.cell? ⟨sb, so + 3, none⟩ = some (.slice oa s.outs.length oc) ∧ w'.cell? ⟨sb, so + 5, none⟩ = some (.slice aa s.args.length ac) ∧ w'.cell? ⟨gB, 0, none⟩ = some (.pointer (some ⟨q, 0, none⟩)) ∧ w'.cell? ⟨q, 0, none⟩ = some (.pointer (some ⟨gc, go, none⟩)) ∧ w'.cell? ⟨gc, go + 1, none⟩ = some (.slice d1 gil m1) ∧ w'.cell? ⟨gc, go + 2, none⟩ = some (.slice d2 gol m2)) (go_keep) (first | (go_at_call 139; refine (unhide HAC).mono ?_; rintro e w2 ⟨rfl, HB2, u0, u1, u2, u3, u4, u5, u6⟩))
  obtain ⟨hbw2, hbg2⟩ := unhide HB2
  have hon : s.outs.length ≤ 1000 := by rw [unhide HON]; exact xl2
  have hA3 : Below w2.heap.size w2 (w2.alloc (.cells (madeCells #[.int .i64 0] s.outs.length) 3)) := (Below.refl _ _).alloc (Nat.le_refl _) _
  have HBT3 : Hid (But [X.gb] w (w2.alloc (.cells (madeCells #[.int .i64 0] s.outs.length) 3))) := But.of_below (hbw2.trans (hA3.mono hbw2.size))
  obtain ⟨_, v1, v2, v3, v4, v5, v6, v7, v8, v9⟩ := unhide HCX _ (unhide HBT3)
  have HGB3 : Hid (BlkAt (w2.alloc (.cells (madeCells #[.int .i64 0] s.outs.length) 3)) gB 147 #[.pointer (some ⟨q, 0, none⟩), .int .i64 bg]) := ((unhide HGB).below hbg2 (unhide HGB).lt).below hA3 (Nat.lt_of_lt_of_le (unhide HGB).lt hbg2.size)
  have HRW : Hid (∃ cs, rowOK X.k s.outs 0 cs ∧ BlkAt (w2.alloc (.cells (madeCells #[.int .i64 0] s.outs.length) 3)) w2.heap.size 3 cs) := ⟨_, ⟨by rw [size_madeCells], fun j _ hj => absurd hj (Nat.not_lt_zero _)⟩, blk_box w2 _ _⟩
  have HGV : Hid (∃ gv, gvOK X.k s.outs nx 0 gv ∧ BlkAt (w2.alloc (.cells (madeCells #[.int .i64 0] s.outs.length) 3)) X.gb 3 (gv.map (Value.int .i64)).toArray) := by
    obtain ⟨gv, g1, g2, g3⟩ := unhide HGS _ (hbw2.trans (hA3.mono hbw2.size))
    exact ⟨gv, gvOK.zero g1 g2, g3⟩
  have hgo : X.gb < w2.heap.size := Nat.lt_of_lt_of_le (unhide HGBW) hbw2.size
  have hgbo : gB < w2.heap.size := Nat.lt_of_lt_of_le (unhide HGB).lt hbg2.size
  have hloo : X.lo ≤ w2.heap.size := Nat.le_trans hlo hbw2.size
  have hwo : w.heap.size ≤ w2.heap.size := hbw2.size
  have hggB : X.gb ≠ gB := by have := unhide HGBW; have := unhide HWZ; omega
  have hmk : (Instr.makeSlice 37 (.int .i64 (s.outs.length : Int)) (.int .i64 (s.outs.length : Int))).run Tryz.prog w2 = .ok (.slice (some ⟨w2.heap.size, 0, none⟩) s.outs.length s.outs.length) (w2.alloc (.cells (madeCells #[.int .i64 0] s.outs.length) 3)) := by
    have h9 := make_rows (P := Tryz.prog) 37 3 (.int .i64 0) 1 8 Tryz.underlying37 (by kernel_rfl) s.outs.length (by omega) (by omega) w2
    rw [Nat.mul_one] at h9
    exact h9
  clear hbw2 hbg2 hA3 HB2 HAC HSW HGS
  go_wp2
  generalize w2.alloc (.cells (madeCells #[.int .i64 0] s.outs.length) 3) = w3 at *
  generalize w2.heap.size = oB at *
  clear u0 u1 u2 u3 u4 u5 u6 f1 f2 f3 f4 f5 f6 f7 f8 f9 g0 hmk
  go_loopg [100] s.outs.length (fun g iv wr => ∃ (i : Nat), i ≤ s.outs.length ∧ g = s.outs.length - i ∧ iv = .int .i64 i ∧ (∀ j, j < i → oneB X.k H s.outs j = true) ∧ But [X.gb] w wr ∧ BlkAt wr gB 147 #[.pointer (some ⟨q, 0, none⟩), .int .i64 bg] ∧ (∃ cs, rowOK X.k s.outs i cs ∧ BlkAt wr oB 3 cs) ∧ ∃ gv, gvOK X.k s.outs nx i gv ∧ BlkAt wr X.gb 3 (gv.map (Value.int .i64)).toArray)
  case atStart => exact ⟨0, Nat.zero_le _, by omega, rfl, fun j hj => absurd hj (Nat.not_lt_zero _), unhide HBT3, unhide HGB3, unhide HRW, unhide HGV⟩
  case round =>
    clear HBT3 HGB3 HRW HGV v1 v2 v3 v4 v5 v6 v7 v8 v9
    obtain ⟨i, hi, hg, rfl, hone, hbut, hgB, ⟨cs, hrow, hcs⟩, gv, hgv, hgb⟩ := hrel
    rename World => wr
    have HG := hide hg
    have HONE := hide hone
    have HBUT := hide hbut
    have HGBr := hide hgB
    have HROW := hide hrow
    have HCS := hide hcs
    have HGV := hide hgv
    have HGBL := hide hgb
    have HBSr := hide (unhide HSB wr hbut gv hgv.1 hgv.bound hgb)
    obtain ⟨hold, v1, v2, v3, v4, v5, v6, v7, v8, v9⟩ := unhide HCX wr hbut
    have HOLD := hide hold
    clear hg hone hbut hgB hrow hcs hgv hgb hold
    by_cases hlt : i < s.outs.length
    · obtain ⟨xb, xo, rfl, hxl, hxc⟩ := unhide HOX i hlt
      have x0 := hxc wr (unhide HOLD)
      have HTC := hide (unhide HTG s.outs[i] hxl wr (unhide HBSr))
      have HONI : Hid (oneB X.k H s.outs i = (tgB X.k H s.outs[i] && !dupB X.k s.outs i)) := by
        refine hide ?_
        unfold oneB
        rw [List.getElem?_eq_getElem hlt]
      have HPI : Hid (tgB X.k H s.outs[i] = true → ∃ p : Nat, placeI (varsOf X.k) s.outs[i] = (p : Int) ∧ p < (varsOf X.k).length ∧ tgI X.k s.outs[i] = (p : Int)) := fun h => by
        have h1 := ((tg_iff _ _ _).1 h).1
        unfold setB at h1
        have h2 := of_decide_eq_true h1
        obtain ⟨p, hp⟩ := Int.eq_ofNat_of_zero_le (show 0 ≤ placeI (varsOf X.k) s.outs[i] by omega)
        have hb := place_bd (varsOf X.k) s.outs[i]
        exact ⟨p, hp, by omega, by unfold tgI; rw [if_pos (by omega), hp]⟩
      have HNO : Hid (oneB X.k H s.outs i = false → R = false) := fun h => (unhide HR3).trans (by rw [List.all_eq_false]; exact ⟨i, List.mem_range.2 hlt, by rw [h]; decide⟩)
      have HYE : Hid (oneB X.k H s.outs i = true → ∀ j, j < i + 1 → oneB X.k H s.outs j = true) := fun h j hj => by
        by_cases e : j = i
        · subst e; exact h
        · exact unhide HONE j (by omega)
      clear hxc
      generalize htb : tgB X.k H s.outs[i] = tb at *
      cases tb
      · have HF : Hid (R = false) := unhide HNO ((unhide HONI).trans (Bool.false_and _))
        clear HNO HYE HPI HONI
        go_wp2_with fail
        refine (unhide HTC).mono ?_
        rintro e w5 ⟨rfl, hb5⟩
        have HB5 := hide hb5
        clear hb5
        go_wp2_with fail
        go_quiet ((fail))
        go_wp2
        go_ret
        rw [unhide HF]
        exact LPost.no' ((unhide HBUT).trans (But.of_below (below_drewN (unhide HB5) _))) ((unhide HBSr).stays (below_drewN (unhide HB5) _))
      obtain ⟨p, hp, hpl, hti⟩ := unhide HPI rfl
      rw [hti] at HTC
      have HP := hide hp
      have hgl : gv.length = (varsOf X.k).length := (unhide HGV).1
      have hpg : p < gv.length := by omega
      have HDU := hide ((unhide HGV).dup hlt hp hpg)
      have HGL := hide hgl
      clear hti HPI hp hgl
      generalize dupB X.k s.outs i = db at *
      cases db
      case true =>
        have HF : Hid (R = false) := unhide HNO ((unhide HONI).trans rfl)
        clear HNO HYE HONI
        go_wp2_with fail
        refine (unhide HTC).mono ?_
        rintro e w5 ⟨rfl, hb5⟩
        have HB5 := hide hb5
        obtain ⟨_, t1, t2, t3, t4, t5, t6, t7, t8, t9⟩ := unhide HCX w5 ((unhide HBUT).trans (But.of_below hb5))
        have gc := gv_cell ((unhide HGBL).below hb5 (unhide HGBL).lt) p hpg
        have gd := unhide HDU
        clear hb5
        generalize gv[p] = gp at *
        go_wp2_with fail
        go_quiet ((fail))
        go_wp2
        go_ret
        rw [unhide HF]
        exact LPost.no' ((unhide HBUT).trans (But.of_below (below_drewN (unhide HB5) _))) ((unhide HBSr).stays (below_drewN (unhide HB5) _))
      have HY2 := hide (unhide HYE ((unhide HONI).trans rfl))
      clear HNO HYE HONI
      go_wp2_with fail
      refine (unhide HTC).mono ?_
      rintro e w5 ⟨rfl, hb5⟩
      have HB5 := hide hb5
      obtain ⟨_, t1, t2, t3, t4, t5, t6, t7, t8, t9⟩ := unhide HCX w5 ((unhide HBUT).trans (But.of_below hb5))
      have gc := gv_cell ((unhide HGBL).below hb5 (unhide HGBL).lt) p hpg
      have gd := unhide HDU
      clear hb5
      generalize hgp : gv[p] = gp at *
      go_wp2_with fail
      go_quiet ((fail))
      go_wp2_with fail
      have hb6 : Below wr.heap.size wr (w5.drewN nq) := below_drewN (unhide HB5) nq
      have h6b : But [X.gb] w (w5.drewN nq) := (unhide HBUT).trans (But.of_below hb6)
      have H6B := hide h6b
      clear t1 t2 t3 t4 t5 t6 t7 t8 t9 v1 v2 v3 v4 v5 v6 v7 v8 v9 gc gd hgp
      obtain ⟨_, t1, t2, t3, t4, t5, t6, t7, t8, t9⟩ := unhide HCX _ h6b
      have G6 := hide ((unhide HGBL).below hb6 (unhide HGBL).lt)
      have R6 := hide ((unhide HCS).below hb6 (unhide HCS).lt)
      have B6 := hide ((unhide HGBr).below hb6 (unhide HGBr).lt)
      have gc := gv_cell (unhide G6) p hpg
      have gz := (unhide G6).free p
      have rz := (unhide R6).free i
      obtain ⟨ru, hru⟩ : ∃ u, cs[i]? = some u := ⟨_, Array.getElem?_eq_getElem (by rw [(unhide HROW).1]; exact hlt)⟩
      have rc := (unhide R6).cell hru
      generalize w5.drewN nq = w6 at *
      have hpI : (p : Int) < ((varsOf X.k).length : Int) := by omega
      have hiI : (i : Int) < (s.outs.length : Int) := by omega
      have hno : oB ≠ X.gb := by omega
      have hno2 : X.gb ≠ oB := by omega
      clear hb6 h6b hru x0
      go_region
      have H7B : Hid (But [X.gb] w (w6.setCell ⟨X.gb, p, none⟩ (.int .i64 nx)).drew) := ((unhide H6B).setIn (List.mem_singleton.2 rfl) _).drew
      have G7 : Hid (BlkAt (w6.setCell ⟨X.gb, p, none⟩ (.int .i64 nx)).drew X.gb 3 ((gv.set p nx).map (Value.int .i64)).toArray) := by
        have h9 := (unhide G6).set p (.int .i64 nx)
        rw [gv_set] at h9
        exact h9
      have R7 : Hid (BlkAt (w6.setCell ⟨X.gb, p, none⟩ (.int .i64 nx)).drew oB 3 cs) := (unhide R6).other hno _
      have B7 : Hid (BlkAt (w6.setCell ⟨X.gb, p, none⟩ (.int .i64 nx)).drew gB 147 #[.pointer (some ⟨q, 0, none⟩), .int .i64 bg]) := (unhide B6).other hggB.symm _
      have rc7 : (w6.setCell ⟨X.gb, p, none⟩ (.int .i64 nx)).drew.cell? ⟨oB, i, none⟩ = some ru := by
        rw [← rc]
        exact World.cell?_of_block (w := w6) (Below.heap_setCell w6 ⟨X.gb, p, none⟩ (.int .i64 nx) oB hno)
      have rz7 : (w6.setCell ⟨X.gb, p, none⟩ (.int .i64 nx)).drew.frozen? ⟨oB, i, none⟩ = false := (unhide R7).free i
      generalize (w6.setCell ⟨X.gb, p, none⟩ (.int .i64 nx)).drew = w7 at *
      clear t1 t2 t3 t4 t5 t6 t7 t8 t9 gc gz rz rc G6 R6 B6
      go_wp2
      go_roundg (s.outs.length - (i + 1))
      case measure => have := unhide HG; omega
      case rel => exact ⟨i + 1, by omega, rfl, by go_num, unhide HY2, (unhide H7B).setNew hwo _, (unhide B7).other (show gB ≠ oB by omega) _, ⟨_, (unhide HROW).next hlt (unhide HP), (unhide R7).set i _⟩, _, (unhide HGV).next hlt (unhide HP) hpl, (unhide G7).other hno2 _⟩
    · have e : i = s.outs.length := by omega
      subst e
      have HF : Hid (R = true) := (unhide HR3).trans (by rw [List.all_eq_true]; exact fun j hj => unhide HONE j (List.mem_range.1 hj))
      have k0 := (unhide HGBr).cell (i := 0) (v := .pointer (some ⟨q, 0, none⟩)) rfl
      have k1 := (unhide HGBr).cell (i := 1) (v := .int .i64 bg) rfl
      clear v1 v2 v4 v5 v6 v8 v9
      go_wp2_with fail
      go_region
      go_wp2
      go_ret
      rw [unhide HF]
      have hal : Below wr.heap.size wr (wr.alloc (.cells #[.int .i64 (1 + kn), .pointer (some ⟨q, 0, none⟩), .int .i64 bg, .slice (some ⟨oB, 0, none⟩) s.outs.length s.outs.length, .slice aa s.args.length ac] 205)).drew := ((Below.refl _ wr).alloc (Nat.le_refl _) _).drew
      refine ⟨fun _ => ⟨(203, wr.heap.size), rfl, ⟨(unhide HBUT).size, (blk_box wr _ _).lt⟩, Or.inr (Or.inr ⟨unhide HK, rfl, .slice (some ⟨oB, 0, none⟩) s.outs.length s.outs.length, _, ?_, ?_, ?_, unhide HAV⟩)⟩, (fun h => by cases h), (unhide HBUT).trans (But.of_below hal), (unhide HBSr).stays hal⟩
      · rw [unhide HKN, unhide HIN, unhide HQB]
        exact blk_box wr _ _
      · exact ((unhide HROW).at (unhide HCS) hon hvl).stays RInt_kept hal
      · intro b hb
        simp only [Value.ownBlock, Option.some.injEq] at hb
        subst hb
        exact ⟨hwo, Nat.lt_of_lt_of_le (unhide HCS).lt hal.size⟩

theorem call_ok (X : BD) (hE : BE X) (H : List ByteArray) (nx : Nat) (w : World) (hS : BS X w H nx) (hG : GS X w nx) (s : DStm) (sb so : Nat) (ov cv av : Value) (hA : SA X.W0 sb so s ov cv av) (hk : s.kind = 3) : Calls Tryz.prog 132 #[.pointer (some ⟨X.bb, 0, none⟩), .pointer (some ⟨sb, so, none⟩)] w (LPost X H nx w s (callI X.ks X.k H s)) := by
  by_cases hb : s.at_ < 0 ∨ (X.k.insts.length : Int) ≤ s.at_
  · exact call_bad X hE H nx w hS hG s sb so ov cv av hA hk hb
  · obtain ⟨j, hj⟩ := Int.eq_ofNat_of_zero_le (show 0 ≤ s.at_ by omega)
    exact call_in X hE H nx w hS hG s sb so ov cv av hA hk j (by omega) hj

end Go.Proofs.YtmglbkndjnflkaaGreatDoor
