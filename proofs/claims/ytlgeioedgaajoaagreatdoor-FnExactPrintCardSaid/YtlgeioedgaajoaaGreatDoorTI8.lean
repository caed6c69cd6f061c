import Derived.Test.YtlgeioedgaajoaaGreatDoorTI7
namespace Go.Proofs.YtlgeioedgaajoaaGreatDoor
open Go.RowKit
set_option linter.unusedSimpArgs false
set_option linter.unusedVariables false

theorem decls_bx {w0 w : World} {o : Obj} (xs : List DVar) (a : Option Addr) (cp : Nat) (hv : SlAt 3 48 RVar 0 w0 (.slice a xs.length cp) xs) (hvb : ∀ x, x ∈ xs → varB x = true) (hl : xs.length ≤ 500)
    (hout : ∀ w1, Below (w.heap.size + 1) (w.alloc o) w1 → Below w0.heap.size w0 w1) (w' : World) (h : Hid (Below (w.heap.size + 1) (w.alloc o) w')) :
    Calls Tryz.prog 32 #[.slice a xs.length cp] w' fun e w1 => e = .returned (.string (jnT Lsemi (xs.map dlT))) ∧ Hid (Below (w.heap.size + 1) (w.alloc o) w1) := by
  refine (declsText_ok xs _ w' (hv.stays RVar_kept (hout _ (unhide h))) hvb hl).mono ?_
  rintro e w1 ⟨rfl, hb⟩
  exact ⟨rfl, box_thru (unhide h) hb⟩

set_option maxRecDepth 20000 in
set_option maxHeartbeats 8000000 in
theorem writeNode_ok (w0 : World) (b : Nat) (hE : Env w0) (n : DNode) (hnb : nodeB n = true) (cs : List Value) (hR : RNode 0 w0 cs n)
    (w : World) (s : ByteArray) (hst : St w0 b s w) (hsz : s.size ≤ 50000000000000) :
    Calls Tryz.prog 16 #[.pointer (some ⟨b, 0, none⟩), .agg cs.toArray] w fun r w' => r = .returned (.tuple #[]) ∧ St w0 b (s ++ ndT n) w' ∧ BKeeps b w w' := by
  obtain ⟨vi, vo, vv, ve, rfl, hnl, hins, houts, hvars, heqs⟩ := hR
  have hnsz : n.name.size ≤ 40 := name_size _ ((node_iff _).1 hnb).2.1
  obtain ⟨hv1, hv2, hv3⟩ := node_vars hnb
  have hvl := ((node_iff _).1 hnb).1
  have hzI := dls_size n.ins hv1 (by omega)
  have hzO := dls_size n.outs hv2 (by omega)
  have hzV := dls_size n.vars hv3 (by omega)
  have HEQ := hide (node_eqs hnb)
  have HEZ := hide (fun j hj => eqs_size hnb j hj)
  have HND : Hid (ndT n = hdT n ++ (vrT n ++ (Llet ++ (catTo eqT n.eqs n.eqs.length ++ Ltel)))) := rfl
  have HHD : Hid (hdT n = Lnode ++ (n.name ++ (Lop ++ (jnT Lsemi (n.ins.map dlT) ++ (Lret ++ (jnT Lsemi (n.outs.map dlT) ++ Lcln)))))) := rfl
  have HVR : Hid (vrT n = if n.vars.length = 0 then ByteArray.empty else Lvar ++ (jnT Lsemi (n.vars.map dlT) ++ Lend)) := rfl
  generalize ndT n = nT at *
  generalize hdT n = hT at *
  generalize vrT n = vT at *
  obtain ⟨nm, ins, outs, vars, eqs⟩ := n
  simp only at *
  obtain ⟨ia, ic, rfl⟩ := hins.shape
  obtain ⟨oa, oc, rfl⟩ := houts.shape
  obtain ⟨va, vc, rfl⟩ := hvars.shape
  obtain ⟨ea, ec, rfl⟩ := heqs.shape
  have hP0 : Below w.heap.size w (w.alloc (.cells #[.string nm, .slice ia ins.length ic, .slice oa outs.length oc, .slice va vars.length vc, .slice ea eqs.length ec] 38)) := (Below.refl _ _).alloc (Nat.le_refl _) _
  have HP0 := hide hP0
  have HBX := hide (blk_box w #[.string nm, .slice ia ins.length ic, .slice oa outs.length oc, .slice va vars.length vc, .slice ea eqs.length ec] 38)
  have HST0 := hide (hst.on hP0)
  have HB0d : Hid (Below (w.heap.size + 1) (w.alloc (.cells #[.string nm, .slice ia ins.length ic, .slice oa outs.length oc, .slice va vars.length vc, .slice ea eqs.length ec] 38)) (w.alloc (.cells #[.string nm, .slice ia ins.length ic, .slice oa outs.length oc, .slice va vars.length vc, .slice ea eqs.length ec] 38)).drew) := (Below.refl _ _).drew
  have HOUT : Hid (∀ w1, Below (w.heap.size + 1) (w.alloc (.cells #[.string nm, .slice ia ins.length ic, .slice oa outs.length oc, .slice va vars.length vc, .slice ea eqs.length ec] 38)) w1 → Below w0.heap.size w0 w1) := fun w1 h => (unhide HST0).old.trans (h.mono (Nat.le_trans hst.old.size (Nat.le_succ _)))
  have HON : Hid (∀ w1, Below (w.heap.size + 1) (w.alloc (.cells #[.string nm, .slice ia ins.length ic, .slice oa outs.length oc, .slice va vars.length vc, .slice ea eqs.length ec] 38)) w1 → Below (w.alloc (.cells #[.string nm, .slice ia ins.length ic, .slice oa outs.length oc, .slice va vars.length vc, .slice ea eqs.length ec] 38)).heap.size (w.alloc (.cells #[.string nm, .slice ia ins.length ic, .slice oa outs.length oc, .slice va vars.length vc, .slice ea eqs.length ec] 38)) w1) := fun w1 h => by simpa using h
  have HDI := hide (decls_bx ins ia ic hins hv1 (by omega) (unhide HOUT))
  have HDO := hide (decls_bx outs oa oc houts hv2 (by omega) (unhide HOUT))
  have HDV0 := hide (fun w' (h : Below w0.heap.size w0 w') => declsText_ok vars _ w' (hvars.stays RVar_kept h) hv3 (by omega))
  have HES := hide heqs
  have hel : eqs.length ≤ 500 := by omega
  clear hins houts hvars heqs hv1 hv2 hv3 hnb hnl hP0
  generalize jnT Lsemi (ins.map dlT) = jI at *
  generalize jnT Lsemi (outs.map dlT) = jO at *
  generalize jnT Lsemi (vars.map dlT) = jV at *
  have z1 : Lnode.size = 5 := rfl
  have z2 : Lop.size = 1 := rfl
  have z3 : Lret.size = 11 := rfl
  have z4 : Lcln.size = 2 := rfl
  have z5 : Lvar.size = 4 := rfl
  have z6 : Lend.size = 2 := rfl
  have z7 : Llet.size = 4 := rfl
  have z8 : Ltel.size = 4 := rfl
  have HWS : Hid (∀ w', Hid (Below (w.heap.size + 1) (w.alloc (.cells #[.string nm, .slice ia ins.length ic, .slice oa outs.length oc, .slice va vars.length vc, .slice ea eqs.length ec] 38)) w') → Calls Tryz.prog 31 #[.pointer (some ⟨b, 0, none⟩), .string (Lnode ++ nm ++ Lop ++ jI ++ Lret ++ jO ++ Lcln)] w' fun e w'' => e = .returned (.tuple #[.int .i64 (Lnode ++ nm ++ Lop ++ jI ++ Lret ++ jO ++ Lcln).size, .nilIface]) ∧ Hid (St w0 b (s ++ (Lnode ++ nm ++ Lop ++ jI ++ Lret ++ jO ++ Lcln)) w'') ∧ Hid (BKeeps b (w.alloc (.cells #[.string nm, .slice ia ins.length ic, .slice oa outs.length oc, .slice va vars.length vc, .slice ea eqs.length ec] 38)) w'')) := fun w' h => by
    refine (writeString_ok (Lnode ++ nm ++ Lop ++ jI ++ Lret ++ jO ++ Lcln) ((unhide HST0).on (unhide HON w' (unhide h))) (by simp only [ba_size]; omega)).mono ?_
    rintro e w'' ⟨rfl, h1, h2⟩
    exact ⟨rfl, h1, (kept_below (unhide HON w' (unhide h))).trans h2⟩
  have hS1 : (s ++ (Lnode ++ nm ++ Lop ++ jI ++ Lret ++ jO ++ Lcln)).size ≤ 50000001000000 := by simp only [ba_size]; omega
  have HSQ : Hid (s ++ hT = s ++ (Lnode ++ nm ++ Lop ++ jI ++ Lret ++ jO ++ Lcln)) := by
    show s ++ hT = s ++ (Lnode ++ nm ++ Lop ++ jI ++ Lret ++ jO ++ Lcln)
    rw [unhide HHD]
    simp only [ba_assoc]
  have zt : (Lnode ++ nm ++ Lop ++ jI ++ Lret ++ jO ++ Lcln).size ≤ 1000000 := by simp only [ba_size]; omega
  have q0 : ¬ (9223372036854775807 < 5 + nm.size) := by omega
  have q1 : ¬ (9223372036854775807 < 5 + nm.size + 1) := by omega
  have q2 : ¬ (9223372036854775807 < 5 + nm.size + 1 + jI.size) := by omega
  have q3 : ¬ (9223372036854775807 < 5 + nm.size + 1 + jI.size + 11) := by omega
  have q4 : ¬ (9223372036854775807 < 5 + nm.size + 1 + jI.size + 11 + jO.size) := by omega
  have q5 : ¬ (9223372036854775807 < 5 + nm.size + 1 + jI.size + 11 + jO.size + 2) := by omega
  clear hst HHD
  go_enter Tryz.func16, Tryz.ntmps16
  go_wp2_with fail
  go_region_held3 (fun w' => w'.cell? ⟨w.heap.size, 0, none⟩ = some (.string nm) ∧ w'.cell? ⟨w.heap.size, 1, none⟩ = some (.slice ia ins.length ic) ∧ w'.cell? ⟨w.heap.size, 2, none⟩ = some (.slice oa outs.length oc)) (go_keep) (first | (go_at_call 32; refine (unhide HDI _ HB0d).mono ?_; rintro e w2 ⟨rfl, HB2⟩; have kk0 : w2.cell? ⟨w.heap.size, 0, none⟩ = some (.string nm) := (box_cell (B := 0) (unhide HB2) 0).trans rfl; have kk1 : w2.cell? ⟨w.heap.size, 1, none⟩ = some (.slice ia ins.length ic) := (box_cell (B := 0) (unhide HB2) 1).trans rfl; have kk2 : w2.cell? ⟨w.heap.size, 2, none⟩ = some (.slice oa outs.length oc) := (box_cell (B := 0) (unhide HB2) 2).trans rfl; clear HDI) | (go_at_call 32; refine (unhide HDO _ HB2).mono ?_; rintro e w3 ⟨rfl, HB3⟩; have kk0 : w3.cell? ⟨w.heap.size, 0, none⟩ = some (.string nm) := (box_cell (B := 0) (unhide HB3) 0).trans rfl; have kk1 : w3.cell? ⟨w.heap.size, 1, none⟩ = some (.slice ia ins.length ic) := (box_cell (B := 0) (unhide HB3) 1).trans rfl; have kk2 : w3.cell? ⟨w.heap.size, 2, none⟩ = some (.slice oa outs.length oc) := (box_cell (B := 0) (unhide HB3) 2).trans rfl; clear HDO) | (go_at_call 31; refine (unhide HWS _ HB3).mono ?_; rintro e w4 ⟨rfl, hst4, hk4⟩; have HBX4 := (unhide HBX).kept (unhide HST0) (unhide hk4) (by decide); have kk0 : w4.cell? ⟨w.heap.size, 0, none⟩ = some (.string nm) := HBX4.cell (i := 0) rfl; have kk1 : w4.cell? ⟨w.heap.size, 1, none⟩ = some (.slice ia ins.length ic) := HBX4.cell (i := 1) rfl; have kk2 : w4.cell? ⟨w.heap.size, 2, none⟩ = some (.slice oa outs.length oc) := HBX4.cell (i := 2) rfl; clear HWS))
  have HBX4' := hide HBX4
  have k3 : w4.cell? ⟨w.heap.size, 3, none⟩ = some (.slice va vars.length vc) := HBX4.cell (i := 3) rfl
  have k4 : w4.cell? ⟨w.heap.size, 4, none⟩ = some (.slice ea eqs.length ec) := HBX4.cell (i := 4) rfl
  clear kk0 kk1 kk2 HBX4
  clear q0 q1 q2 q3 q4 q5
  have HK4 : Hid (BKeeps b w w4) := (kept_below (unhide HP0)).trans (unhide hk4)
  by_cases hvz : vars.length = 0
  · rw [if_pos hvz] at HVR
    have HC5 := hide (writeString_ok Llet (unhide hst4) (by omega))
    obtain ⟨pre, hpre⟩ : ∃ p, p = s ++ (Lnode ++ nm ++ Lop ++ jI ++ Lret ++ jO ++ Lcln) ++ Llet := ⟨_, rfl⟩
    have hprz : pre.size ≤ 50000002000000 := by
      rw [hpre, ba_size]
      omega
    have HFIN : Hid (s ++ nT = pre ++ catTo eqT eqs eqs.length ++ Ltel) := by
      show s ++ nT = pre ++ catTo eqT eqs eqs.length ++ Ltel
      rw [unhide HND, unhide HVR, ba_nil', ← ba_assoc, unhide HSQ, hpre]
      simp only [ba_assoc]
    rw [← hpre] at HC5
    clear hpre HND HVR HSQ hS1 zt HDV0
    generalize vars.length = nv at *
    subst hvz
    go_wp2_with fail
    refine (unhide HC5).mono ?_
    rintro e w5 ⟨rfl, hst5, hk5⟩
    have HSTL := hide hst5
    have HKL : Hid (BKeeps b w w5) := (unhide HK4).trans hk5
    have k5 : w5.cell? ⟨w.heap.size, 4, none⟩ = some (.slice ea eqs.length ec) := ((unhide HBX4').kept (unhide hst4) hk5 (by decide)).cell (i := 4) rfl
    clear hst5 hk5 k4 k3
    go_wp2
    go_loopg [38] eqs.length (fun g i wr => ∃ (j : Nat), j ≤ eqs.length ∧ g = eqs.length - j ∧ i = .int .i64 j ∧ St w0 b (pre ++ catTo eqT eqs j) wr ∧ BKeeps b w wr)
    case atStart => exact ⟨0, Nat.zero_le _, by omega, rfl, by rw [catTo_zero, ba_nil]; exact unhide HSTL, unhide HKL⟩
    case round =>
      obtain ⟨j, hj, hg, rfl, hstj, hkj⟩ := hrel
      rename World => wM
      have HG := hide hg
      have HSTJ := hide hstj
      have HKJ := hide hkj
      clear hg hstj hkj
      have hzj := unhide HEZ j hj
      by_cases hlt : j < eqs.length
      · obtain ⟨bb, oo, cs, hbo, _, hbb, hcs, hc0, hR⟩ := (unhide HES).el j hlt
        subst hbo
        have hc : ∀ i (hi : i < cs.length), wM.cell? ⟨bb, oo + j * 4 + i, none⟩ = some cs[i] := fun i hi => by rw [(unhide HSTJ).old.cell (p := ⟨bb, _, none⟩) hbb]; exact hc0 i hi
        obtain ⟨l, c, v, rfl, hcz, hl1, hc1, hv1⟩ := hR
        have c0 := hc 0 (by simp)
        have c1 := hc 1 (by simp)
        have c2 := hc 2 (by simp)
        have c3 := hc 3 (by simp)
        simp only [Nat.mul_one, Nat.add_zero, List.getElem_cons_zero, List.getElem_cons_succ] at c0 c1 c2 c3
        have heb := unhide HEQ eqs[j] (List.getElem_mem hlt)
        have hP1 : Below wM.heap.size wM (wM.alloc (.cells #[l, c, .string eqs[j].call, v] 45)) := (Below.refl _ _).alloc (Nat.le_refl _) _
        have HP1 := hide hP1
        have HC1 := hide (writeEquation_ok w0 b hE eqs[j] heb l c v hl1 hc1 hv1 _ _ ((unhide HSTJ).on hP1) (by rw [ba_size]; omega))
        have HTE := hide (catTo_succ eqT eqs j hlt)
        have HAS : Hid (pre ++ catTo eqT eqs (j + 1) = pre ++ catTo eqT eqs j ++ eqT eqs[j]) := by
          show pre ++ catTo eqT eqs (j + 1) = pre ++ catTo eqT eqs j ++ eqT eqs[j]
          rw [unhide HTE, ba_assoc]
        obtain ⟨la, lc, rfl⟩ := hl1.shape
        obtain ⟨ca, cc, rfl⟩ := hc1.shape
        obtain ⟨xa, xc, rfl⟩ := hv1.shape
        clear hc hc0 hcs hcz hl1 hc1 hv1 heb hP1 HTE
        generalize catTo eqT eqs j = cj at *
        generalize eqs[j] = eq at *
        generalize eqT eq = te at *
        obtain ⟨lhs, code, call, args⟩ := eq
        simp only at *
        go_wp2_with fail
        refine (unhide HC1).mono ?_
        rintro e w6 ⟨rfl, hst6, hk6⟩
        go_wp2
        go_roundg (eqs.length - (j + 1))
        case measure => have := unhide HG; omega
        case rel => exact ⟨j + 1, by omega, rfl, by go_num, by rw [unhide HAS]; exact hst6, ((unhide HKJ).trans (kept_below (unhide HP1))).trans hk6⟩
      · have e : j = eqs.length := by omega
        subst e
        have HC1 := hide (writeString_ok Ltel (unhide HSTJ) (by rw [ba_size]; omega))
        generalize hCQ : catTo eqT eqs eqs.length = ce at *
        have HCQ := hide hCQ
        clear hCQ
        go_wp2_with fail
        refine (unhide HC1).mono ?_
        rintro e w6 ⟨rfl, hst6, hk6⟩
        go_wp2
        go_end0
        exact ⟨rfl, by rw [unhide HFIN]; exact hst6, (unhide HKJ).trans hk6⟩
  · rw [if_neg hvz] at HVR
    have hvp : 0 < vars.length := by omega
    have HC4 := hide (unhide HDV0 w4 (unhide hst4).old)
    obtain ⟨pre, hpre⟩ : ∃ p, p = s ++ (Lnode ++ nm ++ Lop ++ jI ++ Lret ++ jO ++ Lcln) ++ (Lvar ++ jV ++ Lend) ++ Llet := ⟨_, rfl⟩
    have hprz : pre.size ≤ 50000002000000 := by
      rw [hpre]
      rw [ba_size, ba_size (s ++ (Lnode ++ nm ++ Lop ++ jI ++ Lret ++ jO ++ Lcln))]
      simp only [ba_size (Lvar ++ jV), ba_size Lvar]
      omega
    have HFIN : Hid (s ++ nT = pre ++ catTo eqT eqs eqs.length ++ Ltel) := by
      show s ++ nT = pre ++ catTo eqT eqs eqs.length ++ Ltel
      rw [unhide HND, unhide HVR, ← ba_assoc, unhide HSQ, hpre]
      simp only [ba_assoc]
    have HPRE := hide hpre
    clear hpre HND HVR HSQ zt
    generalize s ++ (Lnode ++ nm ++ Lop ++ jI ++ Lret ++ jO ++ Lcln) = S at *
    go_wp2_with fail
    refine (unhide HC4).mono ?_
    rintro e w5 ⟨rfl, hb5⟩
    have HB5 := hide hb5
    have HST5 := hide ((unhide hst4).on hb5)
    have HBX5 := hide ((unhide HBX4').below hb5 (unhide HBX4').lt)
    have HC6 := hide (writeString_ok (Lvar ++ jV ++ Lend) (unhide HST5) (by simp only [ba_size]; omega))
    clear hb5 HC4 k3 k4
    go_wp2_with fail
    refine (unhide HC6).mono ?_
    rintro e w6 ⟨rfl, hst6, hk6⟩
    have HST6 := hide hst6
    have HK6 : Hid (BKeeps b w w6) := ((unhide HK4).trans (kept_below (unhide HB5))).trans hk6
    have HBX6 := hide ((unhide HBX5).kept (unhide HST5) hk6 (by decide))
    have HC7 := hide (writeString_ok Llet hst6 (by simp only [ba_size]; omega))
    rw [← unhide HPRE] at HC7
    clear hst6 hk6 HC6 HPRE
    go_wp2_with fail
    refine (unhide HC7).mono ?_
    rintro e w7 ⟨rfl, hst7, hk7⟩
    have HSTL := hide hst7
    have HKL : Hid (BKeeps b w w7) := (unhide HK6).trans hk7
    have k5 : w7.cell? ⟨w.heap.size, 4, none⟩ = some (.slice ea eqs.length ec) := ((unhide HBX6).kept (unhide HST6) hk7 (by decide)).cell (i := 4) rfl
    clear hst7 hk7 hS1
    go_wp2
    go_loopg [38] eqs.length (fun g i wr => ∃ (j : Nat), j ≤ eqs.length ∧ g = eqs.length - j ∧ i = .int .i64 j ∧ St w0 b (pre ++ catTo eqT eqs j) wr ∧ BKeeps b w wr)
    case atStart => exact ⟨0, Nat.zero_le _, by omega, rfl, by rw [catTo_zero, ba_nil]; exact unhide HSTL, unhide HKL⟩
    case round =>
      obtain ⟨j, hj, hg, rfl, hstj, hkj⟩ := hrel
      rename World => wM
      have HG := hide hg
      have HSTJ := hide hstj
      have HKJ := hide hkj
      clear hg hstj hkj
      have hzj := unhide HEZ j hj
      by_cases hlt : j < eqs.length
      · obtain ⟨bb, oo, cs, hbo, _, hbb, hcs, hc0, hR⟩ := (unhide HES).el j hlt
        subst hbo
        have hc : ∀ i (hi : i < cs.length), wM.cell? ⟨bb, oo + j * 4 + i, none⟩ = some cs[i] := fun i hi => by rw [(unhide HSTJ).old.cell (p := ⟨bb, _, none⟩) hbb]; exact hc0 i hi
        obtain ⟨l, c, v, rfl, hcz, hl1, hc1, hv1⟩ := hR
        have c0 := hc 0 (by simp)
        have c1 := hc 1 (by simp)
        have c2 := hc 2 (by simp)
        have c3 := hc 3 (by simp)
        simp only [Nat.mul_one, Nat.add_zero, List.getElem_cons_zero, List.getElem_cons_succ] at c0 c1 c2 c3
        have heb := unhide HEQ eqs[j] (List.getElem_mem hlt)
        have hP1 : Below wM.heap.size wM (wM.alloc (.cells #[l, c, .string eqs[j].call, v] 45)) := (Below.refl _ _).alloc (Nat.le_refl _) _
        have HP1 := hide hP1
        have HC1 := hide (writeEquation_ok w0 b hE eqs[j] heb l c v hl1 hc1 hv1 _ _ ((unhide HSTJ).on hP1) (by rw [ba_size]; omega))
        have HTE := hide (catTo_succ eqT eqs j hlt)
        have HAS : Hid (pre ++ catTo eqT eqs (j + 1) = pre ++ catTo eqT eqs j ++ eqT eqs[j]) := by
          show pre ++ catTo eqT eqs (j + 1) = pre ++ catTo eqT eqs j ++ eqT eqs[j]
          rw [unhide HTE, ba_assoc]
        obtain ⟨la, lc, rfl⟩ := hl1.shape
        obtain ⟨ca, cc, rfl⟩ := hc1.shape
        obtain ⟨xa, xc, rfl⟩ := hv1.shape
        clear hc hc0 hcs hcz hl1 hc1 hv1 heb hP1 HTE
        generalize catTo eqT eqs j = cj at *
        generalize eqs[j] = eq at *
        generalize eqT eq = te at *
        obtain ⟨lhs, code, call, args⟩ := eq
        simp only at *
        go_wp2_with fail
        refine (unhide HC1).mono ?_
        rintro e w6 ⟨rfl, hst6, hk6⟩
        go_wp2
        go_roundg (eqs.length - (j + 1))
        case measure => have := unhide HG; omega
        case rel => exact ⟨j + 1, by omega, rfl, by go_num, by rw [unhide HAS]; exact hst6, ((unhide HKJ).trans (kept_below (unhide HP1))).trans hk6⟩
      · have e : j = eqs.length := by omega
        subst e
        have HC1 := hide (writeString_ok Ltel (unhide HSTJ) (by rw [ba_size]; omega))
        generalize hCQ : catTo eqT eqs eqs.length = ce at *
        have HCQ := hide hCQ
        clear hCQ
        go_wp2_with fail
        refine (unhide HC1).mono ?_
        rintro e w6 ⟨rfl, hst6, hk6⟩
        go_wp2
        go_end0
        exact ⟨rfl, by rw [unhide HFIN]; exact hst6, (unhide HKJ).trans hk6⟩

end Go.Proofs.YtlgeioedgaajoaaGreatDoor
