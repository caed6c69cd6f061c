import Derived.Test.YtlgeioedgaajoaaGreatDoorTS7
import Derived.Test.YtlgeioedgaajoaaGreatDoorSpecShape
namespace Go.Proofs.YtlgeioedgaajoaaGreatDoor
open Go.RowKit
set_option linter.unusedSimpArgs false
set_option linter.unusedVariables false

theorem decls_box {w wN : World} {o : Obj} (xs : List DVar) (a : Option Addr) (cp : Nat) (hv : SlAt 3 48 RVar 0 w (.slice a xs.length cp) xs) (hvb : ∀ x, x ∈ xs → varB x = true) (hl : xs.length ≤ 500)
    (hout : ∀ w1, Below (wN.heap.size + 1) (wN.alloc o) w1 → Below w.heap.size w w1) (w' : World) (h : Hid (Below (wN.heap.size + 1) (wN.alloc o) w')) :
    Calls Tryz.prog 12 #[.slice a xs.length cp] w' fun e w1 => ∃ b n c, e = .returned (.slice b n c) ∧ Hid (SlAt 1 16 RStr 0 w1 (.slice b n c) (xs.map dlT)) ∧ Hid (Below (wN.heap.size + 1) (wN.alloc o) w1) := by
  refine (l1Decls_ok xs _ w' (hv.stays RVar_kept (hout _ (unhide h))) hvb hl).mono ?_
  rintro e w1 ⟨v, rfl, hS, hb⟩
  obtain ⟨b, c, rfl⟩ := hS.shape
  exact ⟨b, _, c, rfl, hS, box_thru (unhide h) hb⟩
theorem join_dl (xs : List DVar) (v : Value) (w : World) (hS : Hid (SlAt 1 16 RStr 0 w v (xs.map dlT))) (hvb : ∀ x, x ∈ xs → varB x = true) (hl : xs.length ≤ 500) :
    Calls Tryz.prog 11 #[v, .string ⟨#[59, 32]⟩] w fun e w' => e = .returned (.string (jnT Lsemi (xs.map dlT))) ∧ w' = w :=
  l1Join_ok Lsemi (xs.map dlT) v w (unhide hS) (by decide) (fun x hx => by
    obtain ⟨y, hy, rfl⟩ := List.mem_map.1 hx
    have := dlT_size y (hvb y hy)
    omega) (by rw [List.length_map]; omega)
theorem join_lhs (e : DEq) (v : Value) (w : World) (hS : SlAt 1 16 RStr 0 w v e.lhs) (he : eqB e = true) :
    Calls Tryz.prog 11 #[v, .string ⟨#[44, 32]⟩] w fun r w' => r = .returned (.string (jnT Lcomma e.lhs)) ∧ w' = w :=
  l1Join_ok Lcomma e.lhs v w hS (by decide) (fun x hx => by
    have := name_size x (List.all_eq_true.1 ((eq_iff e).1 he).2.1 x hx)
    omega) (by have := ((eq_iff e).1 he).1; omega)
theorem text_code (code : List DItem) (hcd : cdB code = true) (v : Value) (w : World) (hv : SlAt 3 32 RItem 0 w v code) :
    Calls Tryz.prog 13 #[v, .int .i64 (code.length : Int)] w (Ans (.string (cdT code)) w) := by
  have hc := cdT_ch hcd
  rw [← opT_ch hc]
  exact l1Text_ok code v (cd_it hcd) (cd_len hcd).2 code.length ⟨_, _, hc⟩ w hv
theorem join_args (al : List (List DItem)) (v : Value) (w : World) (hS : Hid (SlAt 1 16 RStr 0 w v (al.map cdT))) (hcd : ∀ a, a ∈ al → cdB a = true) (hl : al.length ≤ 500) :
    Calls Tryz.prog 11 #[v, .string ⟨#[44, 32]⟩] w fun r w' => r = .returned (.string (jnT Lcomma (al.map cdT))) ∧ w' = w :=
  l1Join_ok Lcomma (al.map cdT) v w (unhide hS) (by decide) (fun x hx => by
    obtain ⟨y, hy, rfl⟩ := List.mem_map.1 hx
    have := cdT_size (hcd y hy)
    omega) (by rw [List.length_map]; omega)

def inT (pre : ByteArray) (eqs : List DEq) (j : Nat) : ByteArray := pre ++ catTo eqT eqs j
theorem inT_zero (pre : ByteArray) (eqs : List DEq) : inT pre eqs 0 = pre := by rw [inT, catTo_zero, ba_nil]
theorem inT_succ (pre : ByteArray) (eqs : List DEq) (j : Nat) (h : j < eqs.length) : inT pre eqs (j + 1) = inT pre eqs j ++ eqT eqs[j] := by rw [inT, inT, catTo_succ eqT eqs j h, ba_assoc]

theorem SlAt.el {α : Type} {sz byt lo : Nat} {R : Nat → World → List Value → α → Prop} {w : World} {a : Option Addr} {n cap : Nat} {xs : List α} (h : SlAt sz byt R lo w (.slice a n cap) xs) :
    ∀ i (h : i < xs.length), ∃ b o cs, a = some ⟨b, o, none⟩ ∧ lo ≤ b ∧ b < w.heap.size ∧ cs.length = sz ∧ (∀ j (hj : j < cs.length), w.cell? ⟨b, o + i * sz + j, none⟩ = some cs[j]) ∧ R lo w cs xs[i] := by
  obtain ⟨a', c', he, _, _, hx⟩ := h
  simp only [Value.slice.injEq] at he
  obtain ⟨rfl, _, _⟩ := he
  exact hx

theorem small_of (n m : Nat) (h : n ≤ m) (hm : m ≤ 9223372036854775807) : ¬ (9223372036854775807 < n) := by omega

set_option maxRecDepth 20000 in
set_option maxHeartbeats 4000000 in
theorem specPrint_ok (ns : List DNode) (v : Value) (w : World) (hv : SlAt 5 112 RNode 0 w v ns) (hsm : ∀ n, n ∈ ns → n.ins.length + n.outs.length + n.vars.length ≤ 1048576) (hsh : shapeB ns = true) :
    Calls Tryz.prog 5 #[.agg #[v]] w (Ans (.string (prT ns)) w) := by
  have HV := hide hv
  obtain ⟨a, cap, rfl, _, hn, hx⟩ := hv
  unfold Len at hn
  have HX := hide hx
  clear hx
  have HN : Hid (∀ n, n ∈ ns → nodeB n = true) := by
    have := hsh
    simp only [shapeB, Bool.and_eq_true, decide_eq_true_iff, List.all_eq_true] at this
    exact this.2
  have HPZ := hide (fun k hk => prT_size hsh k hk)
  have P0 := hide ((Below.refl w.heap.size w).alloc (Nat.le_refl _) (.cells #[.slice a ns.length cap] 29))
  have HSH := specShape_ok ns _ (w.alloc (.cells #[.slice a ns.length cap] 29)) ((unhide HV).stays RNode_kept (unhide P0)) hsm
  rw [hsh] at HSH
  have HSH := hide HSH
  have HPR : Hid (prT ns = catTo ndT ns ns.length) := rfl
  clear hsm hsh
  go_enter Tryz.func5, Tryz.ntmps5
  go_wp2_with fail
  refine (unhide HSH).mono ?_
  rintro e w1 ⟨rfl, hb1⟩
  have kp : w1.cell? ⟨w.heap.size, 0, none⟩ = some (.slice a ns.length cap) := by rw [box_cell (B := 0) (box_of hb1) 0]; rfl
  have P1 : Hid (Below w.heap.size w w1) := (unhide P0).trans (hb1.mono (unhide P0).size)
  clear hb1 HSH
  go_wp2
  go_loopg [3, 17] ns.length (fun g out i wr => ∃ (k : Nat), k ≤ ns.length ∧ g = ns.length - k ∧ i = .int .i64 k ∧ out = .string (catTo ndT ns k) ∧ Below w.heap.size w wr)
  case atStart => exact ⟨0, Nat.zero_le _, by omega, rfl, by rw [catTo_zero]; rfl, unhide P1⟩
  case round =>
    obtain ⟨k, hk, hg, rfl, rfl, hbl⟩ := hrel
    rename World => wN
    have HG := hide hg
    have HBN := hide hbl
    have hz := unhide HPZ k hk
    clear hg
    by_cases hlt : k < ns.length
    · obtain ⟨b, o, cs, hbo, _, hb, hcs, hc, hR⟩ := unhide HX k hlt
      subst hbo
      have hc : ∀ j (hj : j < cs.length), wN.cell? ⟨b, o + k * 5 + j, none⟩ = some cs[j] := fun j hj => by rw [hbl.cell (p := ⟨b, _, none⟩) hb]; exact hc j hj
      obtain ⟨vi, vo, vv, ve, rfl, hnl, hins, houts, hvars, heqs⟩ := hR
      have c0 := hc 0 (by simp)
      have c1 := hc 1 (by simp)
      have c2 := hc 2 (by simp)
      have c3 := hc 3 (by simp)
      have c4 := hc 4 (by simp)
      simp only [Nat.mul_one, Nat.add_zero, List.getElem_cons_zero, List.getElem_cons_succ] at c0 c1 c2 c3 c4
      have hnb := unhide HN ns[k] (List.getElem_mem hlt)
      have HT := catTo_succ ndT ns k hlt
      clear hc hcs
      generalize catTo ndT ns k = tk at *
      generalize ns[k] = nd at *
      obtain ⟨nm, ins, outs, vars, eqs⟩ := nd
      simp only at c0 hnl hins houts hvars heqs
      have hnsz : nm.size ≤ 40 := name_size _ ((node_iff _).1 hnb).2.1
      obtain ⟨hv1, hv2, hv3⟩ := node_vars hnb
      have hvl := ((node_iff _).1 hnb).1
      simp only at hv1 hv2 hv3 hvl
      have hzI := dls_size ins hv1 (by omega)
      have hzO := dls_size outs hv2 (by omega)
      have hzV := dls_size vars hv3 (by omega)
      have HEQ := hide (node_eqs hnb)
      have HEZ := hide (fun j hj => eqs_size hnb j hj)
      simp only at HEQ HEZ
      obtain ⟨ia, ic, rfl⟩ := hins.shape
      obtain ⟨oa, oc, rfl⟩ := houts.shape
      obtain ⟨va, vc, rfl⟩ := hvars.shape
      obtain ⟨ea, ec, rfl⟩ := heqs.shape
      have B1 := hide ((unhide HBN).trans (((Below.refl wN.heap.size wN).alloc (Nat.le_refl _) (.cells #[.string nm, .slice ia ins.length ic, .slice oa outs.length oc, .slice va vars.length vc, .slice ea eqs.length ec] 38)).mono hbl.size))
      have HB0 : Hid (Below (wN.heap.size + 1) (wN.alloc (.cells #[.string nm, .slice ia ins.length ic, .slice oa outs.length oc, .slice va vars.length vc, .slice ea eqs.length ec] 38)) (wN.alloc (.cells #[.string nm, .slice ia ins.length ic, .slice oa outs.length oc, .slice va vars.length vc, .slice ea eqs.length ec] 38))) := Below.refl _ _
      have HB0d : Hid (Below (wN.heap.size + 1) (wN.alloc (.cells #[.string nm, .slice ia ins.length ic, .slice oa outs.length oc, .slice va vars.length vc, .slice ea eqs.length ec] 38)) (wN.alloc (.cells #[.string nm, .slice ia ins.length ic, .slice oa outs.length oc, .slice va vars.length vc, .slice ea eqs.length ec] 38)).drew) := (unhide HB0).drew
      have HOUT : Hid (∀ w1, Below (wN.heap.size + 1) (wN.alloc (.cells #[.string nm, .slice ia ins.length ic, .slice oa outs.length oc, .slice va vars.length vc, .slice ea eqs.length ec] 38)) w1 → Below w.heap.size w w1) := fun w1 h => (unhide B1).trans (h.mono (Nat.le_trans hbl.size (Nat.le_succ _)))
      have HDI := hide (decls_box ins ia ic hins hv1 (by omega) (unhide HOUT))
      have HDO := hide (decls_box outs oa oc houts hv2 (by omega) (unhide HOUT))
      have HDV := hide (decls_box vars va vc hvars hv3 (by omega) (unhide HOUT))
      have HJI := hide (fun v w h => join_dl ins v w h hv1 (by omega))
      have HJO := hide (fun v w h => join_dl outs v w h hv2 (by omega))
      have HJV := hide (fun v w h => join_dl vars v w h hv3 (by omega))
      have HES := hide heqs
      have hel : eqs.length ≤ 500 := by omega
      clear hins houts hvars heqs hv1 hv2 hv3 hnb hbl hnl
      simp only [ndT, hdT, vrT] at HT
      have HT := hide HT
      generalize jnT Lsemi (ins.map dlT) = jI at *
      generalize jnT Lsemi (outs.map dlT) = jO at *
      generalize jnT Lsemi (vars.map dlT) = jV at *
      have q0 : ¬ (9223372036854775807 < 5 + nm.size) := by omega
      have q1 : ¬ (9223372036854775807 < 5 + nm.size + 1) := by omega
      have q2 : ¬ (9223372036854775807 < 5 + nm.size + 1 + jI.size) := by omega
      have q3 : ¬ (9223372036854775807 < 5 + nm.size + 1 + jI.size + 11) := by omega
      have q4 : ¬ (9223372036854775807 < 5 + nm.size + 1 + jI.size + 11 + jO.size) := by omega
      have q5 : ¬ (9223372036854775807 < 5 + nm.size + 1 + jI.size + 11 + jO.size + 2) := by omega
      have q6 : ¬ (9223372036854775807 < tk.size + (5 + nm.size + 1 + jI.size + 11 + jO.size + 2)) := by omega
      go_wp2_with fail
      go_region_held3 (fun w' => w'.cell? ⟨wN.heap.size, 0, none⟩ = some (.string nm) ∧ w'.cell? ⟨wN.heap.size, 1, none⟩ = some (.slice ia ins.length ic) ∧ w'.cell? ⟨wN.heap.size, 2, none⟩ = some (.slice oa outs.length oc)) (go_keep) (first | (go_at_call 12; refine (unhide HDI _ HB0d).mono ?_; rintro e w2 ⟨db, dn, dc, rfl, hS, HB2⟩; have kk0 : w2.cell? ⟨wN.heap.size, 0, none⟩ = some (.string nm) := (box_cell (B := 0) (unhide HB2) 0).trans rfl; have kk1 : w2.cell? ⟨wN.heap.size, 1, none⟩ = some (.slice ia ins.length ic) := (box_cell (B := 0) (unhide HB2) 1).trans rfl; have kk2 : w2.cell? ⟨wN.heap.size, 2, none⟩ = some (.slice oa outs.length oc) := (box_cell (B := 0) (unhide HB2) 2).trans rfl; have HJ := hide (unhide HJI _ w2 hS); clear HDI hS) | (go_at_call 12; refine (unhide HDO _ HB2).mono ?_; rintro e w3 ⟨db, dn, dc, rfl, hS, HB3⟩; have kk0 : w3.cell? ⟨wN.heap.size, 0, none⟩ = some (.string nm) := (box_cell (B := 0) (unhide HB3) 0).trans rfl; have kk1 : w3.cell? ⟨wN.heap.size, 1, none⟩ = some (.slice ia ins.length ic) := (box_cell (B := 0) (unhide HB3) 1).trans rfl; have kk2 : w3.cell? ⟨wN.heap.size, 2, none⟩ = some (.slice oa outs.length oc) := (box_cell (B := 0) (unhide HB3) 2).trans rfl; have HJ := hide (unhide HJO _ w3 hS); clear HDO hS) | (go_at_call 11; refine (unhide HJ).mono ?_; rintro e w9 ⟨rfl, h9⟩; obtain rfl := h9.symm; clear HJ))
      have k3 : w3.cell? ⟨wN.heap.size, 3, none⟩ = some (.slice va vars.length vc) := (box_cell (B := 0) (unhide HB3) 3).trans rfl
      have k4 : w3.cell? ⟨wN.heap.size, 4, none⟩ = some (.slice ea eqs.length ec) := (box_cell (B := 0) (unhide HB3) 4).trans rfl
      clear q0 q1 q2 q3 q4 q5 q6
      obtain ⟨zc, zs, z1, z2, z3, z4, z5, z6, z7, z8, z9⟩ := lits_size2
      have z10 : Lop.size = 1 := rfl
      clear zc zs z1 z2 z9
      by_cases hvz : vars.length = 0
      · rw [if_pos hvz] at HT
        obtain ⟨pre, hpre⟩ : ∃ p, p = tk ++ (Lnode ++ nm ++ Lop ++ jI ++ Lret ++ jO ++ Lcln) ++ Llet := ⟨_, rfl⟩
        have hprz : pre.size ≤ 20001000000000 := by
          rw [hpre]
          simp only [ba_size]
          omega
        have HPRE := hide hpre
        clear HDV HJV
        generalize vars.length = nv at *
        subst hvz
        clear hpre z3 z4 z5 z6 z7 z8 z10
        go_wp2
        go_loopg [3, 56] eqs.length (fun g out i wr => ∃ (j : Nat), j ≤ eqs.length ∧ g = eqs.length - j ∧ i = .int .i64 j ∧ out = .string (inT pre eqs j) ∧ Below w.heap.size w wr)
        case atStart => exact ⟨0, Nat.zero_le _, by omega, rfl, by rw [inT_zero, unhide HPRE]; rfl, unhide HOUT _ (unhide HB3)⟩
        case round =>
          obtain ⟨j, hj, hg, rfl, rfl, hbl⟩ := hrel
          rename World => wM
          have HG2 := hide hg
          have HBM := hide hbl
          clear hg
          have hzj : (inT pre eqs j).size ≤ 110000000000000 := by
            have := unhide HEZ j hj
            unfold inT
            rw [ba_size]
            omega
          by_cases hjl : j < eqs.length
          · obtain ⟨b2, o2, cs2, hbo2, _, hb2, hcs2, hc2, hR2⟩ := (unhide HES).el j hjl
            subst hbo2
            have hc2 : ∀ i (hi : i < cs2.length), wM.cell? ⟨b2, o2 + j * 4 + i, none⟩ = some cs2[i] := fun i hi => by rw [hbl.cell (p := ⟨b2, _, none⟩) hb2]; exact hc2 i hi
            obtain ⟨vl, vcd, vas, rfl, hcl, hlhs, hcode, hargs⟩ := hR2
            have d0 := hc2 0 (by simp)
            have d1 := hc2 1 (by simp)
            have d2 := hc2 2 (by simp)
            have d3 := hc2 3 (by simp)
            simp only [Nat.mul_one, Nat.add_zero, List.getElem_cons_zero, List.getElem_cons_succ] at d0 d1 d2 d3
            have heb := unhide HEQ eqs[j] (List.getElem_mem hjl)
            have HTE := inT_succ pre eqs j hjl
            clear hc2 hcs2 hcl
            generalize inT pre eqs j = tj at *
            generalize eqs[j] = eqn at *
            obtain ⟨lhs, code, call, args⟩ := eqn
            simp only at d2 hlhs hcode hargs
            have hzL := lhs_size heb
            have hal := ((eq_iff _).1 heb).1.2.2
            simp only at hzL hal
            obtain ⟨la, lc, rfl⟩ := hlhs.shape
            obtain ⟨ca, cc, rfl⟩ := hcode.shape
            obtain ⟨aa, ac, rfl⟩ := hargs.shape
            have B2 := hide ((unhide HBM).trans (((Below.refl wM.heap.size wM).alloc (Nat.le_refl _) (.cells #[.slice la lhs.length lc, .slice ca code.length cc, .string call, .slice aa args.length ac] 45)).mono hbl.size))
            have HJL := hide (join_lhs ⟨lhs, code, call, args⟩ (.slice la lhs.length lc) (wM.alloc (.cells #[.slice la lhs.length lc, .slice ca code.length cc, .string call, .slice aa args.length ac] 45)) (hlhs.stays RStr_kept (unhide B2)) heb)
            simp only [eqT, rhT] at HTE
            simp only at HJL
            have HMS : Hid (w.heap.size ≤ wM.heap.size) := hbl.size
            by_cases hc0 : call.size = 0
            · have hcd := eq_code heb hc0
              have HTC := hide (text_code code hcd (.slice ca code.length cc) (wM.alloc (.cells #[.slice la lhs.length lc, .slice ca code.length cc, .string call, .slice aa args.length ac] 45)) (hcode.stays RItem_kept (unhide B2)))
              have hzc := cdT_size hcd
              simp only at HTC hzc
              rw [if_pos hc0] at HTE
              have HTE := hide HTE
              have e4 := empty_yes call hc0
              have e4' := isEmpty_yes call hc0
              clear hcd heb hlhs hcode hargs hbl hc0 HJI HJO
              generalize jnT Lcomma lhs = jL at *
              generalize cdT code = tc at *
              go_wp2_with fail
              refine (unhide HJL).mono ?_
              rintro e w5 ⟨rfl, rfl⟩
              go_wp2_with fail
              refine (unhide HTC).mono ?_
              rintro e w5 ⟨rfl, hb5⟩
              have B5 : Hid (Below w.heap.size w w5) := (unhide B2).trans (hb5.mono (unhide B2).size)
              clear hb5
              go_wp2
              go_roundg (eqs.length - (j + 1))
              case measure => have := unhide HG2; omega
              case rel => exact ⟨j + 1, by omega, rfl, by go_num, by rw [unhide HTE]; simp only [ba_assoc]; rfl, unhide B5⟩
            · obtain ⟨hcn, hcds⟩ := eq_call heb hc0
              have hzA := args_size heb hc0
              have hcz := name_size _ hcn
              simp only at hcn hcds hzA hcz
              rw [if_neg hc0] at HTE
              have HTE := hide HTE
              have e4 := empty_no call hc0
              have e4' : call.toList.isEmpty = false := by
                have := e4
                cases hh : call.toList with
                | nil => rw [hh] at this; cases this
                | cons x xs => rfl
              have HCD := hide hcds
              have HAS := hide hargs
              have HB9 : Hid (Below (wM.heap.size + 1) (wM.alloc (.cells #[.slice la lhs.length lc, .slice ca code.length cc, .string call, .slice aa args.length ac] 45)) (wM.alloc (.cells #[.slice la lhs.length lc, .slice ca code.length cc, .string call, .slice aa args.length ac] 45))) := Below.refl _ _
              have HOU2 : Hid (∀ w1, Below (wM.heap.size + 1) (wM.alloc (.cells #[.slice la lhs.length lc, .slice ca code.length cc, .string call, .slice aa args.length ac] 45)) w1 → Below w.heap.size w w1) := fun w1 h => (unhide B2).trans (h.mono (Nat.le_trans hbl.size (Nat.le_succ _)))
              have O0 : Hid (OwnStrs ((wM.alloc (.cells #[.slice la lhs.length lc, .slice ca code.length cc, .string call, .slice aa args.length ac] 45)).alloc (.cells #[] 9)) (wM.heap.size + 1) (wM.heap.size + 1) 0 []) := by
                have := OwnStrs.start (wM.alloc (.cells #[.slice la lhs.length lc, .slice ca code.length cc, .string call, .slice aa args.length ac] 45)) (wM.heap.size + 1) (by simp)
                show OwnStrs _ _ _ _ _
                simpa using this
              have HB8 : Hid (Below (wM.heap.size + 1) (wM.alloc (.cells #[.slice la lhs.length lc, .slice ca code.length cc, .string call, .slice aa args.length ac] 45)) ((wM.alloc (.cells #[.slice la lhs.length lc, .slice ca code.length cc, .string call, .slice aa args.length ac] 45)).alloc (.cells #[] 9))) := (unhide HB9).alloc (by simp) _
              clear heb hlhs hcode hargs hbl hcds hcn hc0 HJI HJO
              generalize jnT Lcomma lhs = jL at *
              go_wp2_with fail
              refine (unhide HJL).mono ?_
              rintro e w5 ⟨rfl, rfl⟩
              go_wp2
              go_loopg [8, 82] args.length (fun g vv i wr => ∃ (m gb cp : Nat), m ≤ args.length ∧ g = args.length - m ∧ i = .int .i64 m ∧ vv = .slice (some ⟨gb, 0, none⟩) m cp ∧ OwnStrs wr (wM.heap.size + 1) gb cp (mapTo cdT args m) ∧ Below (wM.heap.size + 1) (wM.alloc (.cells #[.slice la lhs.length lc, .slice ca code.length cc, .string call, .slice aa args.length ac] 45)) wr)
              case atStart => exact ⟨0, wM.heap.size + 1, 0, Nat.zero_le _, by omega, rfl, rfl, by rw [mapTo_zero]; exact unhide O0, unhide HB8⟩
              case round =>
                obtain ⟨m, gb, cp, hm, hg, rfl, rfl, hown, hbl⟩ := hrel
                rename World => wA
                have HG3 := hide hg
                have HOW := hide hown
                have HBA := hide hbl
                have hgb := hown.base
                have hAs : wM.heap.size + 1 ≤ wA.heap.size := by have := hbl.size; simpa using this
                have HLEN := hide (mapTo_length cdT args m hm)
                clear hg hown
                by_cases hml : m < args.length
                · obtain ⟨b3, o3, cs3, hbo3, _, hb3, hcs3, hc3, hR3⟩ := (unhide HAS).el m hml
                  subst hbo3
                  have hwa := unhide HOU2 _ hbl
                  have hc3 : ∀ i (hi : i < cs3.length), wA.cell? ⟨b3, o3 + m * 1 + i, none⟩ = some cs3[i] := fun i hi => by rw [hwa.cell (p := ⟨b3, _, none⟩) hb3]; exact hc3 i hi
                  obtain ⟨va3, rfl, hit3⟩ := hR3
                  have f0 := hc3 0 (by simp)
                  simp only [Nat.mul_one, Nat.add_zero, List.getElem_cons_zero, List.getElem_cons_succ] at f0
                  have hcd3 := unhide HCD args[m] (List.getElem_mem hml)
                  have HTA := hide (text_code args[m] hcd3 va3 wA (hit3.stays RItem_kept hwa))
                  have HT3 := hide (mapTo_succ cdT args m hml)
                  obtain ⟨xa, xc, rfl⟩ := hit3.shape
                  clear hc3 hcs3 hit3 hcd3 hbl
                  generalize mapTo cdT args m = ys at *
                  generalize cdT args[m] = ta at *
                  generalize args[m].length = al at *
                  go_wp2_with fail
                  refine (unhide HTA).mono ?_
                  rintro e w6 ⟨rfl, hb6⟩
                  have hs6 : wA.heap.size ≤ w6.heap.size := hb6.size
                  have HO6 : Hid (OwnStrs (w6.alloc (.cells #[.string ta] 9)) (wM.heap.size + 1) gb cp ys) := (unhide HOW).below (hb6.alloc hb6.size _)
                  have HQ6 := hide ((unhide HBA).trans ((hb6.alloc hb6.size (.cells #[.string ta] 9)).mono hAs))
                  clear hb6
                  go_wp2_with (at_builtin; go_must (refine wpList_append_oneStrs _ rfl _ _ rfl (wM.heap.size + 1) gb cp ys (by rw [unhide HLEN]; rfl) (unhide HO6) w6.heap.size ta rfl (by rw [World.cell?_alloc_at _ _ _ _ (by simp)]; rfl) (by rw [unhide HLEN]; omega) (by simp; omega) ?_))
                  intro g' cap' w7 hown7 hgr7
                  have B7 := grow_below (unhide HQ6) hgr7 (by simp; omega) hgb
                  rw [← unhide HT3] at hown7
                  have HO7 := hide hown7
                  have HB7 := hide B7
                  rw [unhide HLEN]
                  clear hown7 hgr7 B7
                  go_wp2
                  go_roundg (args.length - (m + 1))
                  case measure => have := unhide HG3; omega
                  case rel => exact ⟨m + 1, g', cap', by omega, rfl, by go_num, rfl, unhide HO7, unhide HB7⟩
                · have e : m = args.length := by omega
                  have HOE : Hid (OwnStrs wA (wM.heap.size + 1) gb cp (args.map cdT)) := by
                    have := unhide HOW
                    rw [e, mapTo_all] at this
                    exact this
                  have HD := hide ((unhide HOE).at (fun x hx => ⟨rfl, by
                    obtain ⟨y, hy, rfl⟩ := List.mem_map.1 hx
                    have := cdT_size (unhide HCD y hy)
                    unfold Len
                    omega⟩) (by rw [List.length_map]; omega))
                  rw [List.length_map] at HD
                  subst e
                  have HJA := hide (fun w' (h : Hid (SlAt 1 16 RStr 0 w' (.slice (some ⟨gb, 0, none⟩) args.length cp) (args.map cdT))) => join_args args _ w' h (unhide HCD) hal)
                  have HJB := hide (unhide HJA wA.drew (hide ((unhide HD).stays RStr_kept ((Below.refl _ wA).drew))))
                  have kc : wA.cell? ⟨wM.heap.size, 2, none⟩ = some (.string call) := (box_cell (B := 0) hbl 2).trans rfl
                  have HBd : Hid (Below w.heap.size w wA.drew) := (unhide HOU2 _ hbl).drew
                  clear HOW HLEN HG3 hbl
                  generalize jnT Lcomma (args.map cdT) = jA at *
                  have s0 : ¬ (9223372036854775807 < call.size + 1) := by omega
                  have s1 : ¬ (9223372036854775807 < call.size + 1 + jA.size) := by omega
                  have s2 : ¬ (9223372036854775807 < call.size + 1 + jA.size + 1) := by omega
                  have s3 : ¬ (9223372036854775807 < tj.size + (2 + jL.size + 3) + (call.size + 1 + jA.size + 1)) := by omega
                  go_wp2_with fail
                  go_region_held3 (fun w' => w'.cell? ⟨wM.heap.size, 2, none⟩ = some (.string call)) (go_keep) (first | (go_at_call 11; refine (unhide HJB).mono ?_; rintro e w9 ⟨rfl, rfl⟩))
                  go_wp2
                  go_roundg (eqs.length - (j + 1))
                  case measure => have := unhide HG2; omega
                  case rel => exact ⟨j + 1, by omega, rfl, by go_num, by rw [unhide HTE]; simp only [ba_assoc]; rfl, unhide HBd⟩
          · have e : j = eqs.length := by omega
            subst e
            have HIE : Hid (inT pre eqs eqs.length = pre ++ catTo eqT eqs eqs.length) := rfl
            generalize inT pre eqs eqs.length = tj at *
            generalize catTo eqT eqs eqs.length = ce at *
            clear HJI HJO HES
            go_wp2
            go_roundg (ns.length - (k + 1))
            case measure => have := unhide HG; omega
            case rel => exact ⟨k + 1, by omega, rfl, by go_num, by rw [unhide HT, unhide HIE, unhide HPRE]; simp only [ba_assoc, ba_nil, ba_nil']; rfl, hbl⟩
      · rw [if_neg hvz] at HT
        obtain ⟨pre, hpre⟩ : ∃ p, p = tk ++ (Lnode ++ nm ++ Lop ++ jI ++ Lret ++ jO ++ Lcln) ++ (Lvar ++ jV ++ Lend) ++ Llet := ⟨_, rfl⟩
        have hprz : pre.size ≤ 20001000000000 := by
          rw [hpre]
          simp only [ba_size]
          omega
        have HPRE := hide hpre
        clear hpre z3 z4 z5 z6 z7 z8 z10
        go_wp2_with fail
        refine (unhide HDV _ HB3).mono ?_
        rintro e w4 ⟨db4, dn4, dc4, rfl, hS4, HB4⟩
        have k4' : w4.cell? ⟨wN.heap.size, 4, none⟩ = some (.slice ea eqs.length ec) := (box_cell (B := 0) (unhide HB4) 4).trans rfl
        have HJ4 := hide (unhide HJV _ w4 hS4)
        clear hS4
        go_wp2_with fail
        refine (unhide HJ4).mono ?_
        rintro e w9 ⟨rfl, h9⟩
        obtain rfl := h9.symm
        go_wp2
        go_loopg [3, 56] eqs.length (fun g out i wr => ∃ (j : Nat), j ≤ eqs.length ∧ g = eqs.length - j ∧ i = .int .i64 j ∧ out = .string (inT pre eqs j) ∧ Below w.heap.size w wr)
        case atStart => exact ⟨0, Nat.zero_le _, by omega, rfl, by rw [inT_zero, unhide HPRE]; rfl, unhide HOUT _ (unhide HB4)⟩
        case round =>
          obtain ⟨j, hj, hg, rfl, rfl, hbl⟩ := hrel
          rename World => wM
          have HG2 := hide hg
          have HBM := hide hbl
          clear hg
          have hzj : (inT pre eqs j).size ≤ 110000000000000 := by
            have := unhide HEZ j hj
            unfold inT
            rw [ba_size]
            omega
          by_cases hjl : j < eqs.length
          · obtain ⟨b2, o2, cs2, hbo2, _, hb2, hcs2, hc2, hR2⟩ := (unhide HES).el j hjl
            subst hbo2
            have hc2 : ∀ i (hi : i < cs2.length), wM.cell? ⟨b2, o2 + j * 4 + i, none⟩ = some cs2[i] := fun i hi => by rw [hbl.cell (p := ⟨b2, _, none⟩) hb2]; exact hc2 i hi
            obtain ⟨vl, vcd, vas, rfl, hcl, hlhs, hcode, hargs⟩ := hR2
            have d0 := hc2 0 (by simp)
            have d1 := hc2 1 (by simp)
            have d2 := hc2 2 (by simp)
            have d3 := hc2 3 (by simp)
            simp only [Nat.mul_one, Nat.add_zero, List.getElem_cons_zero, List.getElem_cons_succ] at d0 d1 d2 d3
            have heb := unhide HEQ eqs[j] (List.getElem_mem hjl)
            have HTE := inT_succ pre eqs j hjl
            clear hc2 hcs2 hcl
            generalize inT pre eqs j = tj at *
            generalize eqs[j] = eqn at *
            obtain ⟨lhs, code, call, args⟩ := eqn
            simp only at d2 hlhs hcode hargs
            have hzL := lhs_size heb
            have hal := ((eq_iff _).1 heb).1.2.2
            simp only at hzL hal
            obtain ⟨la, lc, rfl⟩ := hlhs.shape
            obtain ⟨ca, cc, rfl⟩ := hcode.shape
            obtain ⟨aa, ac, rfl⟩ := hargs.shape
            have B2 := hide ((unhide HBM).trans (((Below.refl wM.heap.size wM).alloc (Nat.le_refl _) (.cells #[.slice la lhs.length lc, .slice ca code.length cc, .string call, .slice aa args.length ac] 45)).mono hbl.size))
            have HJL := hide (join_lhs ⟨lhs, code, call, args⟩ (.slice la lhs.length lc) (wM.alloc (.cells #[.slice la lhs.length lc, .slice ca code.length cc, .string call, .slice aa args.length ac] 45)) (hlhs.stays RStr_kept (unhide B2)) heb)
            simp only [eqT, rhT] at HTE
            simp only at HJL
            have HMS : Hid (w.heap.size ≤ wM.heap.size) := hbl.size
            by_cases hc0 : call.size = 0
            · have hcd := eq_code heb hc0
              have HTC := hide (text_code code hcd (.slice ca code.length cc) (wM.alloc (.cells #[.slice la lhs.length lc, .slice ca code.length cc, .string call, .slice aa args.length ac] 45)) (hcode.stays RItem_kept (unhide B2)))
              have hzc := cdT_size hcd
              simp only at HTC hzc
              rw [if_pos hc0] at HTE
              have HTE := hide HTE
              have e4 := empty_yes call hc0
              have e4' := isEmpty_yes call hc0
              clear hcd heb hlhs hcode hargs hbl hc0 HDV HJI HJO HJV
              generalize jnT Lcomma lhs = jL at *
              generalize cdT code = tc at *
              go_wp2_with fail
              refine (unhide HJL).mono ?_
              rintro e w5 ⟨rfl, rfl⟩
              go_wp2_with fail
              refine (unhide HTC).mono ?_
              rintro e w5 ⟨rfl, hb5⟩
              have B5 : Hid (Below w.heap.size w w5) := (unhide B2).trans (hb5.mono (unhide B2).size)
              clear hb5
              go_wp2
              go_roundg (eqs.length - (j + 1))
              case measure => have := unhide HG2; omega
              case rel => exact ⟨j + 1, by omega, rfl, by go_num, by rw [unhide HTE]; simp only [ba_assoc]; rfl, unhide B5⟩
            · obtain ⟨hcn, hcds⟩ := eq_call heb hc0
              have hzA := args_size heb hc0
              have hcz := name_size _ hcn
              simp only at hcn hcds hzA hcz
              rw [if_neg hc0] at HTE
              have HTE := hide HTE
              have e4 := empty_no call hc0
              have e4' : call.toList.isEmpty = false := by
                have := e4
                cases hh : call.toList with
                | nil => rw [hh] at this; cases this
                | cons x xs => rfl
              have HCD := hide hcds
              have HAS := hide hargs
              have HB9 : Hid (Below (wM.heap.size + 1) (wM.alloc (.cells #[.slice la lhs.length lc, .slice ca code.length cc, .string call, .slice aa args.length ac] 45)) (wM.alloc (.cells #[.slice la lhs.length lc, .slice ca code.length cc, .string call, .slice aa args.length ac] 45))) := Below.refl _ _
              have HOU2 : Hid (∀ w1, Below (wM.heap.size + 1) (wM.alloc (.cells #[.slice la lhs.length lc, .slice ca code.length cc, .string call, .slice aa args.length ac] 45)) w1 → Below w.heap.size w w1) := fun w1 h => (unhide B2).trans (h.mono (Nat.le_trans hbl.size (Nat.le_succ _)))
              have O0 : Hid (OwnStrs ((wM.alloc (.cells #[.slice la lhs.length lc, .slice ca code.length cc, .string call, .slice aa args.length ac] 45)).alloc (.cells #[] 9)) (wM.heap.size + 1) (wM.heap.size + 1) 0 []) := by
                have := OwnStrs.start (wM.alloc (.cells #[.slice la lhs.length lc, .slice ca code.length cc, .string call, .slice aa args.length ac] 45)) (wM.heap.size + 1) (by simp)
                show OwnStrs _ _ _ _ _
                simpa using this
              have HB8 : Hid (Below (wM.heap.size + 1) (wM.alloc (.cells #[.slice la lhs.length lc, .slice ca code.length cc, .string call, .slice aa args.length ac] 45)) ((wM.alloc (.cells #[.slice la lhs.length lc, .slice ca code.length cc, .string call, .slice aa args.length ac] 45)).alloc (.cells #[] 9))) := (unhide HB9).alloc (by simp) _
              clear heb hlhs hcode hargs hbl hcds hcn hc0 HDV HJI HJO HJV
              generalize jnT Lcomma lhs = jL at *
              go_wp2_with fail
              refine (unhide HJL).mono ?_
              rintro e w5 ⟨rfl, rfl⟩
              go_wp2
              go_loopg [8, 82] args.length (fun g vv i wr => ∃ (m gb cp : Nat), m ≤ args.length ∧ g = args.length - m ∧ i = .int .i64 m ∧ vv = .slice (some ⟨gb, 0, none⟩) m cp ∧ OwnStrs wr (wM.heap.size + 1) gb cp (mapTo cdT args m) ∧ Below (wM.heap.size + 1) (wM.alloc (.cells #[.slice la lhs.length lc, .slice ca code.length cc, .string call, .slice aa args.length ac] 45)) wr)
              case atStart => exact ⟨0, wM.heap.size + 1, 0, Nat.zero_le _, by omega, rfl, rfl, by rw [mapTo_zero]; exact unhide O0, unhide HB8⟩
              case round =>
                obtain ⟨m, gb, cp, hm, hg, rfl, rfl, hown, hbl⟩ := hrel
                rename World => wA
                have HG3 := hide hg
                have HOW := hide hown
                have HBA := hide hbl
                have hgb := hown.base
                have hAs : wM.heap.size + 1 ≤ wA.heap.size := by have := hbl.size; simpa using this
                have HLEN := hide (mapTo_length cdT args m hm)
                clear hg hown
                by_cases hml : m < args.length
                · obtain ⟨b3, o3, cs3, hbo3, _, hb3, hcs3, hc3, hR3⟩ := (unhide HAS).el m hml
                  subst hbo3
                  have hwa := unhide HOU2 _ hbl
                  have hc3 : ∀ i (hi : i < cs3.length), wA.cell? ⟨b3, o3 + m * 1 + i, none⟩ = some cs3[i] := fun i hi => by rw [hwa.cell (p := ⟨b3, _, none⟩) hb3]; exact hc3 i hi
                  obtain ⟨va3, rfl, hit3⟩ := hR3
                  have f0 := hc3 0 (by simp)
                  simp only [Nat.mul_one, Nat.add_zero, List.getElem_cons_zero, List.getElem_cons_succ] at f0
                  have hcd3 := unhide HCD args[m] (List.getElem_mem hml)
                  have HTA := hide (text_code args[m] hcd3 va3 wA (hit3.stays RItem_kept hwa))
                  have HT3 := hide (mapTo_succ cdT args m hml)
                  obtain ⟨xa, xc, rfl⟩ := hit3.shape
                  clear hc3 hcs3 hit3 hcd3 hbl
                  generalize mapTo cdT args m = ys at *
                  generalize cdT args[m] = ta at *
                  generalize args[m].length = al at *
                  go_wp2_with fail
                  refine (unhide HTA).mono ?_
                  rintro e w6 ⟨rfl, hb6⟩
                  have hs6 : wA.heap.size ≤ w6.heap.size := hb6.size
                  have HO6 : Hid (OwnStrs (w6.alloc (.cells #[.string ta] 9)) (wM.heap.size + 1) gb cp ys) := (unhide HOW).below (hb6.alloc hb6.size _)
                  have HQ6 := hide ((unhide HBA).trans ((hb6.alloc hb6.size (.cells #[.string ta] 9)).mono hAs))
                  clear hb6
                  go_wp2_with (at_builtin; go_must (refine wpList_append_oneStrs _ rfl _ _ rfl (wM.heap.size + 1) gb cp ys (by rw [unhide HLEN]; rfl) (unhide HO6) w6.heap.size ta rfl (by rw [World.cell?_alloc_at _ _ _ _ (by simp)]; rfl) (by rw [unhide HLEN]; omega) (by simp; omega) ?_))
                  intro g' cap' w7 hown7 hgr7
                  have B7 := grow_below (unhide HQ6) hgr7 (by simp; omega) hgb
                  rw [← unhide HT3] at hown7
                  have HO7 := hide hown7
                  have HB7 := hide B7
                  rw [unhide HLEN]
                  clear hown7 hgr7 B7
                  go_wp2
                  go_roundg (args.length - (m + 1))
                  case measure => have := unhide HG3; omega
                  case rel => exact ⟨m + 1, g', cap', by omega, rfl, by go_num, rfl, unhide HO7, unhide HB7⟩
                · have e : m = args.length := by omega
                  have HOE : Hid (OwnStrs wA (wM.heap.size + 1) gb cp (args.map cdT)) := by
                    have := unhide HOW
                    rw [e, mapTo_all] at this
                    exact this
                  have HD := hide ((unhide HOE).at (fun x hx => ⟨rfl, by
                    obtain ⟨y, hy, rfl⟩ := List.mem_map.1 hx
                    have := cdT_size (unhide HCD y hy)
                    unfold Len
                    omega⟩) (by rw [List.length_map]; omega))
                  rw [List.length_map] at HD
                  subst e
                  have HJA := hide (fun w' (h : Hid (SlAt 1 16 RStr 0 w' (.slice (some ⟨gb, 0, none⟩) args.length cp) (args.map cdT))) => join_args args _ w' h (unhide HCD) hal)
                  have HJB := hide (unhide HJA wA.drew (hide ((unhide HD).stays RStr_kept ((Below.refl _ wA).drew))))
                  have kc : wA.cell? ⟨wM.heap.size, 2, none⟩ = some (.string call) := (box_cell (B := 0) hbl 2).trans rfl
                  have HBd : Hid (Below w.heap.size w wA.drew) := (unhide HOU2 _ hbl).drew
                  clear HOW HLEN HG3 hbl
                  generalize jnT Lcomma (args.map cdT) = jA at *
                  have s0 : ¬ (9223372036854775807 < call.size + 1) := by omega
                  have s1 : ¬ (9223372036854775807 < call.size + 1 + jA.size) := by omega
                  have s2 : ¬ (9223372036854775807 < call.size + 1 + jA.size + 1) := by omega
                  have s3 : ¬ (9223372036854775807 < tj.size + (2 + jL.size + 3) + (call.size + 1 + jA.size + 1)) := by omega
                  go_wp2_with fail
                  go_region_held3 (fun w' => w'.cell? ⟨wM.heap.size, 2, none⟩ = some (.string call)) (go_keep) (first | (go_at_call 11; refine (unhide HJB).mono ?_; rintro e w9 ⟨rfl, rfl⟩))
                  go_wp2
                  go_roundg (eqs.length - (j + 1))
                  case measure => have := unhide HG2; omega
                  case rel => exact ⟨j + 1, by omega, rfl, by go_num, by rw [unhide HTE]; simp only [ba_assoc]; rfl, unhide HBd⟩
          · have e : j = eqs.length := by omega
            subst e
            have HIE : Hid (inT pre eqs eqs.length = pre ++ catTo eqT eqs eqs.length) := rfl
            generalize inT pre eqs eqs.length = tj at *
            generalize catTo eqT eqs eqs.length = ce at *
            clear HDV HJI HJO HJV HES
            go_wp2
            go_roundg (ns.length - (k + 1))
            case measure => have := unhide HG; omega
            case rel => exact ⟨k + 1, by omega, rfl, by go_num, by rw [unhide HT, unhide HIE, unhide HPRE]; simp only [ba_assoc, ba_nil, ba_nil']; rfl, hbl⟩
    · have e : k = ns.length := by omega
      subst e
      generalize catTo ndT ns ns.length = tk at *
      go_wp2
      go_ret
      exact ⟨ret_str (unhide HPR).symm, hbl⟩

end Go.Proofs.YtlgeioedgaajoaaGreatDoor
