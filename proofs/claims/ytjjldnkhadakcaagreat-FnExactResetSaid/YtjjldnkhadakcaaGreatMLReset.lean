import Derived.Test.YtjjldnkhadakcaaGreatMSz
import Derived.Test.YtjjldnkhadakcaaGreatMToB
import Derived.Test.YtjjldnkhadakcaaGreatMR2
import Derived.Test.YtjjldnkhadakcaaGreatMkB
namespace Go.Proofs.YtjjldnkhadakcaaGreat
open Go.RowKit
set_option linter.unusedSimpArgs false
set_option linter.unusedVariables false

theorem sum_geC (f : DClass → Nat) (ns : List DClass) (n : DClass) (h : n ∈ ns) : f n ≤ (ns.map f).sum := by
  induction ns with
  | nil => cases h
  | cons x xs ih =>
    simp only [List.map_cons, List.sum_cons]
    rcases List.mem_cons.1 h with rfl | h
    · omega
    · have := ih h
      omega
theorem few_of (ks : List DClass) (h : wSum wClass ks ≤ 1048576) : VarsFew ks := fun i hi => by
  have h1 := sum_geC wClass ks ks[i] (List.getElem_mem hi)
  have h2 : ks[i].ins.length + ks[i].outs.length + ks[i].locs.length ≤ wClass ks[i] := by
    simp only [wClass, wSum]
    omega
  unfold wSum at h
  omega
theorem has_plans (ks : List DClass) (c : Int) : (plansB ks && decide (0 ≤ c ∧ c < (ks.length : Int))) = hasB ks c := by
  unfold hasB
  rw [← plans_mach]
  cases plansB ks
  · rfl
  · rw [Bool.true_and, Bool.true_and, Bool.eq_iff_iff, Bool.and_eq_true, decide_eq_true_iff, decide_eq_true_iff]
    constructor
    · intro h; exact ⟨by omega, h⟩
    · rintro ⟨_, h⟩; exact h
theorem implReset_at (ks : List DClass) (v : Value) (c : Int) (w : World) (hm : SlAt 7 160 RClass 0 w v ks) : Calls Tryz.prog 18 #[.agg #[v], .int .i64 c] w (WPost (stateOf ks c) w) := by
  have h := implReset_ok ks v c w hm
  rw [has_plans] at h
  exact h
theorem stateOf_len (ks : List DClass) (c : Int) : (stateOf ks c).length ≤ 1000000 := by
  unfold stateOf
  split
  · rename_i h
    have h1 := plans_of_has ks c h
    have h2 := (fok_of ks h1.1).len c.toNat (by omega)
    omega
  · simp
theorem OneTurned.below {v : Value} {w w' : World} {B : Nat} (h : OneTurned v w w') (hb : ∀ b, v.ownBlock = some b → B ≤ b) (hB : B ≤ w.heap.size) : Below B w w' := by
  obtain ⟨h1, h2, h3, h4, h5⟩ := h
  exact ⟨h1, h2, h3, h4, fun k hk => h5 k (by omega) (fun e => by have := hb k e; omega)⟩
theorem RowI.same {w w' : World} {v : Value} {n : Nat} (h : RowI w v n) (hs : ∀ g, v.ownBlock = some g → g < w.heap.size → w'.heap[g]? = w.heap[g]?) : RowI w' v n := by
  obtain ⟨a, cap, rfl, hn, hr⟩ := h
  refine ⟨a, cap, rfl, hn, fun h0 => ?_⟩
  obtain ⟨g, rfl, hrow⟩ := hr h0
  have hlt := hrow.lt
  obtain ⟨c, t, h1, h2⟩ := hrow
  exact ⟨g, rfl, c, t, (hs g rfl hlt).trans h1, h2⟩
/-- Blocks lo to hi have turned, below lo and from hi on nothing has. -/
theorem Mk.kept {lo hi B : Nat} {w w' : World} (h : Mk lo hi w w') (hB : hi ≤ B) : Kept B w.heap.size w w' := ⟨h.size, fun k h1 h2 => h.out k h2 (Or.inr (by omega))⟩

set_option maxHeartbeats 4000000 in
theorem lawReset_ok (ks : List DClass) (nd : Int) (v : Value) (w : World) (h1 : SlAt 7 160 RClass 0 w v ks) (hnd : I64 nd) :
    Calls Tryz.prog 6 #[.agg #[v], .int .i64 nd] w (Ans (.bool true) w) := by
  obtain ⟨b0, c0, rfl⟩ := h1.shape
  have H1 := hide h1
  clear h1
  have B0 := hide ((Below.refl w.heap.size w).alloc (Nat.le_refl _) (.cells #[.slice b0 ks.length c0] 24))
  go_enter Tryz.func6, Tryz.ntmps6
  go_wp2_with fail
  refine (szMachine_ok ks _ _ _ ?_ ?_ ?_).mono ?_
  · exact (unhide H1).stays RClass_kept (unhide B0)
  · omega
  · omega
  rintro e w1 ⟨r1, rfl, hr | ⟨p1, q1⟩, hb1⟩
  · subst hr
    go_wp2
    go_ret
    exact ⟨rfl, (unhide B0).trans (hb1.mono (unhide B0).size)⟩
  have HSM := hide (few_of ks (by omega))
  have HMC : Hid (wTo mClass ks ks.length ≤ 100000000) := by
    have := mClass_le ks
    refine hide ?_
    omega
  have HSP : Hid (∃ st : List Int, st.length ≤ 1000000 ∧ (∀ v w, SlAt 7 160 RClass 0 w v ks → Calls Tryz.prog 17 #[.agg #[v], .int .i64 nd] w (SlPost st w)) ∧ ∀ v w, SlAt 7 160 RClass 0 w v ks → Calls Tryz.prog 18 #[.agg #[v], .int .i64 nd] w (WPost st w)) :=
    hide ⟨stateOf ks nd, stateOf_len ks nd, fun v w h => specReset_ok ks v nd w h (unhide HSM) hnd, fun v w h => implReset_at ks v nd w h⟩
  obtain ⟨st, hst, hsp, him⟩ := unhide HSP
  have HST := hide hst
  have HSPE := hide hsp
  have HIMP := hide him
  clear hst hsp him HSP
  have HBX1 := hide (box_of hb1)
  have B1 : Hid (Below w.heap.size w w1) := (unhide B0).trans (hb1.mono (unhide B0).size)
  have k1 : w1.cell? ⟨w.heap.size, 0, none⟩ = some (.slice b0 ks.length c0) := by rw [box_cell (B := 0) (unhide HBX1) 0]; rfl
  clear hb1
  go_wp2_with fail
  refine (toMachine_ok ks _ _ ((unhide H1).stays RClass_kept (unhide B1))).mono ?_
  rintro e w2 ⟨cs2, rfl, ⟨vx, rfl, hS2⟩, hb2⟩
  have HS2 := hide (hS2.lower RClass_lowers (Nat.zero_le _))
  have B2 : Hid (Below w.heap.size w w2) := (unhide B1).trans (hb2.mono (unhide B1).size)
  have HBX2 : Hid (Below (w.heap.size + 1) _ w2) := (unhide HBX1).trans (hb2.mono (by have := (unhide HBX1).size; simp at this; omega))
  clear hS2 hb2 k1
  go_wp2_with fail
  refine (unhide HSPE _ _ (unhide HS2)).mono ?_
  rintro e w3 ⟨rv, rfl, hRV, hb3⟩
  obtain ⟨ra, rc, rfl⟩ := hRV.shape
  have HRV := hide hRV
  have B3 : Hid (Below w.heap.size w w3) := (unhide B2).trans (hb3.mono (unhide B2).size)
  have HBX3 : Hid (Below (w.heap.size + 1) _ w3) := (unhide HBX2).trans (hb3.mono (by have := (unhide HBX2).size; simp at this; omega))
  have k3 : w3.cell? ⟨w.heap.size, 0, none⟩ = some (.slice b0 ks.length c0) := by rw [box_cell (B := 0) (unhide HBX3) 0]; rfl
  have hz3 : w.heap.size < w3.heap.size := by have := (unhide HBX3).size; simp at this; omega
  have HK3 := hide k3
  clear hb3 hRV
  go_wp2_with fail
  refine (toMachineF_ok ks _ _ ((unhide H1).stays RClass_kept (unhide B3))).mono ?_
  rintro e w4 ⟨cs4, rfl, ⟨vy, rfl, hS4⟩, hb4⟩
  obtain ⟨by4, cy4, rfl⟩ := hS4.shape
  have HMA := hide (MAt.of hb4.freeIn (KClass_of hb4.freeIn) hS4)
  have HS4 := hide (hS4.lower RClass_lowers (Nat.zero_le _))
  have H34 := hide hb4.below
  have BY := hide ((Below.refl w4.heap.size w4).alloc (Nat.le_refl _) (.cells #[.slice by4 ks.length cy4] 29))
  have hz4 : w3.heap.size ≤ w4.heap.size := hb4.below.size
  clear hS4 hb4 k3
  go_wp2_with fail
  refine (unhide HIMP _ _ ((unhide HS4).stays RClass_kept (unhide BY))).mono ?_
  rintro e w5 ⟨gv, rfl, hG5, hI5, hO5, hb5⟩
  obtain ⟨ga, gc, rfl⟩ := hG5.shape
  have HBY5 := hide (box_of hb5)
  have H45 : Hid (Below w4.heap.size w4 w5) := (unhide BY).trans (hb5.mono (unhide BY).size)
  have H35 : Hid (Below w3.heap.size w3 w5) := (unhide H34).trans ((unhide H45).mono hz4)
  have HG5 : Hid (SlAt 1 8 RInt (w4.heap.size + 1) w5 (.slice ga st.length gc) st) := hG5.lower RInt_lowers (by simp)
  have HI5 := hide hI5
  have HO5 : Hid (∀ b, (Value.slice ga st.length gc).ownBlock = some b → w4.heap.size + 1 ≤ b) := fun b hb => by have := hO5 b hb; simpa using this
  have HS5 := hide ((unhide HS4).stays RClass_kept (unhide H45))
  have j5 : w5.cell? ⟨w4.heap.size, 0, none⟩ = some (.slice by4 ks.length cy4) := by rw [box_cell (B := 0) (unhide HBY5) 0]; rfl
  have hz5 : w4.heap.size < w5.heap.size := by have := (unhide HBY5).size; simp at this; omega
  clear hb5 hG5 hI5 hO5
  have HE5 := hide (eqIntS_ok st _ _ w5 ((unhide HG5).lower RInt_lowers (Nat.zero_le _)) ((unhide HRV).stays RInt_kept (unhide H35)))
  go_wp2_with fail
  refine (unhide HE5).mono ?_
  rintro e w6 ⟨rfl, hb6⟩
  have H56 := hide hb6
  have H36 : Hid (Below w3.heap.size w3 w6) := (unhide H35).trans (hb6.mono (unhide H35).size)
  have H46 : Hid (Below w4.heap.size w4 w6) := (unhide H45).trans (hb6.mono (unhide H45).size)
  have j6 : w6.cell? ⟨w4.heap.size, 0, none⟩ = some (.slice by4 ks.length cy4) := (hb6.cell (p := ⟨w4.heap.size, 0, none⟩) hz5).trans j5
  have k6 : w6.cell? ⟨w.heap.size, 0, none⟩ = some (.slice b0 ks.length c0) := ((unhide H36).cell (p := ⟨w.heap.size, 0, none⟩) hz3).trans (unhide HK3)
  have hz6 : w4.heap.size < w6.heap.size := Nat.lt_of_lt_of_le hz5 hb6.size
  have B6 : Hid (Below w.heap.size w w6) := (unhide B3).trans ((unhide H36).mono (by omega))
  have HS6 := hide ((unhide HS5).stays RClass_kept hb6)
  clear hb6 j5
  go_wp2_with fail
  have HTP := hide (toMachine_ok ks _ w6.drew ((unhide H1).stays RClass_kept (unhide B6).drew))
  go_region_with (first | (go_at_call 10; refine (unhide HTP).mono ?_; rintro e w7 ⟨cs7, rfl, ⟨vz, rfl, hS7⟩, hb7⟩; have j7 : w7.cell? ⟨w4.heap.size, 0, none⟩ = some (.slice by4 ks.length cy4) := (hb7.cell (p := ⟨w4.heap.size, 0, none⟩) hz6).trans j6; have HB7 := hide (Below.trans (Below.drew (Below.refl _ w6)) hb7); have HE7 := hide (eqMachine_ok ks _ _ w7 ((unhide HS6).stays RClass_kept (Below.trans (Below.drew (Below.refl _ w6)) hb7)) (hS7.lower RClass_lowers (Nat.zero_le _))); have hz7 : w4.heap.size < w7.heap.size := Nat.lt_of_lt_of_le hz6 hb7.size; clear hS7 hb7) | (go_at_call 12; refine (unhide HE7).mono ?_; rintro e w8 ⟨rfl, hb8⟩))
  all_goals
    have H68 := hide (Below.trans (unhide HB7) (hb8.mono (unhide HB7).size))
    have j8 : w8.cell? ⟨w4.heap.size, 0, none⟩ = some (.slice by4 ks.length cy4) := (hb8.cell (p := ⟨w4.heap.size, 0, none⟩) hz7).trans j7
    have H48 : Hid (Below w4.heap.size w4 w8) := (unhide H46).trans ((unhide H68).mono (unhide H46).size)
    have H38 : Hid (Below w3.heap.size w3 w8) := (unhide H36).trans ((unhide H68).mono (unhide H36).size)
    have H58 : Hid (Below w5.heap.size w5 w8) := (unhide H56).trans ((unhide H68).mono (unhide H56).size)
    have HM8 := hide (markMachine_ok ks _ w3.heap.size w4.heap.size w8 ((unhide HMA).stays KClass_kept (Mk.of_below (unhide H48) (Nat.le_refl _))) (unhide H48).size (unhide HMC))
    clear hb8 j7 HE7 HTP HB7 j6 k6
    go_wp2_with fail
    refine (unhide HM8).mono ?_
    rintro e w9 ⟨mk, rfl, hm9⟩
    have H39 : Hid (Below w3.heap.size w3 w9) := (unhide H38).trans (hm9.below (unhide H38).size)
    have HK59 : Hid (Kept (w4.heap.size + 1) w5.heap.size w5 w9) := (Kept.of_below (unhide H58)).trans (hm9.kept (Nat.le_succ _)) (unhide H58).size
    have HG9 := hide ((unhide HG5).kept RInt_kept (unhide HK59))
    have HI9 := hide ((unhide HI5).same (w' := w9) (fun g hg hlt => (unhide HK59).2 g (unhide HO5 g hg) hlt))
    have HE9 := hide (eqIntS_ok st _ _ w9 ((unhide HG9).lower RInt_lowers (Nat.zero_le _)) ((unhide HRV).stays RInt_kept (unhide H39)))
    have m0 : decide ((mk : Int) < 0) = false := decide_eq_false (by omega)
    clear hm9 j8
    go_wp2_with fail
    refine (unhide HE9).mono ?_
    rintro e wA ⟨rfl, hbA⟩
    have H3A : Hid (Below w3.heap.size w3 wA) := (unhide H39).trans (hbA.mono (unhide H39).size)
    have HIA := hide ((unhide HI9).same (w' := wA) (fun g hg hlt => hbA.block g hlt))
    obtain ⟨r, hr⟩ : ∃ r, 1 + st.length = r := ⟨_, rfl⟩
    have HMX := hide (markInts_one _ st.length r wA (unhide HIA) hr)
    have HR := hide hr
    clear hbA hr
    go_wp2_with fail
    refine (unhide HMX).mono ?_
    rintro e wB ⟨rfl, hMK, hOT⟩
    have H3B : Hid (Below w3.heap.size w3 wB) := (unhide H3A).trans (hOT.below (fun b hb => by have := unhide HO5 b hb; omega) (unhide H3A).size)
    have HHX := hide (heldInts_one _ st.length r wB hMK (unhide HR))
    clear hMK hOT
    go_wp2_with fail
    refine (unhide HHX).mono ?_
    rintro e wC ⟨rfl, hbC⟩
    have H3C : Hid (Below w3.heap.size w3 wC) := (unhide H3B).trans (hbC.mono (unhide H3B).size)
    have BC : Hid (Below w.heap.size w wC) := (unhide B3).trans ((unhide H3C).mono (by omega))
    have kC : wC.cell? ⟨w.heap.size, 0, none⟩ = some (.slice b0 ks.length c0) := ((unhide H3C).cell (p := ⟨w.heap.size, 0, none⟩) hz3).trans (unhide HK3)
    have HTP2 := hide (toMachine_ok ks _ wC ((unhide H1).stays RClass_kept (unhide BC)))
    have m1 : decide ((r : Int) < 0) = false := decide_eq_false (by omega)
    have m2 : ((r : Int) != (r : Int)) = false := by simp
    clear hbC
    go_wp2_with fail
    refine (unhide HTP2).mono ?_
    rintro e wD ⟨csD, rfl, ⟨vh, rfl, hSD⟩, hbD⟩
    have H3D : Hid (Below w3.heap.size w3 wD) := (unhide H3C).trans (hbD.mono (unhide H3C).size)
    have HIM2 := hide (unhide HIMP _ wD (hSD.lower RClass_lowers (Nat.zero_le _)))
    clear hSD hbD kC
    go_wp2_with fail
    refine (unhide HIM2).mono ?_
    rintro e wE ⟨hv, rfl, hGE, _, _, hbE⟩
    obtain ⟨ha, hc, rfl⟩ := hGE.shape
    have H3E : Hid (Below w3.heap.size w3 wE) := (unhide H3D).trans (hbE.mono (unhide H3D).size)
    have HEE := hide (eqIntS_ok st _ _ wE (hGE.lower RInt_lowers (Nat.zero_le _)) ((unhide HRV).stays RInt_kept (unhide H3E)))
    clear hGE hbE
    go_wp2_with fail
    refine (unhide HEE).mono ?_
    rintro e wF ⟨rfl, hbF⟩
    have H3F : Hid (Below w3.heap.size w3 wF) := (unhide H3E).trans (hbF.mono (unhide H3E).size)
    have BF : Hid (Below w.heap.size w wF) := (unhide B3).trans ((unhide H3F).mono (by omega))
    clear hbF
    go_wp2
    go_ret
    exact ⟨rfl, unhide BF⟩

end Go.Proofs.YtjjldnkhadakcaaGreat
