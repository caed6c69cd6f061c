import Derived.Test.YtmglbkndjnflkaaGreatDoorMSz
import Derived.Test.YtmglbkndjnflkaaGreatDoorEq
import Derived.Test.YtmglbkndjnflkaaGreatDoorMData
namespace Go.Proofs.YtmglbkndjnflkaaGreatDoor
open Go.RowKit
set_option linter.unusedSimpArgs false
set_option linter.unusedVariables false

set_option maxHeartbeats 4000000 in
theorem toClass_ok (x : DClass) (a1 a2 a3 a4 a5 a6 : Value) (w : World) (hs : Len x.name.size) (h1 : SlAt 2 24 RSlot 0 w a1 x.ins) (h2 : SlAt 2 24 RSlot 0 w a2 x.outs) (h3 : SlAt 1 16 RStr 0 w a3 x.locs) (h4 : SlAt 1 8 RInt 0 w a4 x.mems) (h5 : SlAt 1 8 RInt 0 w a5 x.insts) (h6 : SlAt 6 104 RStm 0 w a6 x.body) :
    Calls Tryz.prog 25 #[.agg #[.string x.name, a1, a2, a3, a4, a5, a6]] w (ToPost RClass w x) := by
  obtain ⟨s, ins, outs, locs, mems, insts, body⟩ := x
  simp only at hs h1 h2 h3 h4 h5 h6
  have Hhs := hide hs
  clear hs
  have H1 := hide h1
  clear h1
  have H2 := hide h2
  clear h2
  have H3 := hide h3
  clear h3
  have H4 := hide h4
  clear h4
  have H5 := hide h5
  clear h5
  have H6 := hide h6
  clear h6
  go_enter Tryz.func25, Tryz.ntmps25
  go_wp2_with fail
  refine (toSlotS_ok ins _ _ ?_).mono ?_
  · exact (unhide H1).stays RSlot_kept ((((Below.refl _ _).alloc (Nat.le_refl _) _).alloc (by simp) _).alloc (by simp <;> omega) _)
  rintro e w1 ⟨v1, rfl, hS, hb⟩
  obtain ⟨b1, cap1, rfl⟩ := hS.shape
  obtain ⟨hc1, hf1⟩ := bcell hb.below
  have hz := hb.below.size
  simp only [World.size_alloc, Deep.nblk_setCell] at hz hc1 hf1
  have HS1 := hide (hS.lower RSlot_lowers (lo' := w.heap.size + 1 + 1 + 1) (by simp <;> omega))
  have HB1 : Hid (BelF w.heap.size w w1) := ((((BelF.refl _).alloc (Nat.le_refl _) _).alloc (by simp) _).alloc (by simp <;> omega) _).and hb (by simp <;> omega)
  have hza1 : w.heap.size < w1.heap.size := by omega
  have hzb1 : w.heap.size + 1 < w1.heap.size := by omega
  have hzc1 : w.heap.size + 1 + 1 < w1.heap.size := by omega
  clear hS hb hz
  go_wp2_with fail
  refine (toSlotS_ok outs _ _ ?_).mono ?_
  · exact (unhide H2).stays RSlot_kept (by repeat (first | refine Below.setCell ?_ (by simp <;> omega) _ | exact (unhide HB1).below))
  rintro e w2 ⟨v2, rfl, hS, hb⟩
  obtain ⟨b2, cap2, rfl⟩ := hS.shape
  obtain ⟨hc2, hf2⟩ := bcell hb.below
  have hz := hb.below.size
  simp only [World.size_alloc, Deep.nblk_setCell] at hz hc2 hf2
  have HS2 := hide (hS.lower RSlot_lowers (lo' := w.heap.size + 1 + 1 + 1) (by simp <;> omega))
  have HB2 : Hid (BelF w.heap.size w w2) := by
    refine BelF.and ?_ hb (by simp <;> omega)
    repeat (first | refine BelF.setCell ?_ (by simp <;> omega) _ | exact unhide HB1)
  have HK : Kept (w.heap.size + 1 + 1 + 1) w1.heap.size w1 w2 := by
    refine Kept.trans ?_ (Kept.of_below hb.below) (by simp <;> omega)
    repeat (first | refine Kept.setCell ?_ (by simp <;> omega) _ | exact Kept.refl _ _ _)
  replace HS1 := hide ((unhide HS1).kept RSlot_kept HK)
  clear HK
  have hza2 : w.heap.size < w2.heap.size := by omega
  have hzb2 : w.heap.size + 1 < w2.heap.size := by omega
  have hzc2 : w.heap.size + 1 + 1 < w2.heap.size := by omega
  clear hS hb hz
  go_wp2_with fail
  refine (toStringS_ok locs _ _ ?_).mono ?_
  · exact (unhide H3).stays RStr_kept (by repeat (first | refine Below.setCell ?_ (by simp <;> omega) _ | exact (unhide HB2).below))
  rintro e w3 ⟨v3, rfl, hS, hb⟩
  obtain ⟨b3, cap3, rfl⟩ := hS.shape
  obtain ⟨hc3, hf3⟩ := bcell hb.below
  have hz := hb.below.size
  simp only [World.size_alloc, Deep.nblk_setCell] at hz hc3 hf3
  have HS3 := hide (hS.lower RStr_lowers (lo' := w.heap.size + 1 + 1 + 1) (by simp <;> omega))
  have HB3 : Hid (BelF w.heap.size w w3) := by
    refine BelF.and ?_ hb (by simp <;> omega)
    repeat (first | refine BelF.setCell ?_ (by simp <;> omega) _ | exact unhide HB2)
  have HK : Kept (w.heap.size + 1 + 1 + 1) w2.heap.size w2 w3 := by
    refine Kept.trans ?_ (Kept.of_below hb.below) (by simp <;> omega)
    repeat (first | refine Kept.setCell ?_ (by simp <;> omega) _ | exact Kept.refl _ _ _)
  replace HS1 := hide ((unhide HS1).kept RSlot_kept HK)
  replace HS2 := hide ((unhide HS2).kept RSlot_kept HK)
  clear HK
  have hza3 : w.heap.size < w3.heap.size := by omega
  have hzb3 : w.heap.size + 1 < w3.heap.size := by omega
  have hzc3 : w.heap.size + 1 + 1 < w3.heap.size := by omega
  clear hS hb hz
  go_wp2_with fail
  refine (toIntS_ok mems _ _ ?_).mono ?_
  · exact (unhide H4).stays RInt_kept (by repeat (first | refine Below.setCell ?_ (by simp <;> omega) _ | exact (unhide HB3).below))
  rintro e w4 ⟨v4, rfl, hS, hb⟩
  obtain ⟨b4, cap4, rfl⟩ := hS.shape
  obtain ⟨hc4, hf4⟩ := bcell hb.below
  have hz := hb.below.size
  simp only [World.size_alloc, Deep.nblk_setCell] at hz hc4 hf4
  have HS4 := hide (hS.lower RInt_lowers (lo' := w.heap.size + 1 + 1 + 1) (by simp <;> omega))
  have HB4 : Hid (BelF w.heap.size w w4) := by
    refine BelF.and ?_ hb (by simp <;> omega)
    repeat (first | refine BelF.setCell ?_ (by simp <;> omega) _ | exact unhide HB3)
  have HK : Kept (w.heap.size + 1 + 1 + 1) w3.heap.size w3 w4 := by
    refine Kept.trans ?_ (Kept.of_below hb.below) (by simp <;> omega)
    repeat (first | refine Kept.setCell ?_ (by simp <;> omega) _ | exact Kept.refl _ _ _)
  replace HS1 := hide ((unhide HS1).kept RSlot_kept HK)
  replace HS2 := hide ((unhide HS2).kept RSlot_kept HK)
  replace HS3 := hide ((unhide HS3).kept RStr_kept HK)
  clear HK
  have hza4 : w.heap.size < w4.heap.size := by omega
  have hzb4 : w.heap.size + 1 < w4.heap.size := by omega
  have hzc4 : w.heap.size + 1 + 1 < w4.heap.size := by omega
  clear hS hb hz
  go_wp2_with fail
  refine (toIntS_ok insts _ _ ?_).mono ?_
  · exact (unhide H5).stays RInt_kept (by repeat (first | refine Below.setCell ?_ (by simp <;> omega) _ | exact (unhide HB4).below))
  rintro e w5 ⟨v5, rfl, hS, hb⟩
  obtain ⟨b5, cap5, rfl⟩ := hS.shape
  obtain ⟨hc5, hf5⟩ := bcell hb.below
  have hz := hb.below.size
  simp only [World.size_alloc, Deep.nblk_setCell] at hz hc5 hf5
  have HS5 := hide (hS.lower RInt_lowers (lo' := w.heap.size + 1 + 1 + 1) (by simp <;> omega))
  have HB5 : Hid (BelF w.heap.size w w5) := by
    refine BelF.and ?_ hb (by simp <;> omega)
    repeat (first | refine BelF.setCell ?_ (by simp <;> omega) _ | exact unhide HB4)
  have HK : Kept (w.heap.size + 1 + 1 + 1) w4.heap.size w4 w5 := by
    refine Kept.trans ?_ (Kept.of_below hb.below) (by simp <;> omega)
    repeat (first | refine Kept.setCell ?_ (by simp <;> omega) _ | exact Kept.refl _ _ _)
  replace HS1 := hide ((unhide HS1).kept RSlot_kept HK)
  replace HS2 := hide ((unhide HS2).kept RSlot_kept HK)
  replace HS3 := hide ((unhide HS3).kept RStr_kept HK)
  replace HS4 := hide ((unhide HS4).kept RInt_kept HK)
  clear HK
  have hza5 : w.heap.size < w5.heap.size := by omega
  have hzb5 : w.heap.size + 1 < w5.heap.size := by omega
  have hzc5 : w.heap.size + 1 + 1 < w5.heap.size := by omega
  clear hS hb hz
  go_wp2_with fail
  refine (toStmS_ok body _ _ ?_).mono ?_
  · exact (unhide H6).stays RStm_kept (by repeat (first | refine Below.setCell ?_ (by simp <;> omega) _ | exact (unhide HB5).below))
  rintro e w6 ⟨v6, rfl, hS, hb⟩
  obtain ⟨b6, cap6, rfl⟩ := hS.shape
  obtain ⟨hc6, hf6⟩ := bcell hb.below
  have hz := hb.below.size
  simp only [World.size_alloc, Deep.nblk_setCell] at hz hc6 hf6
  have HS6 := hide (hS.lower RStm_lowers (lo' := w.heap.size + 1 + 1 + 1) (by simp <;> omega))
  have HB6 : Hid (BelF w.heap.size w w6) := by
    refine BelF.and ?_ hb (by simp <;> omega)
    repeat (first | refine BelF.setCell ?_ (by simp <;> omega) _ | exact unhide HB5)
  have HK : Kept (w.heap.size + 1 + 1 + 1) w5.heap.size w5 w6 := by
    refine Kept.trans ?_ (Kept.of_below hb.below) (by simp <;> omega)
    repeat (first | refine Kept.setCell ?_ (by simp <;> omega) _ | exact Kept.refl _ _ _)
  replace HS1 := hide ((unhide HS1).kept RSlot_kept HK)
  replace HS2 := hide ((unhide HS2).kept RSlot_kept HK)
  replace HS3 := hide ((unhide HS3).kept RStr_kept HK)
  replace HS4 := hide ((unhide HS4).kept RInt_kept HK)
  replace HS5 := hide ((unhide HS5).kept RInt_kept HK)
  clear HK
  have hza6 : w.heap.size < w6.heap.size := by omega
  have hzb6 : w.heap.size + 1 < w6.heap.size := by omega
  have hzc6 : w.heap.size + 1 + 1 < w6.heap.size := by omega
  clear hS hb hz
  go_wp2
  refine bodyPost_ret (v := .agg #[.string s, .slice b1 ins.length cap1, .slice b2 outs.length cap2, .slice b3 locs.length cap3, .slice b4 mems.length cap4, .slice b5 insts.length cap5, .slice b6 body.length cap6]) (by simp [results, Tryz.results25, go_sem, hc1, hza1, hzb1, hzc1, hc2, hza2, hzb2, hzc2, hc3, hza3, hzb3, hzc3, hc4, hza4, hzb4, hzc4, hc5, hza5, hzb5, hzc5, hc6, hza6, hzb6, hzc6]) rfl ⟨[.string s, .slice b1 ins.length cap1, .slice b2 outs.length cap2, .slice b3 locs.length cap3, .slice b4 mems.length cap4, .slice b5 insts.length cap5, .slice b6 body.length cap6], rfl, ⟨_, _, _, _, _, _, rfl, unhide Hhs, ?_, ?_, ?_, ?_, ?_, ?_⟩, ?_⟩
  · exact ((unhide HS1).kept RSlot_kept (by repeat (first | refine Kept.setCell ?_ (by simp <;> omega) _ | exact Kept.refl _ _ _))).lower RSlot_lowers (by omega)
  · exact ((unhide HS2).kept RSlot_kept (by repeat (first | refine Kept.setCell ?_ (by simp <;> omega) _ | exact Kept.refl _ _ _))).lower RSlot_lowers (by omega)
  · exact ((unhide HS3).kept RStr_kept (by repeat (first | refine Kept.setCell ?_ (by simp <;> omega) _ | exact Kept.refl _ _ _))).lower RStr_lowers (by omega)
  · exact ((unhide HS4).kept RInt_kept (by repeat (first | refine Kept.setCell ?_ (by simp <;> omega) _ | exact Kept.refl _ _ _))).lower RInt_lowers (by omega)
  · exact ((unhide HS5).kept RInt_kept (by repeat (first | refine Kept.setCell ?_ (by simp <;> omega) _ | exact Kept.refl _ _ _))).lower RInt_lowers (by omega)
  · exact ((unhide HS6).kept RStm_kept (by repeat (first | refine Kept.setCell ?_ (by simp <;> omega) _ | exact Kept.refl _ _ _))).lower RStm_lowers (by omega)
  · repeat (first | refine BelF.setCell ?_ (by simp <;> omega) _ | exact unhide HB6)

theorem info_toClassS : (Tryz.prog.info? 40).map (fun i => (i.zero, i.size, i.bytes)) = some (some (.agg #[.string ByteArray.empty, .slice none 0 0, .slice none 0 0, .slice none 0 0, .slice none 0 0, .slice none 0 0, .slice none 0 0]), 7, 160) := by kernel_rfl

set_option maxHeartbeats 400000 in
theorem toClassS_ok (xs : List DClass) (v : Value) (w : World) (hv : SlAt 7 160 RClass 0 w v xs) :
    Calls Tryz.prog 14 #[v] w (ToPostS 7 160 RClass w xs) := by
  obtain ⟨a, cap, rfl, ⟨hnb, _⟩, hn, hx⟩ := hv
  have HNB := hide hnb
  have HN := hide hn
  unfold Len at hn hnb
  have HX := hide hx
  clear hx
  have hmk := make_rows (P := Tryz.prog) 27 40 _ _ _ Tryz.underlying27 info_toClassS xs.length hnb hn
  clear hnb
  go_enter Tryz.func14, Tryz.ntmps14
  go_wp2
  go_loopg [4] xs.length (fun g i wr => ∃ (k : Nat), k ≤ xs.length ∧ g = xs.length - k ∧ i = .int .i64 k ∧ BelF w.heap.size w wr ∧ RowAt wr w.heap.size (xs.length * 7) ∧ Filled 7 RClass (w.heap.size + 1) wr w.heap.size xs k)
  case atStart => exact ⟨0, Nat.zero_le _, by omega, rfl, (BelF.refl _).alloc (Nat.le_refl _) _, RowAt.made _ _ _ _, fill_none _ _ _ _ _ _⟩
  case round =>
    obtain ⟨k, hk, hg, rfl, hbl, hrow, hfil⟩ := hrel
    clear hmk
    have HG := hide hg
    have HF := hide hfil
    clear hg hfil
    by_cases hlt : k < xs.length
    · obtain ⟨b, o, cs, rfl, _, hb, hcs, hc, hR⟩ := unhide HX k hlt
      have hR := RClass_kept.stays _ _ _ _ _ hbl.below hR
      have hc : ∀ j (hj : j < cs.length), wr.cell? ⟨b, o + k * 7 + j, none⟩ = some cs[j] := fun j hj => by rw [hbl.below.cell (p := ⟨b, _, none⟩) hb]; exact hc j hj
      obtain ⟨ki, ko, kl, km, kn, kb, rfl, hsn, g1, g2, g3, g4, g5, g6⟩ := hR
      have G1 := hide g1
      clear g1
      have G2 := hide g2
      clear g2
      have G3 := hide g3
      clear g3
      have G4 := hide g4
      clear g4
      have G5 := hide g5
      clear g5
      have G6 := hide g6
      clear g6
      have c0 := hc 0 (by simp)
      have c1 := hc 1 (by simp)
      have c2 := hc 2 (by simp)
      have c3 := hc 3 (by simp)
      have c4 := hc 4 (by simp)
      have c5 := hc 5 (by simp)
      have c6 := hc 6 (by simp)
      simp only [Nat.mul_one, Nat.add_zero, List.getElem_cons_zero, List.getElem_cons_succ] at c0 c1 c2 c3 c4 c5 c6
      clear hc hcs
      go_wp2_with fail
      refine (toClass_ok _ _ _ _ _ _ _ _ hsn (unhide G1) (unhide G2) (unhide G3) (unhide G4) (unhide G5) (unhide G6)).mono ?_
      rintro e w1 ⟨cs', rfl, hR1, hb1⟩
      have hrow1 := hrow.below hb1.below
      have hR1' := hR1
      obtain ⟨j1, j2, j3, j4, j5, j6, rfl, hsn1, g1, g2, g3, g4, g5, g6⟩ := hR1
      obtain ⟨aa1, ca1, rfl⟩ := g1.shape
      clear g1
      obtain ⟨aa2, ca2, rfl⟩ := g2.shape
      clear g2
      obtain ⟨aa3, ca3, rfl⟩ := g3.shape
      clear g3
      obtain ⟨aa4, ca4, rfl⟩ := g4.shape
      clear g4
      obtain ⟨aa5, ca5, rfl⟩ := g5.shape
      clear g5
      obtain ⟨aa6, ca6, rfl⟩ := g6.shape
      clear g6
      obtain ⟨x0, d0⟩ := hrow1.cell (i := k * 7) (by omega)
      have f0 := hrow1.frozen (k * 7)
      obtain ⟨x1, d1⟩ := hrow1.cell (i := k * 7 + 1) (by omega)
      have f1 := hrow1.frozen (k * 7 + 1)
      obtain ⟨x2, d2⟩ := hrow1.cell (i := k * 7 + 2) (by omega)
      have f2 := hrow1.frozen (k * 7 + 2)
      obtain ⟨x3, d3⟩ := hrow1.cell (i := k * 7 + 3) (by omega)
      have f3 := hrow1.frozen (k * 7 + 3)
      obtain ⟨x4, d4⟩ := hrow1.cell (i := k * 7 + 4) (by omega)
      have f4 := hrow1.frozen (k * 7 + 4)
      obtain ⟨x5, d5⟩ := hrow1.cell (i := k * 7 + 5) (by omega)
      have f5 := hrow1.frozen (k * 7 + 5)
      obtain ⟨x6, d6⟩ := hrow1.cell (i := k * 7 + 6) (by omega)
      have f6 := hrow1.frozen (k * 7 + 6)
      have step := fill_stepF RClass_kept RClass_lowers hlt (Nat.le_refl _) hbl hrow (unhide HF) hb1 rfl hR1'
      have ST := hide step
      clear c0 c1 c2 c3 c4 c5 c6 step hR1' hrow1
      go_wp2
      go_roundg (xs.length - (k + 1))
      case measure => have := unhide HG; omega
      case rel => exact ⟨k + 1, by omega, rfl, by go_num, unhide ST⟩
    · have e : k = xs.length := by omega
      have hb0 := hrow.lt
      have D := hide (fill_done RClass_lowers hb0 (unhide HNB) (unhide HN) (by have := unhide HF; rwa [e] at this))
      clear hrow
      go_wp2
      go_ret
      exact ⟨_, rfl, unhide D, hbl⟩

def RMach (lo : Nat) (w : World) (cs : List Value) (ks : List DClass) : Prop := ∃ v, cs = [v] ∧ SlAt 7 160 RClass lo w v ks

set_option maxHeartbeats 400000 in
theorem toMachineF_ok (ks : List DClass) (v : Value) (w : World) (h1 : SlAt 7 160 RClass 0 w v ks) :
    Calls Tryz.prog 6 #[.agg #[v]] w (ToPost RMach w ks) := by
  have H1 := hide h1
  clear h1
  go_enter Tryz.func6, Tryz.ntmps6
  go_wp2_with fail
  refine (toClassS_ok ks _ _ ?_).mono ?_
  · exact (unhide H1).stays RClass_kept ((((Below.refl _ _).alloc (Nat.le_refl _) _).alloc (by simp) _).alloc (by simp <;> omega) _)
  rintro e w1 ⟨v1, rfl, hS, hb⟩
  obtain ⟨b1, cap1, rfl⟩ := hS.shape
  obtain ⟨hc1, hf1⟩ := bcell hb.below
  have hz := hb.below.size
  simp only [World.size_alloc, Deep.nblk_setCell] at hz hc1 hf1
  have HS1 := hide (hS.lower RClass_lowers (lo' := w.heap.size + 1 + 1 + 1) (by simp <;> omega))
  have HB1 : Hid (BelF w.heap.size w w1) := ((((BelF.refl _).alloc (Nat.le_refl _) _).alloc (by simp) _).alloc (by simp <;> omega) _).and hb (by simp <;> omega)
  have hza1 : w.heap.size < w1.heap.size := by omega
  have hzb1 : w.heap.size + 1 < w1.heap.size := by omega
  have hzc1 : w.heap.size + 1 + 1 < w1.heap.size := by omega
  clear hS hb hz
  go_wp2
  refine bodyPost_ret (v := .agg #[.slice b1 ks.length cap1]) (by simp [results, Tryz.results6, go_sem, hc1, hza1, hzb1, hzc1]) rfl ⟨[.slice b1 ks.length cap1], rfl, ⟨_, rfl, ?_⟩, ?_⟩
  · exact ((unhide HS1).kept RClass_kept (by repeat (first | refine Kept.setCell ?_ (by simp <;> omega) _ | exact Kept.refl _ _ _))).lower RClass_lowers (by omega)
  · repeat (first | refine BelF.setCell ?_ (by simp <;> omega) _ | exact unhide HB1)

theorem toMachine_ok (ks : List DClass) (v : Value) (w : World) (h1 : SlAt 7 160 RClass 0 w v ks) :
    Calls Tryz.prog 6 #[.agg #[v]] w (ToPostB RMach w ks) := (toMachineF_ok ks v w h1).mono fun e w' h => h.weak

end Go.Proofs.YtmglbkndjnflkaaGreatDoor
namespace Go.Proofs.YtmglbkndjnflkaaGreatDoor
open Go.RowKit
set_option linter.unusedSimpArgs false
set_option linter.unusedVariables false

set_option maxHeartbeats 400000 in
theorem eqSlot_ok (c : DSlot) (w : World) :
    Calls Tryz.prog 78 #[.agg #[.string c.name, .int .i64 c.type], .agg #[.string c.name, .int .i64 c.type]] w (YesPost w) := by
  obtain ⟨s, ty⟩ := c
  go_enter Tryz.func78, Tryz.ntmps78
  go_wp2
  go_ret
  exact ⟨rfl, ((Below.refl _ _).alloc (Nat.le_refl _) _).alloc (by simp) _⟩

set_option maxHeartbeats 400000 in
theorem eqSlotS_ok (xs : List DSlot) (v u : Value) (w : World) (hv : SlAt 2 24 RSlot 0 w v xs) (hu : SlAt 2 24 RSlot 0 w u xs) :
    Calls Tryz.prog 56 #[v, u] w (YesPost w) := by
  obtain ⟨a, cap, rfl, _, hn, hx⟩ := hv
  obtain ⟨a2, cap2, rfl, _, _, hy⟩ := hu
  unfold Len at hn
  have HX := hide hx
  have HY := hide hy
  clear hx hy
  go_enter Tryz.func56, Tryz.ntmps56
  go_wp2
  go_loopg [5] xs.length (fun g i wr => ∃ (k : Nat), k ≤ xs.length ∧ g = xs.length - k ∧ i = .int .i64 k ∧ Below w.heap.size w wr)
  case atStart => exact ⟨0, Nat.zero_le _, by omega, rfl, Below.refl _ _⟩
  case round =>
    obtain ⟨k, hk, hg, rfl, hbl⟩ := hrel
    have HG := hide hg
    clear hg
    by_cases hlt : k < xs.length
    · obtain ⟨b, o, cs, rfl, _, hb, hcs, hc, hR⟩ := unhide HX k hlt
      have hc : ∀ j (hj : j < cs.length), wr.cell? ⟨b, o + k * 2 + j, none⟩ = some cs[j] := fun j hj => by rw [hbl.cell (p := ⟨b, _, none⟩) hb]; exact hc j hj
      obtain ⟨b2, o2, cs2, rfl, _, hb2, hcs2, hc2, hR2⟩ := unhide HY k hlt
      have hc2 : ∀ j (hj : j < cs2.length), wr.cell? ⟨b2, o2 + k * 2 + j, none⟩ = some cs2[j] := fun j hj => by rw [hbl.cell (p := ⟨b2, _, none⟩) hb2]; exact hc2 j hj
      have hR := RSlot_kept.stays _ _ _ _ _ hbl.drew hR
      have hR2 := RSlot_kept.stays _ _ _ _ _ hbl.drew hR2
      obtain ⟨rfl, hsn, _⟩ := hR
      obtain ⟨rfl, hsn2, _⟩ := hR2
      have c0 := hc 0 (by simp)
      have d0 := hc2 0 (by simp)
      have c1 := hc 1 (by simp)
      have d1 := hc2 1 (by simp)
      simp only [Nat.mul_one, Nat.add_zero, List.getElem_cons_zero, List.getElem_cons_succ] at c0 d0 c1 d1
      clear hc hcs hc2 hcs2
      have hlt' : (k : Int) < (xs.length : Int) := by omega
      go_wp2_with fail
      go_region_with (go_at_call 78; refine (eqSlot_ok _ _).mono ?_; rintro e w1 ⟨rfl, hb1⟩)
      all_goals
        go_wp2
        go_roundg (xs.length - (k + 1))
        case measure => have := unhide HG; omega
        case rel => exact ⟨k + 1, by omega, rfl, by go_num, hbl.drew.trans (hb1.mono hbl.drew.size)⟩
    · go_wp2
      go_ret
      exact ⟨rfl, hbl⟩

set_option maxHeartbeats 400000 in
theorem eqIntS_ok (xs : List Int) (v u : Value) (w : World) (hv : SlAt 1 8 RInt 0 w v xs) (hu : SlAt 1 8 RInt 0 w u xs) :
    Calls Tryz.prog 58 #[v, u] w (YesPost w) := by
  obtain ⟨a, cap, rfl, _, hn, hx⟩ := hv
  obtain ⟨a2, cap2, rfl, _, _, hy⟩ := hu
  unfold Len at hn
  have HX := hide hx
  have HY := hide hy
  clear hx hy
  go_enter Tryz.func58, Tryz.ntmps58
  go_wp2
  go_loopg [5] xs.length (fun g i wr => ∃ (k : Nat), k ≤ xs.length ∧ g = xs.length - k ∧ i = .int .i64 k ∧ Below w.heap.size w wr)
  case atStart => exact ⟨0, Nat.zero_le _, by omega, rfl, Below.refl _ _⟩
  case round =>
    obtain ⟨k, hk, hg, rfl, hbl⟩ := hrel
    have HG := hide hg
    clear hg
    by_cases hlt : k < xs.length
    · obtain ⟨b, o, cs, rfl, _, hb, hcs, hc, hR⟩ := unhide HX k hlt
      have hc : ∀ j (hj : j < cs.length), wr.cell? ⟨b, o + k * 1 + j, none⟩ = some cs[j] := fun j hj => by rw [hbl.cell (p := ⟨b, _, none⟩) hb]; exact hc j hj
      obtain ⟨b2, o2, cs2, rfl, _, hb2, hcs2, hc2, hR2⟩ := unhide HY k hlt
      have hc2 : ∀ j (hj : j < cs2.length), wr.cell? ⟨b2, o2 + k * 1 + j, none⟩ = some cs2[j] := fun j hj => by rw [hbl.cell (p := ⟨b2, _, none⟩) hb2]; exact hc2 j hj
      have hR := RInt_kept.stays _ _ _ _ _ hbl.drew hR
      have hR2 := RInt_kept.stays _ _ _ _ _ hbl.drew hR2
      obtain ⟨rfl, hsn⟩ := hR
      obtain ⟨rfl, hsn2⟩ := hR2
      have c0 := hc 0 (by simp)
      have d0 := hc2 0 (by simp)
      simp only [Nat.mul_one, Nat.add_zero, List.getElem_cons_zero, List.getElem_cons_succ] at c0 d0
      clear hc hcs hc2 hcs2
      have hlt' : (k : Int) < (xs.length : Int) := by omega
      go_wp2_with fail
      generalize xs[k] = s at *
      go_quiet (fail)
      go_wp2
      go_roundg (xs.length - (k + 1))
      case measure => have := unhide HG; omega
      case rel => exact ⟨k + 1, by omega, rfl, by go_num, below_drewN hbl _⟩
    · go_wp2
      go_ret
      exact ⟨rfl, hbl⟩

set_option maxHeartbeats 1000000 in
theorem eqStm_ok (x : DStm) (a1 b1 a2 b2 a3 b3 : Value) (w : World) (h1 : SlAt 1 16 RStr 0 w a1 x.outs) (g1 : SlAt 1 16 RStr 0 w b1 x.outs) (h2 : SlAt 3 32 RItem 0 w a2 x.code) (g2 : SlAt 3 32 RItem 0 w b2 x.code) (h3 : SlAt 1 24 RItems 0 w a3 x.args) (g3 : SlAt 1 24 RItems 0 w b3 x.args) :
    Calls Tryz.prog 79 #[.agg #[.int .i64 x.kind, .string x.name, .int .i64 x.at_, a1, a2, a3], .agg #[.int .i64 x.kind, .string x.name, .int .i64 x.at_, b1, b2, b3]] w (YesPost w) := by
  obtain ⟨kd, s, at0, outs, code, args⟩ := x
  simp only at h1 g1 h2 g2 h3 g3
  have H1 := hide h1
  have G1 := hide g1
  clear h1 g1
  have H2 := hide h2
  have G2 := hide g2
  clear h2 g2
  have H3 := hide h3
  have G3 := hide g3
  clear h3 g3
  go_enter Tryz.func79, Tryz.ntmps79
  have B0 : Below w.heap.size w ((w.alloc (.cells _ _)).alloc (.cells _ _)) := ((Below.refl w.heap.size w).alloc (Nat.le_refl _) (.cells #[.int .i64 kd, .string s, .int .i64 at0, a1, a2, a3] 47)).alloc (by simp) (.cells #[.int .i64 kd, .string s, .int .i64 at0, b1, b2, b3] 47)
  go_wp2_with fail
  refine (eqStringS_ok outs _ _ _ ?_ ?_).mono ?_
  · exact (unhide H1).stays RStr_kept B0
  · exact (unhide G1).stays RStr_kept B0
  rintro e w1 ⟨rfl, hb⟩
  obtain ⟨hc1, hf1⟩ := bcell hb
  have hz := hb.size
  have B1 : Below w.heap.size w w1 := B0.trans (hb.mono B0.size)
  try simp only [World.size_alloc] at hz hc1 hf1
  have hza1 : w.heap.size < w1.heap.size := by omega
  have hzb1 : w.heap.size + 1 < w1.heap.size := by omega
  clear hb hz
  go_wp2_with fail
  refine (eqItemS_ok code _ _ _ ?_ ?_).mono ?_
  · exact (unhide H2).stays RItem_kept B1
  · exact (unhide G2).stays RItem_kept B1
  rintro e w2 ⟨rfl, hb⟩
  obtain ⟨hc2, hf2⟩ := bcell hb
  have hz := hb.size
  have B2 : Below w.heap.size w w2 := B1.trans (hb.mono B1.size)
  try simp only [World.size_alloc] at hz hc2 hf2
  have hza2 : w.heap.size < w2.heap.size := by omega
  have hzb2 : w.heap.size + 1 < w2.heap.size := by omega
  clear hb hz
  go_wp2_with fail
  refine (eqItemSS_ok args _ _ _ ?_ ?_).mono ?_
  · exact (unhide H3).stays RItems_kept B2
  · exact (unhide G3).stays RItems_kept B2
  rintro e w3 ⟨rfl, hb⟩
  obtain ⟨hc3, hf3⟩ := bcell hb
  have hz := hb.size
  have B3 : Below w.heap.size w w3 := B2.trans (hb.mono B2.size)
  try simp only [World.size_alloc] at hz hc3 hf3
  have hza3 : w.heap.size < w3.heap.size := by omega
  have hzb3 : w.heap.size + 1 < w3.heap.size := by omega
  clear hb hz
  go_wp2
  go_ret
  exact ⟨rfl, B3⟩

set_option maxHeartbeats 400000 in
theorem eqStmS_ok (xs : List DStm) (v u : Value) (w : World) (hv : SlAt 6 104 RStm 0 w v xs) (hu : SlAt 6 104 RStm 0 w u xs) :
    Calls Tryz.prog 59 #[v, u] w (YesPost w) := by
  obtain ⟨a, cap, rfl, _, hn, hx⟩ := hv
  obtain ⟨a2, cap2, rfl, _, _, hy⟩ := hu
  unfold Len at hn
  have HX := hide hx
  have HY := hide hy
  clear hx hy
  go_enter Tryz.func59, Tryz.ntmps59
  go_wp2
  go_loopg [5] xs.length (fun g i wr => ∃ (k : Nat), k ≤ xs.length ∧ g = xs.length - k ∧ i = .int .i64 k ∧ Below w.heap.size w wr)
  case atStart => exact ⟨0, Nat.zero_le _, by omega, rfl, Below.refl _ _⟩
  case round =>
    obtain ⟨k, hk, hg, rfl, hbl⟩ := hrel
    have HG := hide hg
    clear hg
    by_cases hlt : k < xs.length
    · obtain ⟨b, o, cs, rfl, _, hb, hcs, hc, hR⟩ := unhide HX k hlt
      have hc : ∀ j (hj : j < cs.length), wr.cell? ⟨b, o + k * 6 + j, none⟩ = some cs[j] := fun j hj => by rw [hbl.cell (p := ⟨b, _, none⟩) hb]; exact hc j hj
      obtain ⟨b2, o2, cs2, rfl, _, hb2, hcs2, hc2, hR2⟩ := unhide HY k hlt
      have hc2 : ∀ j (hj : j < cs2.length), wr.cell? ⟨b2, o2 + k * 6 + j, none⟩ = some cs2[j] := fun j hj => by rw [hbl.cell (p := ⟨b2, _, none⟩) hb2]; exact hc2 j hj
      have hR := RStm_kept.stays _ _ _ _ _ hbl.drew hR
      have hR2 := RStm_kept.stays _ _ _ _ _ hbl.drew hR2
      obtain ⟨l1, c1, a1, rfl, _, _, _, p1, p2, p3⟩ := hR
      have P1 := hide p1
      clear p1
      have P2 := hide p2
      clear p2
      have P3 := hide p3
      clear p3
      obtain ⟨l2, c2, a2, rfl, _, _, _, q1, q2, q3⟩ := hR2
      have Q1 := hide q1
      clear q1
      have Q2 := hide q2
      clear q2
      have Q3 := hide q3
      clear q3
      have c0 := hc 0 (by simp)
      have d0 := hc2 0 (by simp)
      have c1 := hc 1 (by simp)
      have d1 := hc2 1 (by simp)
      have c2 := hc 2 (by simp)
      have d2 := hc2 2 (by simp)
      have c3 := hc 3 (by simp)
      have d3 := hc2 3 (by simp)
      have c4 := hc 4 (by simp)
      have d4 := hc2 4 (by simp)
      have c5 := hc 5 (by simp)
      have d5 := hc2 5 (by simp)
      simp only [Nat.mul_one, Nat.add_zero, List.getElem_cons_zero, List.getElem_cons_succ] at c0 d0 c1 d1 c2 d2 c3 d3 c4 d4 c5 d5
      clear hc hcs hc2 hcs2
      have hlt' : (k : Int) < (xs.length : Int) := by omega
      go_wp2_with fail
      go_region_with (go_at_call 79; refine (eqStm_ok _ _ _ _ _ _ _ _ (unhide P1) (unhide Q1) (unhide P2) (unhide Q2) (unhide P3) (unhide Q3)).mono ?_; rintro e w1 ⟨rfl, hb1⟩)
      all_goals
        go_wp2
        go_roundg (xs.length - (k + 1))
        case measure => have := unhide HG; omega
        case rel => exact ⟨k + 1, by omega, rfl, by go_num, hbl.drew.trans (hb1.mono hbl.drew.size)⟩
    · go_wp2
      go_ret
      exact ⟨rfl, hbl⟩

set_option maxHeartbeats 1000000 in
theorem eqClass_ok (x : DClass) (a1 b1 a2 b2 a3 b3 a4 b4 a5 b5 a6 b6 : Value) (w : World) (h1 : SlAt 2 24 RSlot 0 w a1 x.ins) (g1 : SlAt 2 24 RSlot 0 w b1 x.ins) (h2 : SlAt 2 24 RSlot 0 w a2 x.outs) (g2 : SlAt 2 24 RSlot 0 w b2 x.outs) (h3 : SlAt 1 16 RStr 0 w a3 x.locs) (g3 : SlAt 1 16 RStr 0 w b3 x.locs) (h4 : SlAt 1 8 RInt 0 w a4 x.mems) (g4 : SlAt 1 8 RInt 0 w b4 x.mems) (h5 : SlAt 1 8 RInt 0 w a5 x.insts) (g5 : SlAt 1 8 RInt 0 w b5 x.insts) (h6 : SlAt 6 104 RStm 0 w a6 x.body) (g6 : SlAt 6 104 RStm 0 w b6 x.body) :
    Calls Tryz.prog 31 #[.agg #[.string x.name, a1, a2, a3, a4, a5, a6], .agg #[.string x.name, b1, b2, b3, b4, b5, b6]] w (YesPost w) := by
  obtain ⟨s, ins, outs, locs, mems, insts, body⟩ := x
  simp only at h1 g1 h2 g2 h3 g3 h4 g4 h5 g5 h6 g6
  have H1 := hide h1
  have G1 := hide g1
  clear h1 g1
  have H2 := hide h2
  have G2 := hide g2
  clear h2 g2
  have H3 := hide h3
  have G3 := hide g3
  clear h3 g3
  have H4 := hide h4
  have G4 := hide g4
  clear h4 g4
  have H5 := hide h5
  have G5 := hide g5
  clear h5 g5
  have H6 := hide h6
  have G6 := hide g6
  clear h6 g6
  go_enter Tryz.func31, Tryz.ntmps31
  have B0 : Below w.heap.size w ((w.alloc (.cells _ _)).alloc (.cells _ _)) := ((Below.refl w.heap.size w).alloc (Nat.le_refl _) (.cells #[.string s, a1, a2, a3, a4, a5, a6] 40)).alloc (by simp) (.cells #[.string s, b1, b2, b3, b4, b5, b6] 40)
  go_wp2_with fail
  refine (eqSlotS_ok ins _ _ _ ?_ ?_).mono ?_
  · exact (unhide H1).stays RSlot_kept B0
  · exact (unhide G1).stays RSlot_kept B0
  rintro e w1 ⟨rfl, hb⟩
  obtain ⟨hc1, hf1⟩ := bcell hb
  have hz := hb.size
  have B1 : Below w.heap.size w w1 := B0.trans (hb.mono B0.size)
  try simp only [World.size_alloc] at hz hc1 hf1
  have hza1 : w.heap.size < w1.heap.size := by omega
  have hzb1 : w.heap.size + 1 < w1.heap.size := by omega
  clear hb hz
  go_wp2_with fail
  refine (eqSlotS_ok outs _ _ _ ?_ ?_).mono ?_
  · exact (unhide H2).stays RSlot_kept B1
  · exact (unhide G2).stays RSlot_kept B1
  rintro e w2 ⟨rfl, hb⟩
  obtain ⟨hc2, hf2⟩ := bcell hb
  have hz := hb.size
  have B2 : Below w.heap.size w w2 := B1.trans (hb.mono B1.size)
  try simp only [World.size_alloc] at hz hc2 hf2
  have hza2 : w.heap.size < w2.heap.size := by omega
  have hzb2 : w.heap.size + 1 < w2.heap.size := by omega
  clear hb hz
  go_wp2_with fail
  refine (eqStringS_ok locs _ _ _ ?_ ?_).mono ?_
  · exact (unhide H3).stays RStr_kept B2
  · exact (unhide G3).stays RStr_kept B2
  rintro e w3 ⟨rfl, hb⟩
  obtain ⟨hc3, hf3⟩ := bcell hb
  have hz := hb.size
  have B3 : Below w.heap.size w w3 := B2.trans (hb.mono B2.size)
  try simp only [World.size_alloc] at hz hc3 hf3
  have hza3 : w.heap.size < w3.heap.size := by omega
  have hzb3 : w.heap.size + 1 < w3.heap.size := by omega
  clear hb hz
  go_wp2_with fail
  refine (eqIntS_ok mems _ _ _ ?_ ?_).mono ?_
  · exact (unhide H4).stays RInt_kept B3
  · exact (unhide G4).stays RInt_kept B3
  rintro e w4 ⟨rfl, hb⟩
  obtain ⟨hc4, hf4⟩ := bcell hb
  have hz := hb.size
  have B4 : Below w.heap.size w w4 := B3.trans (hb.mono B3.size)
  try simp only [World.size_alloc] at hz hc4 hf4
  have hza4 : w.heap.size < w4.heap.size := by omega
  have hzb4 : w.heap.size + 1 < w4.heap.size := by omega
  clear hb hz
  go_wp2_with fail
  refine (eqIntS_ok insts _ _ _ ?_ ?_).mono ?_
  · exact (unhide H5).stays RInt_kept B4
  · exact (unhide G5).stays RInt_kept B4
  rintro e w5 ⟨rfl, hb⟩
  obtain ⟨hc5, hf5⟩ := bcell hb
  have hz := hb.size
  have B5 : Below w.heap.size w w5 := B4.trans (hb.mono B4.size)
  try simp only [World.size_alloc] at hz hc5 hf5
  have hza5 : w.heap.size < w5.heap.size := by omega
  have hzb5 : w.heap.size + 1 < w5.heap.size := by omega
  clear hb hz
  go_wp2_with fail
  refine (eqStmS_ok body _ _ _ ?_ ?_).mono ?_
  · exact (unhide H6).stays RStm_kept B5
  · exact (unhide G6).stays RStm_kept B5
  rintro e w6 ⟨rfl, hb⟩
  obtain ⟨hc6, hf6⟩ := bcell hb
  have hz := hb.size
  have B6 : Below w.heap.size w w6 := B5.trans (hb.mono B5.size)
  try simp only [World.size_alloc] at hz hc6 hf6
  have hza6 : w.heap.size < w6.heap.size := by omega
  have hzb6 : w.heap.size + 1 < w6.heap.size := by omega
  clear hb hz
  go_wp2
  go_ret
  exact ⟨rfl, B6⟩

set_option maxHeartbeats 400000 in
theorem eqClassS_ok (xs : List DClass) (v u : Value) (w : World) (hv : SlAt 7 160 RClass 0 w v xs) (hu : SlAt 7 160 RClass 0 w u xs) :
    Calls Tryz.prog 18 #[v, u] w (YesPost w) := by
  obtain ⟨a, cap, rfl, _, hn, hx⟩ := hv
  obtain ⟨a2, cap2, rfl, _, _, hy⟩ := hu
  unfold Len at hn
  have HX := hide hx
  have HY := hide hy
  clear hx hy
  go_enter Tryz.func18, Tryz.ntmps18
  go_wp2
  go_loopg [5] xs.length (fun g i wr => ∃ (k : Nat), k ≤ xs.length ∧ g = xs.length - k ∧ i = .int .i64 k ∧ Below w.heap.size w wr)
  case atStart => exact ⟨0, Nat.zero_le _, by omega, rfl, Below.refl _ _⟩
  case round =>
    obtain ⟨k, hk, hg, rfl, hbl⟩ := hrel
    have HG := hide hg
    clear hg
    by_cases hlt : k < xs.length
    · obtain ⟨b, o, cs, rfl, _, hb, hcs, hc, hR⟩ := unhide HX k hlt
      have hc : ∀ j (hj : j < cs.length), wr.cell? ⟨b, o + k * 7 + j, none⟩ = some cs[j] := fun j hj => by rw [hbl.cell (p := ⟨b, _, none⟩) hb]; exact hc j hj
      obtain ⟨b2, o2, cs2, rfl, _, hb2, hcs2, hc2, hR2⟩ := unhide HY k hlt
      have hc2 : ∀ j (hj : j < cs2.length), wr.cell? ⟨b2, o2 + k * 7 + j, none⟩ = some cs2[j] := fun j hj => by rw [hbl.cell (p := ⟨b2, _, none⟩) hb2]; exact hc2 j hj
      have hR := RClass_kept.stays _ _ _ _ _ hbl.drew hR
      have hR2 := RClass_kept.stays _ _ _ _ _ hbl.drew hR2
      obtain ⟨i1, i2, i3, i4, i5, i6, rfl, _, p1, p2, p3, p4, p5, p6⟩ := hR
      have P1 := hide p1
      clear p1
      have P2 := hide p2
      clear p2
      have P3 := hide p3
      clear p3
      have P4 := hide p4
      clear p4
      have P5 := hide p5
      clear p5
      have P6 := hide p6
      clear p6
      obtain ⟨j1, j2, j3, j4, j5, j6, rfl, _, q1, q2, q3, q4, q5, q6⟩ := hR2
      have Q1 := hide q1
      clear q1
      have Q2 := hide q2
      clear q2
      have Q3 := hide q3
      clear q3
      have Q4 := hide q4
      clear q4
      have Q5 := hide q5
      clear q5
      have Q6 := hide q6
      clear q6
      have c0 := hc 0 (by simp)
      have d0 := hc2 0 (by simp)
      have c1 := hc 1 (by simp)
      have d1 := hc2 1 (by simp)
      have c2 := hc 2 (by simp)
      have d2 := hc2 2 (by simp)
      have c3 := hc 3 (by simp)
      have d3 := hc2 3 (by simp)
      have c4 := hc 4 (by simp)
      have d4 := hc2 4 (by simp)
      have c5 := hc 5 (by simp)
      have d5 := hc2 5 (by simp)
      have c6 := hc 6 (by simp)
      have d6 := hc2 6 (by simp)
      simp only [Nat.mul_one, Nat.add_zero, List.getElem_cons_zero, List.getElem_cons_succ] at c0 d0 c1 d1 c2 d2 c3 d3 c4 d4 c5 d5 c6 d6
      clear hc hcs hc2 hcs2
      have hlt' : (k : Int) < (xs.length : Int) := by omega
      go_wp2_with fail
      go_region_with (go_at_call 31; refine (eqClass_ok _ _ _ _ _ _ _ _ _ _ _ _ _ _ (unhide P1) (unhide Q1) (unhide P2) (unhide Q2) (unhide P3) (unhide Q3) (unhide P4) (unhide Q4) (unhide P5) (unhide Q5) (unhide P6) (unhide Q6)).mono ?_; rintro e w1 ⟨rfl, hb1⟩)
      all_goals
        go_wp2
        go_roundg (xs.length - (k + 1))
        case measure => have := unhide HG; omega
        case rel => exact ⟨k + 1, by omega, rfl, by go_num, hbl.drew.trans (hb1.mono hbl.drew.size)⟩
    · go_wp2
      go_ret
      exact ⟨rfl, hbl⟩

set_option maxHeartbeats 400000 in
theorem eqMachine_ok (ks : List DClass) (v u : Value) (w : World) (h1 : SlAt 7 160 RClass 0 w v ks) (g1 : SlAt 7 160 RClass 0 w u ks) :
    Calls Tryz.prog 8 #[.agg #[v], .agg #[u]] w (YesPost w) := by
  have H1 := hide h1
  have G1 := hide g1
  clear h1 g1
  have B0 : Below w.heap.size w ((w.alloc (.cells _ _)).alloc (.cells _ _)) := ((Below.refl w.heap.size w).alloc (Nat.le_refl _) (.cells #[v] 29)).alloc (by simp) (.cells #[u] 29)
  go_enter Tryz.func8, Tryz.ntmps8
  go_wp2_with fail
  refine (eqClassS_ok ks _ _ _ ?_ ?_).mono ?_
  · exact (unhide H1).stays RClass_kept B0
  · exact (unhide G1).stays RClass_kept B0
  rintro e w1 ⟨rfl, hb⟩
  have B1 : Below w.heap.size w w1 := B0.trans (hb.mono B0.size)
  go_wp2
  go_ret
  exact ⟨rfl, B1⟩

end Go.Proofs.YtmglbkndjnflkaaGreatDoor
