import Derived.Test.YtnfgcklppaknbaaToC
namespace Go.Proofs.Ytnfgcklppaknbaa
open Go.RowKit
set_option linter.unusedSimpArgs false
set_option linter.unusedVariables false

set_option maxHeartbeats 1000000 in
theorem toEquation_ok (x : DEq) (a1 a2 a3 : Value) (w : World) (hs : Len x.call.size) (h1 : SlAt 1 16 RStr 0 w a1 x.lhs) (h2 : SlAt 3 32 RItem 0 w a2 x.code) (h3 : SlAt 1 24 RItems 0 w a3 x.args) :
    Calls Try.prog 68 #[.agg #[a1, a2, .string x.call, a3]] w (ToPost REq w x) := by
  obtain ⟨lhs, code, s, args⟩ := x
  simp only at hs h1 h2 h3
  have Hhs := hide hs
  clear hs
  have H1 := hide h1
  clear h1
  have H2 := hide h2
  clear h2
  have H3 := hide h3
  clear h3
  go_enter Try.func68, Try.ntmps68
  go_wp2_with fail
  refine (toStringS_ok lhs _ _ ?_).mono ?_
  · exact (unhide H1).stays RStr_kept ((((Below.refl _ _).alloc (Nat.le_refl _) _).alloc (by simp) _).alloc (by simp <;> omega) _)
  rintro e w1 ⟨v1, rfl, hS, hb⟩
  obtain ⟨b1, cap1, rfl⟩ := hS.shape
  obtain ⟨hc1, hf1⟩ := bcell hb.below
  have hz := hb.below.size
  simp only [World.size_alloc, Deep.nblk_setCell] at hz hc1 hf1
  have HS1 := hide (hS.lower RStr_lowers (lo' := w.heap.size + 1 + 1 + 1) (by simp <;> omega))
  have HB1 : Hid (BelF w.heap.size w w1) := ((((BelF.refl _).alloc (Nat.le_refl _) _).alloc (by simp) _).alloc (by simp <;> omega) _).and hb (by simp <;> omega)
  have hza1 : w.heap.size < w1.heap.size := by omega
  have hzb1 : w.heap.size + 1 < w1.heap.size := by omega
  have hzc1 : w.heap.size + 1 + 1 < w1.heap.size := by omega
  clear hS hb hz
  go_wp2_with fail
  refine (toItemS_ok code _ _ ?_).mono ?_
  · exact (unhide H2).stays RItem_kept (by repeat (first | refine Below.setCell ?_ (by simp <;> omega) _ | exact (unhide HB1).below))
  rintro e w2 ⟨v2, rfl, hS, hb⟩
  obtain ⟨b2, cap2, rfl⟩ := hS.shape
  obtain ⟨hc2, hf2⟩ := bcell hb.below
  have hz := hb.below.size
  simp only [World.size_alloc, Deep.nblk_setCell] at hz hc2 hf2
  have HS2 := hide (hS.lower RItem_lowers (lo' := w.heap.size + 1 + 1 + 1) (by simp <;> omega))
  have HB2 : Hid (BelF w.heap.size w w2) := by
    refine BelF.and ?_ hb (by simp <;> omega)
    repeat (first | refine BelF.setCell ?_ (by simp <;> omega) _ | exact unhide HB1)
  have HK : Kept (w.heap.size + 1 + 1 + 1) w1.heap.size w1 w2 := by
    refine Kept.trans ?_ (Kept.of_below hb.below) (by simp <;> omega)
    repeat (first | refine Kept.setCell ?_ (by simp <;> omega) _ | exact Kept.refl _ _ _)
  replace HS1 := hide ((unhide HS1).kept RStr_kept HK)
  clear HK
  have hza2 : w.heap.size < w2.heap.size := by omega
  have hzb2 : w.heap.size + 1 < w2.heap.size := by omega
  have hzc2 : w.heap.size + 1 + 1 < w2.heap.size := by omega
  clear hS hb hz
  go_wp2_with fail
  refine (toItemSS_ok args _ _ ?_).mono ?_
  · exact (unhide H3).stays RItems_kept (by repeat (first | refine Below.setCell ?_ (by simp <;> omega) _ | exact (unhide HB2).below))
  rintro e w3 ⟨v3, rfl, hS, hb⟩
  obtain ⟨b3, cap3, rfl⟩ := hS.shape
  obtain ⟨hc3, hf3⟩ := bcell hb.below
  have hz := hb.below.size
  simp only [World.size_alloc, Deep.nblk_setCell] at hz hc3 hf3
  have HS3 := hide (hS.lower RItems_lowers (lo' := w.heap.size + 1 + 1 + 1) (by simp <;> omega))
  have HB3 : Hid (BelF w.heap.size w w3) := by
    refine BelF.and ?_ hb (by simp <;> omega)
    repeat (first | refine BelF.setCell ?_ (by simp <;> omega) _ | exact unhide HB2)
  have HK : Kept (w.heap.size + 1 + 1 + 1) w2.heap.size w2 w3 := by
    refine Kept.trans ?_ (Kept.of_below hb.below) (by simp <;> omega)
    repeat (first | refine Kept.setCell ?_ (by simp <;> omega) _ | exact Kept.refl _ _ _)
  replace HS1 := hide ((unhide HS1).kept RStr_kept HK)
  replace HS2 := hide ((unhide HS2).kept RItem_kept HK)
  clear HK
  have hza3 : w.heap.size < w3.heap.size := by omega
  have hzb3 : w.heap.size + 1 < w3.heap.size := by omega
  have hzc3 : w.heap.size + 1 + 1 < w3.heap.size := by omega
  clear hS hb hz
  go_wp2
  refine bodyPost_ret (v := .agg #[.slice b1 lhs.length cap1, .slice b2 code.length cap2, .string s, .slice b3 args.length cap3]) (by simp [results, Try.results68, go_sem, hc1, hza1, hzb1, hzc1, hc2, hza2, hzb2, hzc2, hc3, hza3, hzb3, hzc3]) rfl ⟨[.slice b1 lhs.length cap1, .slice b2 code.length cap2, .string s, .slice b3 args.length cap3], rfl, ⟨_, _, _, rfl, unhide Hhs, ?_, ?_, ?_⟩, ?_⟩
  · exact ((unhide HS1).kept RStr_kept (by repeat (first | refine Kept.setCell ?_ (by simp <;> omega) _ | exact Kept.refl _ _ _))).lower RStr_lowers (by omega)
  · exact ((unhide HS2).kept RItem_kept (by repeat (first | refine Kept.setCell ?_ (by simp <;> omega) _ | exact Kept.refl _ _ _))).lower RItem_lowers (by omega)
  · exact ((unhide HS3).kept RItems_kept (by repeat (first | refine Kept.setCell ?_ (by simp <;> omega) _ | exact Kept.refl _ _ _))).lower RItems_lowers (by omega)
  · repeat (first | refine BelF.setCell ?_ (by simp <;> omega) _ | exact unhide HB3)

theorem info_toEquationS : (Try.prog.info? 51).map (fun i => (i.zero, i.size, i.bytes)) = some (some (.agg #[.slice none 0 0, .slice none 0 0, .string ByteArray.empty, .slice none 0 0]), 4, 88) := by kernel_rfl

set_option maxHeartbeats 400000 in
theorem toEquationS_ok (xs : List DEq) (v : Value) (w : World) (hv : SlAt 4 88 REq 0 w v xs) :
    Calls Try.prog 50 #[v] w (ToPostS 4 88 REq w xs) := by
  obtain ⟨a, cap, rfl, ⟨hnb, _⟩, hn, hx⟩ := hv
  have HNB := hide hnb
  have HN := hide hn
  unfold Len at hn hnb
  have HX := hide hx
  clear hx
  have hmk := make_rows (P := Try.prog) 37 51 _ _ _ Try.underlying37 info_toEquationS xs.length hnb hn
  clear hnb
  go_enter Try.func50, Try.ntmps50
  go_wp2
  go_loopg [4] xs.length (fun g i wr => ∃ (k : Nat), k ≤ xs.length ∧ g = xs.length - k ∧ i = .int .i64 k ∧ BelF w.heap.size w wr ∧ RowAt wr w.heap.size (xs.length * 4) ∧ Filled 4 REq (w.heap.size + 1) wr w.heap.size xs k)
  case atStart => exact ⟨0, Nat.zero_le _, by omega, rfl, (BelF.refl _).alloc (Nat.le_refl _) _, RowAt.made _ _ _ _, fill_none _ _ _ _ _ _⟩
  case round =>
    obtain ⟨k, hk, hg, rfl, hbl, hrow, hfil⟩ := hrel
    clear hmk
    have HG := hide hg
    have HF := hide hfil
    clear hg hfil
    by_cases hlt : k < xs.length
    · obtain ⟨b, o, cs, rfl, _, hb, hcs, hc, hR⟩ := unhide HX k hlt
      have hR := REq_kept.stays _ _ _ _ _ hbl.below hR
      have hc : ∀ j (hj : j < cs.length), wr.cell? ⟨b, o + k * 4 + j, none⟩ = some cs[j] := fun j hj => by rw [hbl.below.cell (p := ⟨b, _, none⟩) hb]; exact hc j hj
      obtain ⟨l, c, aa, rfl, hsn, g1, g2, g3⟩ := hR
      have G1 := hide g1
      have G2 := hide g2
      have G3 := hide g3
      clear g1 g2 g3
      have c0 := hc 0 (by simp)
      have c1 := hc 1 (by simp)
      have c2 := hc 2 (by simp)
      have c3 := hc 3 (by simp)
      simp only [Nat.mul_one, Nat.add_zero, List.getElem_cons_zero, List.getElem_cons_succ] at c0 c1 c2 c3
      clear hc hcs
      go_wp2_with fail
      refine (toEquation_ok _ _ _ _ _ hsn (unhide G1) (unhide G2) (unhide G3)).mono ?_
      rintro e w1 ⟨cs', rfl, hR1, hb1⟩
      have hrow1 := hrow.below hb1.below
      have hR1' := hR1
      obtain ⟨l1, c1, a1, rfl, hsn1, g1, g2, g3⟩ := hR1
      obtain ⟨aa1, ca1, rfl⟩ := g1.shape
      clear g1
      obtain ⟨aa2, ca2, rfl⟩ := g2.shape
      clear g2
      obtain ⟨aa3, ca3, rfl⟩ := g3.shape
      clear g3
      obtain ⟨x0, d0⟩ := hrow1.cell (i := k * 4) (by omega)
      have f0 := hrow1.frozen (k * 4)
      obtain ⟨x1, d1⟩ := hrow1.cell (i := k * 4 + 1) (by omega)
      have f1 := hrow1.frozen (k * 4 + 1)
      obtain ⟨x2, d2⟩ := hrow1.cell (i := k * 4 + 2) (by omega)
      have f2 := hrow1.frozen (k * 4 + 2)
      obtain ⟨x3, d3⟩ := hrow1.cell (i := k * 4 + 3) (by omega)
      have f3 := hrow1.frozen (k * 4 + 3)
      have step := fill_stepF REq_kept REq_lowers hlt (Nat.le_refl _) hbl hrow (unhide HF) hb1 rfl hR1'
      have ST := hide step
      clear c0 c1 c2 c3 step hR1' hrow1
      go_wp2
      go_roundg (xs.length - (k + 1))
      case measure => have := unhide HG; omega
      case rel => exact ⟨k + 1, by omega, rfl, by go_num, unhide ST⟩
    · have e : k = xs.length := by omega
      have hb0 := hrow.lt
      have D := hide (fill_done REq_lowers hb0 (unhide HNB) (unhide HN) (by have := unhide HF; rwa [e] at this))
      clear hrow
      go_wp2
      go_ret
      exact ⟨_, rfl, unhide D, hbl⟩

end Go.Proofs.Ytnfgcklppaknbaa
