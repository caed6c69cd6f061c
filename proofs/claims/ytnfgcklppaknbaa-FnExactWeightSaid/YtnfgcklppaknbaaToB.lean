import Derived.Test.YtnfgcklppaknbaaTo
namespace Go.Proofs.Ytnfgcklppaknbaa
open Go.RowKit
set_option linter.unusedSimpArgs false
set_option linter.unusedVariables false

set_option maxHeartbeats 1000000 in
theorem toVar_ok (x : DVar) (a1 : Value) (w : World) (hs : Len x.name.size) (ht : I64 x.type) (h1 : SlAt 2 24 RCond 0 w a1 x.clock) :
    Calls Try.prog 67 #[.agg #[.string x.name, .int .i64 x.type, a1]] w (ToPost RVar w x) := by
  obtain ⟨s, ty, clk⟩ := x
  simp only at hs ht h1
  have Hhs := hide hs
  clear hs
  have Hht := hide ht
  clear ht
  have H1 := hide h1
  clear h1
  go_enter Try.func67, Try.ntmps67
  go_wp2_with fail
  refine (toCondS_ok clk _ _ ?_).mono ?_
  · exact (unhide H1).stays RCond_kept ((((Below.refl _ _).alloc (Nat.le_refl _) _).alloc (by simp) _).alloc (by simp <;> omega) _)
  rintro e w1 ⟨v1, rfl, hS, hb⟩
  obtain ⟨b1, cap1, rfl⟩ := hS.shape
  obtain ⟨hc1, hf1⟩ := bcell hb.below
  have hz := hb.below.size
  simp only [World.size_alloc, Deep.nblk_setCell] at hz hc1 hf1
  have HS1 := hide (hS.lower RCond_lowers (lo' := w.heap.size + 1 + 1 + 1) (by simp <;> omega))
  have HB1 : Hid (BelF w.heap.size w w1) := ((((BelF.refl _).alloc (Nat.le_refl _) _).alloc (by simp) _).alloc (by simp <;> omega) _).and hb (by simp <;> omega)
  have hza1 : w.heap.size < w1.heap.size := by omega
  have hzb1 : w.heap.size + 1 < w1.heap.size := by omega
  have hzc1 : w.heap.size + 1 + 1 < w1.heap.size := by omega
  clear hS hb hz
  go_wp2
  refine bodyPost_ret (v := .agg #[.string s, .int .i64 ty, .slice b1 clk.length cap1]) (by simp [results, Try.results67, go_sem, hc1, hza1, hzb1, hzc1]) rfl ⟨[.string s, .int .i64 ty, .slice b1 clk.length cap1], rfl, ⟨_, rfl, unhide Hhs, unhide Hht, ?_⟩, ?_⟩
  · exact ((unhide HS1).kept RCond_kept (by repeat (first | refine Kept.setCell ?_ (by simp <;> omega) _ | exact Kept.refl _ _ _))).lower RCond_lowers (by omega)
  · repeat (first | refine BelF.setCell ?_ (by simp <;> omega) _ | exact unhide HB1)

theorem info_toVarS : (Try.prog.info? 44).map (fun i => (i.zero, i.size, i.bytes)) = some (some (.agg #[.string ByteArray.empty, .int .i64 0, .slice none 0 0]), 3, 48) := by kernel_rfl

set_option maxHeartbeats 400000 in
theorem toVarS_ok (xs : List DVar) (v : Value) (w : World) (hv : SlAt 3 48 RVar 0 w v xs) :
    Calls Try.prog 49 #[v] w (ToPostS 3 48 RVar w xs) := by
  obtain ⟨a, cap, rfl, ⟨hnb, _⟩, hn, hx⟩ := hv
  have HNB := hide hnb
  have HN := hide hn
  unfold Len at hn hnb
  have HX := hide hx
  clear hx
  have hmk := make_rows (P := Try.prog) 36 44 _ _ _ Try.underlying36 info_toVarS xs.length hnb hn
  clear hnb
  go_enter Try.func49, Try.ntmps49
  go_wp2
  go_loopg [4] xs.length (fun g i wr => ∃ (k : Nat), k ≤ xs.length ∧ g = xs.length - k ∧ i = .int .i64 k ∧ BelF w.heap.size w wr ∧ RowAt wr w.heap.size (xs.length * 3) ∧ Filled 3 RVar (w.heap.size + 1) wr w.heap.size xs k)
  case atStart => exact ⟨0, Nat.zero_le _, by omega, rfl, (BelF.refl _).alloc (Nat.le_refl _) _, RowAt.made _ _ _ _, fill_none _ _ _ _ _ _⟩
  case round =>
    obtain ⟨k, hk, hg, rfl, hbl, hrow, hfil⟩ := hrel
    clear hmk
    have HG := hide hg
    have HF := hide hfil
    clear hg hfil
    by_cases hlt : k < xs.length
    · obtain ⟨b, o, cs, rfl, _, hb, hcs, hc, hR⟩ := unhide HX k hlt
      have hR := RVar_kept.stays _ _ _ _ _ hbl.below hR
      have hc : ∀ j (hj : j < cs.length), wr.cell? ⟨b, o + k * 3 + j, none⟩ = some cs[j] := fun j hj => by rw [hbl.below.cell (p := ⟨b, _, none⟩) hb]; exact hc j hj
      obtain ⟨cl, rfl, hsn, hty, hcl⟩ := hR
      have HCL := hide hcl
      clear hcl
      have c0 := hc 0 (by simp)
      have c1 := hc 1 (by simp)
      have c2 := hc 2 (by simp)
      simp only [Nat.mul_one, Nat.add_zero, List.getElem_cons_zero, List.getElem_cons_succ] at c0 c1 c2
      clear hc hcs
      go_wp2_with fail
      refine (toVar_ok _ _ _ hsn hty (unhide HCL)).mono ?_
      rintro e w1 ⟨cs', rfl, hR1, hb1⟩
      have hrow1 := hrow.below hb1.below
      have hR1' := hR1
      obtain ⟨cl1, rfl, hsn1, hty1, hcl1⟩ := hR1
      obtain ⟨aa1, ca1, rfl⟩ := hcl1.shape
      clear hcl1
      obtain ⟨x0, d0⟩ := hrow1.cell (i := k * 3) (by omega)
      have f0 := hrow1.frozen (k * 3)
      obtain ⟨x1, d1⟩ := hrow1.cell (i := k * 3 + 1) (by omega)
      have f1 := hrow1.frozen (k * 3 + 1)
      obtain ⟨x2, d2⟩ := hrow1.cell (i := k * 3 + 2) (by omega)
      have f2 := hrow1.frozen (k * 3 + 2)
      have step := fill_stepF RVar_kept RVar_lowers hlt (Nat.le_refl _) hbl hrow (unhide HF) hb1 rfl hR1'
      have ST := hide step
      clear c0 c1 c2 step hR1' hrow1
      go_wp2
      go_roundg (xs.length - (k + 1))
      case measure => have := unhide HG; omega
      case rel => exact ⟨k + 1, by omega, rfl, by go_num, unhide ST⟩
    · have e : k = xs.length := by omega
      have hb0 := hrow.lt
      have D := hide (fill_done RVar_lowers hb0 (unhide HNB) (unhide HN) (by have := unhide HF; rwa [e] at this))
      clear hrow
      go_wp2
      go_ret
      exact ⟨_, rfl, unhide D, hbl⟩

end Go.Proofs.Ytnfgcklppaknbaa
