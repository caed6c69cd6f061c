import Derived.Test.YtnfgcklppaknbaaToB
namespace Go.Proofs.Ytnfgcklppaknbaa
open Go.RowKit
set_option linter.unusedSimpArgs false
set_option linter.unusedVariables false

theorem info_toStringS : (Try.prog.info? 9).map (fun i => (i.zero, i.size, i.bytes)) = some (some (.string ByteArray.empty), 1, 16) := by kernel_rfl

set_option maxHeartbeats 400000 in
theorem toStringS_ok (xs : List ByteArray) (v : Value) (w : World) (hv : SlAt 1 16 RStr 0 w v xs) :
    Calls Try.prog 85 #[v] w (ToPostS 1 16 RStr w xs) := by
  obtain ⟨a, cap, rfl, ⟨hnb, _⟩, hn, hx⟩ := hv
  have HNB := hide hnb
  have HN := hide hn
  unfold Len at hn hnb
  have HX := hide hx
  clear hx
  have hmk := make_rows (P := Try.prog) 47 9 _ _ _ Try.underlying47 info_toStringS xs.length hnb hn
  clear hnb
  go_enter Try.func85, Try.ntmps85
  go_wp2
  go_loopg [4] xs.length (fun g i wr => ∃ (k : Nat), k ≤ xs.length ∧ g = xs.length - k ∧ i = .int .i64 k ∧ BelF w.heap.size w wr ∧ RowAt wr w.heap.size xs.length ∧ Filled 1 RStr (w.heap.size + 1) wr w.heap.size xs k)
  case atStart => exact ⟨0, Nat.zero_le _, by omega, rfl, (BelF.refl _).alloc (Nat.le_refl _) _, RowAt.made _ _ _ _, fill_none _ _ _ _ _ _⟩
  case round =>
    obtain ⟨k, hk, hg, rfl, hbl, hrow, hfil⟩ := hrel
    clear hmk
    have HG := hide hg
    have HF := hide hfil
    clear hg hfil
    by_cases hlt : k < xs.length
    · obtain ⟨b, o, cs, rfl, _, hb, hcs, hc, hR⟩ := unhide HX k hlt
      have hR := RStr_kept.stays _ _ _ _ _ hbl.below hR
      have hc : ∀ j (hj : j < cs.length), wr.cell? ⟨b, o + k * 1 + j, none⟩ = some cs[j] := fun j hj => by rw [hbl.below.cell (p := ⟨b, _, none⟩) hb]; exact hc j hj
      obtain ⟨rfl, hsn⟩ := hR
      have c0 := hc 0 (by simp)
      simp only [Nat.mul_one, Nat.add_zero, List.getElem_cons_zero, List.getElem_cons_succ] at c0
      clear hc hcs
      obtain ⟨x0, d0⟩ := hrow.cell (i := k) (by omega)
      have f0 := hrow.frozen k
      have step := fill_stepF RStr_kept RStr_lowers hlt (Nat.le_refl _) hbl (by rw [Nat.mul_one]; exact hrow) (unhide HF) (BelF.refl _) rfl (cs := [.string xs[k]]) ⟨rfl, hsn⟩
      simp only [Nat.mul_one] at step
      have ST := hide step
      clear step
      generalize xs[k] = s at *
      go_wp2
      go_roundg (xs.length - (k + 1))
      case measure => have := unhide HG; omega
      case rel => exact ⟨k + 1, by omega, rfl, by go_num, unhide ST⟩
    · have e : k = xs.length := by omega
      have hb0 := hrow.lt
      have D := hide (fill_done RStr_lowers hb0 (unhide HNB) (unhide HN) (by have := unhide HF; rwa [e] at this))
      clear hrow
      go_wp2
      go_ret
      exact ⟨_, rfl, unhide D, hbl⟩

theorem info_toItemSS : (Try.prog.info? 48).map (fun i => (i.zero, i.size, i.bytes)) = some (some (.slice none 0 0), 1, 24) := by kernel_rfl

set_option maxHeartbeats 400000 in
theorem toItemSS_ok (xs : List (List DItem)) (v : Value) (w : World) (hv : SlAt 1 24 RItems 0 w v xs) :
    Calls Try.prog 87 #[v] w (ToPostS 1 24 RItems w xs) := by
  obtain ⟨a, cap, rfl, ⟨hnb, _⟩, hn, hx⟩ := hv
  have HNB := hide hnb
  have HN := hide hn
  unfold Len at hn hnb
  have HX := hide hx
  clear hx
  have hmk := make_rows (P := Try.prog) 49 48 _ _ _ Try.underlying49 info_toItemSS xs.length hnb hn
  clear hnb
  go_enter Try.func87, Try.ntmps87
  go_wp2
  go_loopg [4] xs.length (fun g i wr => ∃ (k : Nat), k ≤ xs.length ∧ g = xs.length - k ∧ i = .int .i64 k ∧ BelF w.heap.size w wr ∧ RowAt wr w.heap.size xs.length ∧ Filled 1 RItems (w.heap.size + 1) wr w.heap.size xs k)
  case atStart => exact ⟨0, Nat.zero_le _, by omega, rfl, (BelF.refl _).alloc (Nat.le_refl _) _, RowAt.made _ _ _ _, fill_none _ _ _ _ _ _⟩
  case round =>
    obtain ⟨k, hk, hg, rfl, hbl, hrow, hfil⟩ := hrel
    clear hmk
    have HG := hide hg
    have HF := hide hfil
    clear hg hfil
    by_cases hlt : k < xs.length
    · obtain ⟨b, o, cs, rfl, _, hb, hcs, hc, hR⟩ := unhide HX k hlt
      have hR := RItems_kept.stays _ _ _ _ _ hbl.below hR
      have hc : ∀ j (hj : j < cs.length), wr.cell? ⟨b, o + k * 1 + j, none⟩ = some cs[j] := fun j hj => by rw [hbl.below.cell (p := ⟨b, _, none⟩) hb]; exact hc j hj
      obtain ⟨vl, rfl, hcl⟩ := hR
      have HCL := hide hcl
      clear hcl
      have c0 := hc 0 (by simp)
      simp only [Nat.mul_one, Nat.add_zero, List.getElem_cons_zero, List.getElem_cons_succ] at c0
      clear hc hcs
      go_wp2_with fail
      refine (toItemS_ok _ _ _ (unhide HCL)).mono ?_
      rintro e w1 ⟨v', rfl, hS1, hb1⟩
      have hR1 : RItems wr.heap.size w1 [v'] xs[k] := ⟨v', rfl, hS1⟩
      have hrow1 := hrow.below hb1.below
      have hR1' := hR1
      obtain ⟨aa1, ca1, rfl⟩ := hS1.shape
      clear hS1
      obtain ⟨x0, d0⟩ := hrow1.cell (i := k) (by omega)
      have f0 := hrow1.frozen (k)
      have step := fill_stepF RItems_kept RItems_lowers hlt (Nat.le_refl _) hbl (by rw [Nat.mul_one]; exact hrow) (unhide HF) hb1 rfl hR1'
      simp only [Nat.mul_one] at step
      have ST := hide step
      clear c0 step hR1' hR1 hrow1
      go_wp2
      go_roundg (xs.length - (k + 1))
      case measure => have := unhide HG; omega
      case rel => exact ⟨k + 1, by omega, rfl, by go_num, unhide ST⟩
    · have e : k = xs.length := by omega
      have hb0 := hrow.lt
      have D := hide (fill_done RItems_lowers hb0 (unhide HNB) (unhide HN) (by have := unhide HF; rwa [e] at this))
      clear hrow
      go_wp2
      go_ret
      exact ⟨_, rfl, unhide D, hbl⟩

end Go.Proofs.Ytnfgcklppaknbaa
