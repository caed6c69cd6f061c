import Derived.Test.YtmglbkndjnflkaaGreatDoorFill
import Derived.Test.YtmglbkndjnflkaaGreatDoorProg
import Derived.WalkLawsBesides
import Derived.Deep.LoopGhost
namespace Go.Proofs.YtmglbkndjnflkaaGreatDoor
open Go.RowKit
set_option linter.unusedSimpArgs false
set_option linter.unusedVariables false

/-- What a call that copies one thing answers: it lies in new memory. -/
def ToPost {α : Type} (R : Nat → World → List Value → α → Prop) (w : World) (x : α) (e : Ending) (w' : World) : Prop :=
  ∃ cs : List Value, e = .returned (.agg cs.toArray) ∧ R w.heap.size w' cs x ∧ BelF w.heap.size w w'
def ToPostS {α : Type} (sz byt : Nat) (R : Nat → World → List Value → α → Prop) (w : World) (xs : List α) (e : Ending) (w' : World) : Prop :=
  ∃ v : Value, e = .returned v ∧ SlAt sz byt R w.heap.size w' v xs ∧ BelF w.heap.size w w'

def ToPostB {α : Type} (R : Nat → World → List Value → α → Prop) (w : World) (x : α) (e : Ending) (w' : World) : Prop :=
  ∃ cs : List Value, e = .returned (.agg cs.toArray) ∧ R w.heap.size w' cs x ∧ Below w.heap.size w w'
theorem ToPost.weak {α : Type} {R : Nat → World → List Value → α → Prop} {w : World} {x : α} {e : Ending} {w' : World} (h : ToPost R w x e w') : ToPostB R w x e w' := by
  obtain ⟨cs, h1, h2, h3⟩ := h
  exact ⟨cs, h1, h2, h3.below⟩

set_option maxHeartbeats 400000 in
theorem toItem_ok (t : DItem) (w : World) (hs : Len t.name.size) (ho : I64 t.op) (hv : I64 t.val) :
    Calls Tryz.prog 112 #[.agg #[.int .i64 t.op, .int .i64 t.val, .string t.name]] w (ToPost RItem w t) := by
  obtain ⟨op, val, s⟩ := t
  simp only at hs ho hv
  have HS := hide hs
  have HO := hide ho
  have HV := hide hv
  clear hs ho hv
  go_enter Tryz.func112, Tryz.ntmps112
  go_wp2
  exact bodyPost_ret (v := .agg #[.int .i64 op, .int .i64 val, .string s]) (by simp [results, Tryz.results112, go_sem]) rfl ⟨[.int .i64 op, .int .i64 val, .string s], rfl, ⟨rfl, unhide HS, unhide HO, unhide HV⟩, (((BelF.refl _).alloc (Nat.le_refl _) _).alloc (by simp) _).alloc (by simp; omega) _⟩

theorem info_toItemS : (Tryz.prog.info? 88).map (fun i => (i.zero, i.size, i.bytes)) = some (some (.agg #[.int .i64 0, .int .i64 0, .string ByteArray.empty]), 3, 32) := by kernel_rfl

set_option maxHeartbeats 400000 in
theorem toItemS_ok (xs : List DItem) (v : Value) (w : World) (hv : SlAt 3 32 RItem 0 w v xs) :
    Calls Tryz.prog 87 #[v] w (ToPostS 3 32 RItem w xs) := by
  obtain ⟨a, cap, rfl, ⟨hnb, _⟩, hn, hx⟩ := hv
  have HNB := hide hnb
  have HN := hide hn
  unfold Len at hn hnb
  have HX := hide hx
  clear hx
  have hmk := make_rows (P := Tryz.prog) 44 88 _ _ _ Tryz.underlying44 info_toItemS xs.length hnb hn
  clear hnb
  go_enter Tryz.func87, Tryz.ntmps87
  go_wp2
  go_loopg [4] xs.length (fun g i wr => ∃ (k : Nat), k ≤ xs.length ∧ g = xs.length - k ∧ i = .int .i64 k ∧ BelF w.heap.size w wr ∧ RowAt wr w.heap.size (xs.length * 3) ∧ Filled 3 RItem (w.heap.size + 1) wr w.heap.size xs k)
  case atStart => exact ⟨0, Nat.zero_le _, by omega, rfl, (BelF.refl _).alloc (Nat.le_refl _) _, RowAt.made _ _ _ _, fill_none _ _ _ _ _ _⟩
  case round =>
    obtain ⟨k, hk, hg, rfl, hbl, hrow, hfil⟩ := hrel
    clear hmk
    have HG := hide hg
    have HF := hide hfil
    clear hg hfil
    by_cases hlt : k < xs.length
    · obtain ⟨b, o, cs, rfl, _, hb, hcs, hc, hR⟩ := unhide HX k hlt
      have hR := RItem_kept.stays _ _ _ _ _ hbl.below hR
      have hc : ∀ j (hj : j < cs.length), wr.cell? ⟨b, o + k * 3 + j, none⟩ = some cs[j] := fun j hj => by rw [hbl.below.cell (p := ⟨b, _, none⟩) hb]; exact hc j hj
      obtain ⟨rfl, hsn, ho, hv⟩ := hR
      have c0 := hc 0 (by simp)
      have c1 := hc 1 (by simp)
      have c2 := hc 2 (by simp)
      simp only [Nat.mul_one, Nat.add_zero, List.getElem_cons_zero, List.getElem_cons_succ] at c0 c1 c2
      clear hc hcs
      go_wp2_with fail
      refine (toItem_ok _ _ hsn ho hv).mono ?_
      rintro e w1 ⟨cs', rfl, hR1, hb1⟩
      have hrow1 := hrow.below hb1.below
      have hR1' := hR1
      obtain ⟨rfl, hsn1, ho1, hv1⟩ := hR1
      obtain ⟨x0, d0⟩ := hrow1.cell (i := k * 3) (by omega)
      have f0 := hrow1.frozen (k * 3)
      obtain ⟨x1, d1⟩ := hrow1.cell (i := k * 3 + 1) (by omega)
      have f1 := hrow1.frozen (k * 3 + 1)
      obtain ⟨x2, d2⟩ := hrow1.cell (i := k * 3 + 2) (by omega)
      have f2 := hrow1.frozen (k * 3 + 2)
      have step := fill_stepF RItem_kept RItem_lowers hlt (Nat.le_refl _) hbl hrow (unhide HF) hb1 rfl hR1'
      have ST := hide step
      clear c0 c1 c2 step hR1' hrow1
      go_wp2
      go_roundg (xs.length - (k + 1))
      case measure => have := unhide HG; omega
      case rel => exact ⟨k + 1, by omega, rfl, by go_num, unhide ST⟩
    · have e : k = xs.length := by omega
      have hb0 := hrow.lt
      have D := hide (fill_done RItem_lowers hb0 (unhide HNB) (unhide HN) (by have := unhide HF; rwa [e] at this))
      clear hrow
      go_wp2
      go_ret
      exact ⟨_, rfl, unhide D, hbl⟩

end Go.Proofs.YtmglbkndjnflkaaGreatDoor
namespace Go.Proofs.YtmglbkndjnflkaaGreatDoor
open Go.RowKit
set_option linter.unusedSimpArgs false
set_option linter.unusedVariables false

end Go.Proofs.YtmglbkndjnflkaaGreatDoor
namespace Go.Proofs.YtmglbkndjnflkaaGreatDoor
open Go.RowKit
set_option linter.unusedSimpArgs false
set_option linter.unusedVariables false

theorem info_toStringS : (Tryz.prog.info? 9).map (fun i => (i.zero, i.size, i.bytes)) = some (some (.string ByteArray.empty), 1, 16) := by kernel_rfl

set_option maxHeartbeats 400000 in
theorem toStringS_ok (xs : List ByteArray) (v : Value) (w : World) (hv : SlAt 1 16 RStr 0 w v xs) :
    Calls Tryz.prog 47 #[v] w (ToPostS 1 16 RStr w xs) := by
  obtain ⟨a, cap, rfl, ⟨hnb, _⟩, hn, hx⟩ := hv
  have HNB := hide hnb
  have HN := hide hn
  unfold Len at hn hnb
  have HX := hide hx
  clear hx
  have hmk := make_rows (P := Tryz.prog) 35 9 _ _ _ Tryz.underlying35 info_toStringS xs.length hnb hn
  clear hnb
  go_enter Tryz.func47, Tryz.ntmps47
  go_wp2
  go_loopg [4] xs.length (fun g i wr => ∃ (k : Nat), k ≤ xs.length ∧ g = xs.length - k ∧ i = .int .i64 k ∧ BelF w.heap.size w wr ∧ RowAt wr w.heap.size xs.length ∧ Filled 1 RStr (w.heap.size + 1) wr w.heap.size xs k)
  case atStart => exact ⟨0, Nat.zero_le _, by omega, rfl, (BelF.refl _).alloc (Nat.le_refl _) _, RowAt.made _ _ _ _, fill_none _ _ _ _ _ _⟩
  case round =>
    obtain ⟨k, hk, hg, rfl, hbl, hrow, hfil⟩ := hrel
    clear hmk
    have HG := hide hg
    have HF := hide hfil
    clear hg hfil
    by_cases hlt : k < xs.length
    · obtain ⟨b, o, cs, rfl, _, hb, hcs, hc, hR⟩ := unhide HX k hlt
      have hR := RStr_kept.stays _ _ _ _ _ hbl.below hR
      have hc : ∀ j (hj : j < cs.length), wr.cell? ⟨b, o + k * 1 + j, none⟩ = some cs[j] := fun j hj => by rw [hbl.below.cell (p := ⟨b, _, none⟩) hb]; exact hc j hj
      obtain ⟨rfl, hsn⟩ := hR
      have c0 := hc 0 (by simp)
      simp only [Nat.mul_one, Nat.add_zero, List.getElem_cons_zero, List.getElem_cons_succ] at c0
      clear hc hcs
      obtain ⟨x0, d0⟩ := hrow.cell (i := k) (by omega)
      have f0 := hrow.frozen k
      have step := fill_stepF RStr_kept RStr_lowers hlt (Nat.le_refl _) hbl (by rw [Nat.mul_one]; exact hrow) (unhide HF) (BelF.refl _) rfl (cs := [.string xs[k]]) ⟨rfl, hsn⟩
      simp only [Nat.mul_one] at step
      have ST := hide step
      clear step
      generalize xs[k] = s at *
      go_wp2
      go_roundg (xs.length - (k + 1))
      case measure => have := unhide HG; omega
      case rel => exact ⟨k + 1, by omega, rfl, by go_num, unhide ST⟩
    · have e : k = xs.length := by omega
      have hb0 := hrow.lt
      have D := hide (fill_done RStr_lowers hb0 (unhide HNB) (unhide HN) (by have := unhide HF; rwa [e] at this))
      clear hrow
      go_wp2
      go_ret
      exact ⟨_, rfl, unhide D, hbl⟩

theorem info_toItemSS : (Tryz.prog.info? 44).map (fun i => (i.zero, i.size, i.bytes)) = some (some (.slice none 0 0), 1, 24) := by kernel_rfl

set_option maxHeartbeats 400000 in
theorem toItemSS_ok (xs : List (List DItem)) (v : Value) (w : World) (hv : SlAt 1 24 RItems 0 w v xs) :
    Calls Tryz.prog 88 #[v] w (ToPostS 1 24 RItems w xs) := by
  obtain ⟨a, cap, rfl, ⟨hnb, _⟩, hn, hx⟩ := hv
  have HNB := hide hnb
  have HN := hide hn
  unfold Len at hn hnb
  have HX := hide hx
  clear hx
  have hmk := make_rows (P := Tryz.prog) 45 44 _ _ _ Tryz.underlying45 info_toItemSS xs.length hnb hn
  clear hnb
  go_enter Tryz.func88, Tryz.ntmps88
  go_wp2
  go_loopg [4] xs.length (fun g i wr => ∃ (k : Nat), k ≤ xs.length ∧ g = xs.length - k ∧ i = .int .i64 k ∧ BelF w.heap.size w wr ∧ RowAt wr w.heap.size xs.length ∧ Filled 1 RItems (w.heap.size + 1) wr w.heap.size xs k)
  case atStart => exact ⟨0, Nat.zero_le _, by omega, rfl, (BelF.refl _).alloc (Nat.le_refl _) _, RowAt.made _ _ _ _, fill_none _ _ _ _ _ _⟩
  case round =>
    obtain ⟨k, hk, hg, rfl, hbl, hrow, hfil⟩ := hrel
    clear hmk
    have HG := hide hg
    have HF := hide hfil
    clear hg hfil
    by_cases hlt : k < xs.length
    · obtain ⟨b, o, cs, rfl, _, hb, hcs, hc, hR⟩ := unhide HX k hlt
      have hR := RItems_kept.stays _ _ _ _ _ hbl.below hR
      have hc : ∀ j (hj : j < cs.length), wr.cell? ⟨b, o + k * 1 + j, none⟩ = some cs[j] := fun j hj => by rw [hbl.below.cell (p := ⟨b, _, none⟩) hb]; exact hc j hj
      obtain ⟨vl, rfl, hcl⟩ := hR
      have HCL := hide hcl
      clear hcl
      have c0 := hc 0 (by simp)
      simp only [Nat.mul_one, Nat.add_zero, List.getElem_cons_zero, List.getElem_cons_succ] at c0
      clear hc hcs
      go_wp2_with fail
      refine (toItemS_ok _ _ _ (unhide HCL)).mono ?_
      rintro e w1 ⟨v', rfl, hS1, hb1⟩
      have hR1 : RItems wr.heap.size w1 [v'] xs[k] := ⟨v', rfl, hS1⟩
      have hrow1 := hrow.below hb1.below
      have hR1' := hR1
      obtain ⟨aa1, ca1, rfl⟩ := hS1.shape
      clear hS1
      obtain ⟨x0, d0⟩ := hrow1.cell (i := k) (by omega)
      have f0 := hrow1.frozen (k)
      have step := fill_stepF RItems_kept RItems_lowers hlt (Nat.le_refl _) hbl (by rw [Nat.mul_one]; exact hrow) (unhide HF) hb1 rfl hR1'
      simp only [Nat.mul_one] at step
      have ST := hide step
      clear c0 step hR1' hR1 hrow1
      go_wp2
      go_roundg (xs.length - (k + 1))
      case measure => have := unhide HG; omega
      case rel => exact ⟨k + 1, by omega, rfl, by go_num, unhide ST⟩
    · have e : k = xs.length := by omega
      have hb0 := hrow.lt
      have D := hide (fill_done RItems_lowers hb0 (unhide HNB) (unhide HN) (by have := unhide HF; rwa [e] at this))
      clear hrow
      go_wp2
      go_ret
      exact ⟨_, rfl, unhide D, hbl⟩

end Go.Proofs.YtmglbkndjnflkaaGreatDoor
