import Derived.Test.YtlgeioedgaajoaaGreatDoorFill
import Derived.Test.YtlgeioedgaajoaaGreatDoorProg
import Derived.WalkLawsBesides
import Derived.Deep.LoopGhost
namespace Go.Proofs.YtlgeioedgaajoaaGreatDoor
open Go.RowKit
set_option linter.unusedSimpArgs false
set_option linter.unusedVariables false

/-- What a call that copies one thing answers: it lies in new memory. -/
def ToPost {α : Type} (R : Nat → World → List Value → α → Prop) (w : World) (x : α) (e : Ending) (w' : World) : Prop :=
  ∃ cs : List Value, e = .returned (.agg cs.toArray) ∧ R w.heap.size w' cs x ∧ BelF w.heap.size w w'
def ToPostS {α : Type} (sz byt : Nat) (R : Nat → World → List Value → α → Prop) (w : World) (xs : List α) (e : Ending) (w' : World) : Prop :=
  ∃ v : Value, e = .returned v ∧ SlAt sz byt R w.heap.size w' v xs ∧ BelF w.heap.size w w'

def ToPostB {α : Type} (R : Nat → World → List Value → α → Prop) (w : World) (x : α) (e : Ending) (w' : World) : Prop :=
  ∃ cs : List Value, e = .returned (.agg cs.toArray) ∧ R w.heap.size w' cs x ∧ Below w.heap.size w w'
theorem ToPost.weak {α : Type} {R : Nat → World → List Value → α → Prop} {w : World} {x : α} {e : Ending} {w' : World} (h : ToPost R w x e w') : ToPostB R w x e w' := by
  obtain ⟨cs, h1, h2, h3⟩ := h
  exact ⟨cs, h1, h2, h3.below⟩

set_option maxHeartbeats 400000 in
theorem toCond_ok (c : DCond) (w : World) (hs : Len c.name.size) :
    Calls Tryz.prog 108 #[.agg #[.string c.name, .bool c.on]] w (ToPost RCond w c) := by
  obtain ⟨s, on⟩ := c
  simp only at hs
  have HS := hide hs
  clear hs
  go_enter Tryz.func108, Tryz.ntmps108
  go_wp2
  exact bodyPost_ret (v := .agg #[.string s, .bool on]) (by simp [results, Tryz.results108, go_sem]) rfl ⟨[.string s, .bool on], rfl, ⟨rfl, unhide HS⟩, (((BelF.refl _).alloc (Nat.le_refl _) _).alloc (by simp) _).alloc (by simp; omega) _⟩

set_option maxHeartbeats 400000 in
theorem toItem_ok (t : DItem) (w : World) (hs : Len t.name.size) (ho : I64 t.op) (hv : I64 t.val) :
    Calls Tryz.prog 109 #[.agg #[.int .i64 t.op, .int .i64 t.val, .string t.name]] w (ToPost RItem w t) := by
  obtain ⟨op, val, s⟩ := t
  simp only at hs ho hv
  have HS := hide hs
  have HO := hide ho
  have HV := hide hv
  clear hs ho hv
  go_enter Tryz.func109, Tryz.ntmps109
  go_wp2
  exact bodyPost_ret (v := .agg #[.int .i64 op, .int .i64 val, .string s]) (by simp [results, Tryz.results109, go_sem]) rfl ⟨[.int .i64 op, .int .i64 val, .string s], rfl, ⟨rfl, unhide HS, unhide HO, unhide HV⟩, (((BelF.refl _).alloc (Nat.le_refl _) _).alloc (by simp) _).alloc (by simp; omega) _⟩

theorem info_toCondS : (Tryz.prog.info? 66).map (fun i => (i.zero, i.size, i.bytes)) = some (some (.agg #[.string ByteArray.empty, .bool false]), 2, 24) := by kernel_rfl

set_option maxHeartbeats 400000 in
theorem toCondS_ok (xs : List DCond) (v : Value) (w : World) (hv : SlAt 2 24 RCond 0 w v xs) :
    Calls Tryz.prog 86 #[v] w (ToPostS 2 24 RCond w xs) := by
  obtain ⟨a, cap, rfl, ⟨hnb, _⟩, hn, hx⟩ := hv
  have HNB := hide hnb
  have HN := hide hn
  unfold Len at hn hnb
  have HX := hide hx
  clear hx
  have hmk := make_rows (P := Tryz.prog) 62 66 _ _ _ Tryz.underlying62 info_toCondS xs.length hnb hn
  clear hnb
  go_enter Tryz.func86, Tryz.ntmps86
  go_wp2
  go_loopg [4] xs.length (fun g i wr => ∃ (k : Nat), k ≤ xs.length ∧ g = xs.length - k ∧ i = .int .i64 k ∧ BelF w.heap.size w wr ∧ RowAt wr w.heap.size (xs.length * 2) ∧ Filled 2 RCond (w.heap.size + 1) wr w.heap.size xs k)
  case atStart => exact ⟨0, Nat.zero_le _, by omega, rfl, (BelF.refl _).alloc (Nat.le_refl _) _, RowAt.made _ _ _ _, fill_none _ _ _ _ _ _⟩
  case round =>
    obtain ⟨k, hk, hg, rfl, hbl, hrow, hfil⟩ := hrel
    clear hmk
    have HG := hide hg
    have HF := hide hfil
    clear hg hfil
    by_cases hlt : k < xs.length
    · obtain ⟨b, o, cs, rfl, _, hb, hcs, hc, hR⟩ := unhide HX k hlt
      have hR := RCond_kept.stays _ _ _ _ _ hbl.below hR
      have hc : ∀ j (hj : j < cs.length), wr.cell? ⟨b, o + k * 2 + j, none⟩ = some cs[j] := fun j hj => by rw [hbl.below.cell (p := ⟨b, _, none⟩) hb]; exact hc j hj
      obtain ⟨rfl, hsn⟩ := hR
      have c0 := hc 0 (by simp)
      have c1 := hc 1 (by simp)
      simp only [Nat.mul_one, Nat.add_zero, List.getElem_cons_zero, List.getElem_cons_succ] at c0 c1
      clear hc hcs
      go_wp2_with fail
      refine (toCond_ok _ _ hsn).mono ?_
      rintro e w1 ⟨cs', rfl, hR1, hb1⟩
      have hrow1 := hrow.below hb1.below
      have hR1' := hR1
      obtain ⟨rfl, hsn1⟩ := hR1
      obtain ⟨x0, d0⟩ := hrow1.cell (i := k * 2) (by omega)
      have f0 := hrow1.frozen (k * 2)
      obtain ⟨x1, d1⟩ := hrow1.cell (i := k * 2 + 1) (by omega)
      have f1 := hrow1.frozen (k * 2 + 1)
      have step := fill_stepF RCond_kept RCond_lowers hlt (Nat.le_refl _) hbl hrow (unhide HF) hb1 rfl hR1'
      have ST := hide step
      clear c0 c1 step hR1' hrow1
      go_wp2
      go_roundg (xs.length - (k + 1))
      case measure => have := unhide HG; omega
      case rel => exact ⟨k + 1, by omega, rfl, by go_num, unhide ST⟩
    · have e : k = xs.length := by omega
      have hb0 := hrow.lt
      have D := hide (fill_done RCond_lowers hb0 (unhide HNB) (unhide HN) (by have := unhide HF; rwa [e] at this))
      clear hrow
      go_wp2
      go_ret
      exact ⟨_, rfl, unhide D, hbl⟩

theorem info_toItemS : (Tryz.prog.info? 70).map (fun i => (i.zero, i.size, i.bytes)) = some (some (.agg #[.int .i64 0, .int .i64 0, .string ByteArray.empty]), 3, 32) := by kernel_rfl

set_option maxHeartbeats 400000 in
theorem toItemS_ok (xs : List DItem) (v : Value) (w : World) (hv : SlAt 3 32 RItem 0 w v xs) :
    Calls Tryz.prog 88 #[v] w (ToPostS 3 32 RItem w xs) := by
  obtain ⟨a, cap, rfl, ⟨hnb, _⟩, hn, hx⟩ := hv
  have HNB := hide hnb
  have HN := hide hn
  unfold Len at hn hnb
  have HX := hide hx
  clear hx
  have hmk := make_rows (P := Tryz.prog) 42 70 _ _ _ Tryz.underlying42 info_toItemS xs.length hnb hn
  clear hnb
  go_enter Tryz.func88, Tryz.ntmps88
  go_wp2
  go_loopg [4] xs.length (fun g i wr => ∃ (k : Nat), k ≤ xs.length ∧ g = xs.length - k ∧ i = .int .i64 k ∧ BelF w.heap.size w wr ∧ RowAt wr w.heap.size (xs.length * 3) ∧ Filled 3 RItem (w.heap.size + 1) wr w.heap.size xs k)
  case atStart => exact ⟨0, Nat.zero_le _, by omega, rfl, (BelF.refl _).alloc (Nat.le_refl _) _, RowAt.made _ _ _ _, fill_none _ _ _ _ _ _⟩
  case round =>
    obtain ⟨k, hk, hg, rfl, hbl, hrow, hfil⟩ := hrel
    clear hmk
    have HG := hide hg
    have HF := hide hfil
    clear hg hfil
    by_cases hlt : k < xs.length
    · obtain ⟨b, o, cs, rfl, _, hb, hcs, hc, hR⟩ := unhide HX k hlt
      have hR := RItem_kept.stays _ _ _ _ _ hbl.below hR
      have hc : ∀ j (hj : j < cs.length), wr.cell? ⟨b, o + k * 3 + j, none⟩ = some cs[j] := fun j hj => by rw [hbl.below.cell (p := ⟨b, _, none⟩) hb]; exact hc j hj
      obtain ⟨rfl, hsn, ho, hv⟩ := hR
      have c0 := hc 0 (by simp)
      have c1 := hc 1 (by simp)
      have c2 := hc 2 (by simp)
      simp only [Nat.mul_one, Nat.add_zero, List.getElem_cons_zero, List.getElem_cons_succ] at c0 c1 c2
      clear hc hcs
      go_wp2_with fail
      refine (toItem_ok _ _ hsn ho hv).mono ?_
      rintro e w1 ⟨cs', rfl, hR1, hb1⟩
      have hrow1 := hrow.below hb1.below
      have hR1' := hR1
      obtain ⟨rfl, hsn1, ho1, hv1⟩ := hR1
      obtain ⟨x0, d0⟩ := hrow1.cell (i := k * 3) (by omega)
      have f0 := hrow1.frozen (k * 3)
      obtain ⟨x1, d1⟩ := hrow1.cell (i := k * 3 + 1) (by omega)
      have f1 := hrow1.frozen (k * 3 + 1)
      obtain ⟨x2, d2⟩ := hrow1.cell (i := k * 3 + 2) (by omega)
      have f2 := hrow1.frozen (k * 3 + 2)
      have step := fill_stepF RItem_kept RItem_lowers hlt (Nat.le_refl _) hbl hrow (unhide HF) hb1 rfl hR1'
      have ST := hide step
      clear c0 c1 c2 step hR1' hrow1
      go_wp2
      go_roundg (xs.length - (k + 1))
      case measure => have := unhide HG; omega
      case rel => exact ⟨k + 1, by omega, rfl, by go_num, unhide ST⟩
    · have e : k = xs.length := by omega
      have hb0 := hrow.lt
      have D := hide (fill_done RItem_lowers hb0 (unhide HNB) (unhide HN) (by have := unhide HF; rwa [e] at this))
      clear hrow
      go_wp2
      go_ret
      exact ⟨_, rfl, unhide D, hbl⟩

end Go.Proofs.YtlgeioedgaajoaaGreatDoor
namespace Go.Proofs.YtlgeioedgaajoaaGreatDoor
open Go.RowKit
set_option linter.unusedSimpArgs false
set_option linter.unusedVariables false

set_option maxHeartbeats 1000000 in
theorem toVar_ok (x : DVar) (a1 : Value) (w : World) (hs : Len x.name.size) (ht : I64 x.type) (h1 : SlAt 2 24 RCond 0 w a1 x.clock) :
    Calls Tryz.prog 64 #[.agg #[.string x.name, .int .i64 x.type, a1]] w (ToPost RVar w x) := by
  obtain ⟨s, ty, clk⟩ := x
  simp only at hs ht h1
  have Hhs := hide hs
  clear hs
  have Hht := hide ht
  clear ht
  have H1 := hide h1
  clear h1
  go_enter Tryz.func64, Tryz.ntmps64
  go_wp2_with fail
  refine (toCondS_ok clk _ _ ?_).mono ?_
  · exact (unhide H1).stays RCond_kept ((((Below.refl _ _).alloc (Nat.le_refl _) _).alloc (by simp) _).alloc (by simp <;> omega) _)
  rintro e w1 ⟨v1, rfl, hS, hb⟩
  obtain ⟨b1, cap1, rfl⟩ := hS.shape
  obtain ⟨hc1, hf1⟩ := bcell hb.below
  have hz := hb.below.size
  simp only [World.size_alloc, Deep.nblk_setCell] at hz hc1 hf1
  have HS1 := hide (hS.lower RCond_lowers (lo' := w.heap.size + 1 + 1 + 1) (by simp <;> omega))
  have HB1 : Hid (BelF w.heap.size w w1) := ((((BelF.refl _).alloc (Nat.le_refl _) _).alloc (by simp) _).alloc (by simp <;> omega) _).and hb (by simp <;> omega)
  have hza1 : w.heap.size < w1.heap.size := by omega
  have hzb1 : w.heap.size + 1 < w1.heap.size := by omega
  have hzc1 : w.heap.size + 1 + 1 < w1.heap.size := by omega
  clear hS hb hz
  go_wp2
  refine bodyPost_ret (v := .agg #[.string s, .int .i64 ty, .slice b1 clk.length cap1]) (by simp [results, Tryz.results64, go_sem, hc1, hza1, hzb1, hzc1]) rfl ⟨[.string s, .int .i64 ty, .slice b1 clk.length cap1], rfl, ⟨_, rfl, unhide Hhs, unhide Hht, ?_⟩, ?_⟩
  · exact ((unhide HS1).kept RCond_kept (by repeat (first | refine Kept.setCell ?_ (by simp <;> omega) _ | exact Kept.refl _ _ _))).lower RCond_lowers (by omega)
  · repeat (first | refine BelF.setCell ?_ (by simp <;> omega) _ | exact unhide HB1)

theorem info_toVarS : (Tryz.prog.info? 64).map (fun i => (i.zero, i.size, i.bytes)) = some (some (.agg #[.string ByteArray.empty, .int .i64 0, .slice none 0 0]), 3, 48) := by kernel_rfl

set_option maxHeartbeats 400000 in
theorem toVarS_ok (xs : List DVar) (v : Value) (w : World) (hv : SlAt 3 48 RVar 0 w v xs) :
    Calls Tryz.prog 42 #[v] w (ToPostS 3 48 RVar w xs) := by
  obtain ⟨a, cap, rfl, ⟨hnb, _⟩, hn, hx⟩ := hv
  have HNB := hide hnb
  have HN := hide hn
  unfold Len at hn hnb
  have HX := hide hx
  clear hx
  have hmk := make_rows (P := Tryz.prog) 35 64 _ _ _ Tryz.underlying35 info_toVarS xs.length hnb hn
  clear hnb
  go_enter Tryz.func42, Tryz.ntmps42
  go_wp2
  go_loopg [4] xs.length (fun g i wr => ∃ (k : Nat), k ≤ xs.length ∧ g = xs.length - k ∧ i = .int .i64 k ∧ BelF w.heap.size w wr ∧ RowAt wr w.heap.size (xs.length * 3) ∧ Filled 3 RVar (w.heap.size + 1) wr w.heap.size xs k)
  case atStart => exact ⟨0, Nat.zero_le _, by omega, rfl, (BelF.refl _).alloc (Nat.le_refl _) _, RowAt.made _ _ _ _, fill_none _ _ _ _ _ _⟩
  case round =>
    obtain ⟨k, hk, hg, rfl, hbl, hrow, hfil⟩ := hrel
    clear hmk
    have HG := hide hg
    have HF := hide hfil
    clear hg hfil
    by_cases hlt : k < xs.length
    · obtain ⟨b, o, cs, rfl, _, hb, hcs, hc, hR⟩ := unhide HX k hlt
      have hR := RVar_kept.stays _ _ _ _ _ hbl.below hR
      have hc : ∀ j (hj : j < cs.length), wr.cell? ⟨b, o + k * 3 + j, none⟩ = some cs[j] := fun j hj => by rw [hbl.below.cell (p := ⟨b, _, none⟩) hb]; exact hc j hj
      obtain ⟨cl, rfl, hsn, hty, hcl⟩ := hR
      have HCL := hide hcl
      clear hcl
      have c0 := hc 0 (by simp)
      have c1 := hc 1 (by simp)
      have c2 := hc 2 (by simp)
      simp only [Nat.mul_one, Nat.add_zero, List.getElem_cons_zero, List.getElem_cons_succ] at c0 c1 c2
      clear hc hcs
      go_wp2_with fail
      refine (toVar_ok _ _ _ hsn hty (unhide HCL)).mono ?_
      rintro e w1 ⟨cs', rfl, hR1, hb1⟩
      have hrow1 := hrow.below hb1.below
      have hR1' := hR1
      obtain ⟨cl1, rfl, hsn1, hty1, hcl1⟩ := hR1
      obtain ⟨aa1, ca1, rfl⟩ := hcl1.shape
      clear hcl1
      obtain ⟨x0, d0⟩ := hrow1.cell (i := k * 3) (by omega)
      have f0 := hrow1.frozen (k * 3)
      obtain ⟨x1, d1⟩ := hrow1.cell (i := k * 3 + 1) (by omega)
      have f1 := hrow1.frozen (k * 3 + 1)
      obtain ⟨x2, d2⟩ := hrow1.cell (i := k * 3 + 2) (by omega)
      have f2 := hrow1.frozen (k * 3 + 2)
      have step := fill_stepF RVar_kept RVar_lowers hlt (Nat.le_refl _) hbl hrow (unhide HF) hb1 rfl hR1'
      have ST := hide step
      clear c0 c1 c2 step hR1' hrow1
      go_wp2
      go_roundg (xs.length - (k + 1))
      case measure => have := unhide HG; omega
      case rel => exact ⟨k + 1, by omega, rfl, by go_num, unhide ST⟩
    · have e : k = xs.length := by omega
      have hb0 := hrow.lt
      have D := hide (fill_done RVar_lowers hb0 (unhide HNB) (unhide HN) (by have := unhide HF; rwa [e] at this))
      clear hrow
      go_wp2
      go_ret
      exact ⟨_, rfl, unhide D, hbl⟩

end Go.Proofs.YtlgeioedgaajoaaGreatDoor
namespace Go.Proofs.YtlgeioedgaajoaaGreatDoor
open Go.RowKit
set_option linter.unusedSimpArgs false
set_option linter.unusedVariables false

theorem info_toStringS : (Tryz.prog.info? 9).map (fun i => (i.zero, i.size, i.bytes)) = some (some (.string ByteArray.empty), 1, 16) := by kernel_rfl

set_option maxHeartbeats 400000 in
theorem toStringS_ok (xs : List ByteArray) (v : Value) (w : World) (hv : SlAt 1 16 RStr 0 w v xs) :
    Calls Tryz.prog 87 #[v] w (ToPostS 1 16 RStr w xs) := by
  obtain ⟨a, cap, rfl, ⟨hnb, _⟩, hn, hx⟩ := hv
  have HNB := hide hnb
  have HN := hide hn
  unfold Len at hn hnb
  have HX := hide hx
  clear hx
  have hmk := make_rows (P := Tryz.prog) 40 9 _ _ _ Tryz.underlying40 info_toStringS xs.length hnb hn
  clear hnb
  go_enter Tryz.func87, Tryz.ntmps87
  go_wp2
  go_loopg [4] xs.length (fun g i wr => ∃ (k : Nat), k ≤ xs.length ∧ g = xs.length - k ∧ i = .int .i64 k ∧ BelF w.heap.size w wr ∧ RowAt wr w.heap.size xs.length ∧ Filled 1 RStr (w.heap.size + 1) wr w.heap.size xs k)
  case atStart => exact ⟨0, Nat.zero_le _, by omega, rfl, (BelF.refl _).alloc (Nat.le_refl _) _, RowAt.made _ _ _ _, fill_none _ _ _ _ _ _⟩
  case round =>
    obtain ⟨k, hk, hg, rfl, hbl, hrow, hfil⟩ := hrel
    clear hmk
    have HG := hide hg
    have HF := hide hfil
    clear hg hfil
    by_cases hlt : k < xs.length
    · obtain ⟨b, o, cs, rfl, _, hb, hcs, hc, hR⟩ := unhide HX k hlt
      have hR := RStr_kept.stays _ _ _ _ _ hbl.below hR
      have hc : ∀ j (hj : j < cs.length), wr.cell? ⟨b, o + k * 1 + j, none⟩ = some cs[j] := fun j hj => by rw [hbl.below.cell (p := ⟨b, _, none⟩) hb]; exact hc j hj
      obtain ⟨rfl, hsn⟩ := hR
      have c0 := hc 0 (by simp)
      simp only [Nat.mul_one, Nat.add_zero, List.getElem_cons_zero, List.getElem_cons_succ] at c0
      clear hc hcs
      obtain ⟨x0, d0⟩ := hrow.cell (i := k) (by omega)
      have f0 := hrow.frozen k
      have step := fill_stepF RStr_kept RStr_lowers hlt (Nat.le_refl _) hbl (by rw [Nat.mul_one]; exact hrow) (unhide HF) (BelF.refl _) rfl (cs := [.string xs[k]]) ⟨rfl, hsn⟩
      simp only [Nat.mul_one] at step
      have ST := hide step
      clear step
      generalize xs[k] = s at *
      go_wp2
      go_roundg (xs.length - (k + 1))
      case measure => have := unhide HG; omega
      case rel => exact ⟨k + 1, by omega, rfl, by go_num, unhide ST⟩
    · have e : k = xs.length := by omega
      have hb0 := hrow.lt
      have D := hide (fill_done RStr_lowers hb0 (unhide HNB) (unhide HN) (by have := unhide HF; rwa [e] at this))
      clear hrow
      go_wp2
      go_ret
      exact ⟨_, rfl, unhide D, hbl⟩

theorem info_toItemSS : (Tryz.prog.info? 42).map (fun i => (i.zero, i.size, i.bytes)) = some (some (.slice none 0 0), 1, 24) := by kernel_rfl

set_option maxHeartbeats 400000 in
theorem toItemSS_ok (xs : List (List DItem)) (v : Value) (w : World) (hv : SlAt 1 24 RItems 0 w v xs) :
    Calls Tryz.prog 89 #[v] w (ToPostS 1 24 RItems w xs) := by
  obtain ⟨a, cap, rfl, ⟨hnb, _⟩, hn, hx⟩ := hv
  have HNB := hide hnb
  have HN := hide hn
  unfold Len at hn hnb
  have HX := hide hx
  clear hx
  have hmk := make_rows (P := Tryz.prog) 43 42 _ _ _ Tryz.underlying43 info_toItemSS xs.length hnb hn
  clear hnb
  go_enter Tryz.func89, Tryz.ntmps89
  go_wp2
  go_loopg [4] xs.length (fun g i wr => ∃ (k : Nat), k ≤ xs.length ∧ g = xs.length - k ∧ i = .int .i64 k ∧ BelF w.heap.size w wr ∧ RowAt wr w.heap.size xs.length ∧ Filled 1 RItems (w.heap.size + 1) wr w.heap.size xs k)
  case atStart => exact ⟨0, Nat.zero_le _, by omega, rfl, (BelF.refl _).alloc (Nat.le_refl _) _, RowAt.made _ _ _ _, fill_none _ _ _ _ _ _⟩
  case round =>
    obtain ⟨k, hk, hg, rfl, hbl, hrow, hfil⟩ := hrel
    clear hmk
    have HG := hide hg
    have HF := hide hfil
    clear hg hfil
    by_cases hlt : k < xs.length
    · obtain ⟨b, o, cs, rfl, _, hb, hcs, hc, hR⟩ := unhide HX k hlt
      have hR := RItems_kept.stays _ _ _ _ _ hbl.below hR
      have hc : ∀ j (hj : j < cs.length), wr.cell? ⟨b, o + k * 1 + j, none⟩ = some cs[j] := fun j hj => by rw [hbl.below.cell (p := ⟨b, _, none⟩) hb]; exact hc j hj
      obtain ⟨vl, rfl, hcl⟩ := hR
      have HCL := hide hcl
      clear hcl
      have c0 := hc 0 (by simp)
      simp only [Nat.mul_one, Nat.add_zero, List.getElem_cons_zero, List.getElem_cons_succ] at c0
      clear hc hcs
      go_wp2_with fail
      refine (toItemS_ok _ _ _ (unhide HCL)).mono ?_
      rintro e w1 ⟨v', rfl, hS1, hb1⟩
      have hR1 : RItems wr.heap.size w1 [v'] xs[k] := ⟨v', rfl, hS1⟩
      have hrow1 := hrow.below hb1.below
      have hR1' := hR1
      obtain ⟨aa1, ca1, rfl⟩ := hS1.shape
      clear hS1
      obtain ⟨x0, d0⟩ := hrow1.cell (i := k) (by omega)
      have f0 := hrow1.frozen (k)
      have step := fill_stepF RItems_kept RItems_lowers hlt (Nat.le_refl _) hbl (by rw [Nat.mul_one]; exact hrow) (unhide HF) hb1 rfl hR1'
      simp only [Nat.mul_one] at step
      have ST := hide step
      clear c0 step hR1' hR1 hrow1
      go_wp2
      go_roundg (xs.length - (k + 1))
      case measure => have := unhide HG; omega
      case rel => exact ⟨k + 1, by omega, rfl, by go_num, unhide ST⟩
    · have e : k = xs.length := by omega
      have hb0 := hrow.lt
      have D := hide (fill_done RItems_lowers hb0 (unhide HNB) (unhide HN) (by have := unhide HF; rwa [e] at this))
      clear hrow
      go_wp2
      go_ret
      exact ⟨_, rfl, unhide D, hbl⟩

end Go.Proofs.YtlgeioedgaajoaaGreatDoor
namespace Go.Proofs.YtlgeioedgaajoaaGreatDoor
open Go.RowKit
set_option linter.unusedSimpArgs false
set_option linter.unusedVariables false

set_option maxHeartbeats 1000000 in
theorem toEquation_ok (x : DEq) (a1 a2 a3 : Value) (w : World) (hs : Len x.call.size) (h1 : SlAt 1 16 RStr 0 w a1 x.lhs) (h2 : SlAt 3 32 RItem 0 w a2 x.code) (h3 : SlAt 1 24 RItems 0 w a3 x.args) :
    Calls Tryz.prog 65 #[.agg #[a1, a2, .string x.call, a3]] w (ToPost REq w x) := by
  obtain ⟨lhs, code, s, args⟩ := x
  simp only at hs h1 h2 h3
  have Hhs := hide hs
  clear hs
  have H1 := hide h1
  clear h1
  have H2 := hide h2
  clear h2
  have H3 := hide h3
  clear h3
  go_enter Tryz.func65, Tryz.ntmps65
  go_wp2_with fail
  refine (toStringS_ok lhs _ _ ?_).mono ?_
  · exact (unhide H1).stays RStr_kept ((((Below.refl _ _).alloc (Nat.le_refl _) _).alloc (by simp) _).alloc (by simp <;> omega) _)
  rintro e w1 ⟨v1, rfl, hS, hb⟩
  obtain ⟨b1, cap1, rfl⟩ := hS.shape
  obtain ⟨hc1, hf1⟩ := bcell hb.below
  have hz := hb.below.size
  simp only [World.size_alloc, Deep.nblk_setCell] at hz hc1 hf1
  have HS1 := hide (hS.lower RStr_lowers (lo' := w.heap.size + 1 + 1 + 1) (by simp <;> omega))
  have HB1 : Hid (BelF w.heap.size w w1) := ((((BelF.refl _).alloc (Nat.le_refl _) _).alloc (by simp) _).alloc (by simp <;> omega) _).and hb (by simp <;> omega)
  have hza1 : w.heap.size < w1.heap.size := by omega
  have hzb1 : w.heap.size + 1 < w1.heap.size := by omega
  have hzc1 : w.heap.size + 1 + 1 < w1.heap.size := by omega
  clear hS hb hz
  go_wp2_with fail
  refine (toItemS_ok code _ _ ?_).mono ?_
  · exact (unhide H2).stays RItem_kept (by repeat (first | refine Below.setCell ?_ (by simp <;> omega) _ | exact (unhide HB1).below))
  rintro e w2 ⟨v2, rfl, hS, hb⟩
  obtain ⟨b2, cap2, rfl⟩ := hS.shape
  obtain ⟨hc2, hf2⟩ := bcell hb.below
  have hz := hb.below.size
  simp only [World.size_alloc, Deep.nblk_setCell] at hz hc2 hf2
  have HS2 := hide (hS.lower RItem_lowers (lo' := w.heap.size + 1 + 1 + 1) (by simp <;> omega))
  have HB2 : Hid (BelF w.heap.size w w2) := by
    refine BelF.and ?_ hb (by simp <;> omega)
    repeat (first | refine BelF.setCell ?_ (by simp <;> omega) _ | exact unhide HB1)
  have HK : Kept (w.heap.size + 1 + 1 + 1) w1.heap.size w1 w2 := by
    refine Kept.trans ?_ (Kept.of_below hb.below) (by simp <;> omega)
    repeat (first | refine Kept.setCell ?_ (by simp <;> omega) _ | exact Kept.refl _ _ _)
  replace HS1 := hide ((unhide HS1).kept RStr_kept HK)
  clear HK
  have hza2 : w.heap.size < w2.heap.size := by omega
  have hzb2 : w.heap.size + 1 < w2.heap.size := by omega
  have hzc2 : w.heap.size + 1 + 1 < w2.heap.size := by omega
  clear hS hb hz
  go_wp2_with fail
  refine (toItemSS_ok args _ _ ?_).mono ?_
  · exact (unhide H3).stays RItems_kept (by repeat (first | refine Below.setCell ?_ (by simp <;> omega) _ | exact (unhide HB2).below))
  rintro e w3 ⟨v3, rfl, hS, hb⟩
  obtain ⟨b3, cap3, rfl⟩ := hS.shape
  obtain ⟨hc3, hf3⟩ := bcell hb.below
  have hz := hb.below.size
  simp only [World.size_alloc, Deep.nblk_setCell] at hz hc3 hf3
  have HS3 := hide (hS.lower RItems_lowers (lo' := w.heap.size + 1 + 1 + 1) (by simp <;> omega))
  have HB3 : Hid (BelF w.heap.size w w3) := by
    refine BelF.and ?_ hb (by simp <;> omega)
    repeat (first | refine BelF.setCell ?_ (by simp <;> omega) _ | exact unhide HB2)
  have HK : Kept (w.heap.size + 1 + 1 + 1) w2.heap.size w2 w3 := by
    refine Kept.trans ?_ (Kept.of_below hb.below) (by simp <;> omega)
    repeat (first | refine Kept.setCell ?_ (by simp <;> omega) _ | exact Kept.refl _ _ _)
  replace HS1 := hide ((unhide HS1).kept RStr_kept HK)
  replace HS2 := hide ((unhide HS2).kept RItem_kept HK)
  clear HK
  have hza3 : w.heap.size < w3.heap.size := by omega
  have hzb3 : w.heap.size + 1 < w3.heap.size := by omega
  have hzc3 : w.heap.size + 1 + 1 < w3.heap.size := by omega
  clear hS hb hz
  go_wp2
  refine bodyPost_ret (v := .agg #[.slice b1 lhs.length cap1, .slice b2 code.length cap2, .string s, .slice b3 args.length cap3]) (by simp [results, Tryz.results65, go_sem, hc1, hza1, hzb1, hzc1, hc2, hza2, hzb2, hzc2, hc3, hza3, hzb3, hzc3]) rfl ⟨[.slice b1 lhs.length cap1, .slice b2 code.length cap2, .string s, .slice b3 args.length cap3], rfl, ⟨_, _, _, rfl, unhide Hhs, ?_, ?_, ?_⟩, ?_⟩
  · exact ((unhide HS1).kept RStr_kept (by repeat (first | refine Kept.setCell ?_ (by simp <;> omega) _ | exact Kept.refl _ _ _))).lower RStr_lowers (by omega)
  · exact ((unhide HS2).kept RItem_kept (by repeat (first | refine Kept.setCell ?_ (by simp <;> omega) _ | exact Kept.refl _ _ _))).lower RItem_lowers (by omega)
  · exact ((unhide HS3).kept RItems_kept (by repeat (first | refine Kept.setCell ?_ (by simp <;> omega) _ | exact Kept.refl _ _ _))).lower RItems_lowers (by omega)
  · repeat (first | refine BelF.setCell ?_ (by simp <;> omega) _ | exact unhide HB3)

theorem info_toEquationS : (Tryz.prog.info? 45).map (fun i => (i.zero, i.size, i.bytes)) = some (some (.agg #[.slice none 0 0, .slice none 0 0, .string ByteArray.empty, .slice none 0 0]), 4, 88) := by kernel_rfl

set_option maxHeartbeats 400000 in
theorem toEquationS_ok (xs : List DEq) (v : Value) (w : World) (hv : SlAt 4 88 REq 0 w v xs) :
    Calls Tryz.prog 43 #[v] w (ToPostS 4 88 REq w xs) := by
  obtain ⟨a, cap, rfl, ⟨hnb, _⟩, hn, hx⟩ := hv
  have HNB := hide hnb
  have HN := hide hn
  unfold Len at hn hnb
  have HX := hide hx
  clear hx
  have hmk := make_rows (P := Tryz.prog) 36 45 _ _ _ Tryz.underlying36 info_toEquationS xs.length hnb hn
  clear hnb
  go_enter Tryz.func43, Tryz.ntmps43
  go_wp2
  go_loopg [4] xs.length (fun g i wr => ∃ (k : Nat), k ≤ xs.length ∧ g = xs.length - k ∧ i = .int .i64 k ∧ BelF w.heap.size w wr ∧ RowAt wr w.heap.size (xs.length * 4) ∧ Filled 4 REq (w.heap.size + 1) wr w.heap.size xs k)
  case atStart => exact ⟨0, Nat.zero_le _, by omega, rfl, (BelF.refl _).alloc (Nat.le_refl _) _, RowAt.made _ _ _ _, fill_none _ _ _ _ _ _⟩
  case round =>
    obtain ⟨k, hk, hg, rfl, hbl, hrow, hfil⟩ := hrel
    clear hmk
    have HG := hide hg
    have HF := hide hfil
    clear hg hfil
    by_cases hlt : k < xs.length
    · obtain ⟨b, o, cs, rfl, _, hb, hcs, hc, hR⟩ := unhide HX k hlt
      have hR := REq_kept.stays _ _ _ _ _ hbl.below hR
      have hc : ∀ j (hj : j < cs.length), wr.cell? ⟨b, o + k * 4 + j, none⟩ = some cs[j] := fun j hj => by rw [hbl.below.cell (p := ⟨b, _, none⟩) hb]; exact hc j hj
      obtain ⟨l, c, aa, rfl, hsn, g1, g2, g3⟩ := hR
      have G1 := hide g1
      have G2 := hide g2
      have G3 := hide g3
      clear g1 g2 g3
      have c0 := hc 0 (by simp)
      have c1 := hc 1 (by simp)
      have c2 := hc 2 (by simp)
      have c3 := hc 3 (by simp)
      simp only [Nat.mul_one, Nat.add_zero, List.getElem_cons_zero, List.getElem_cons_succ] at c0 c1 c2 c3
      clear hc hcs
      go_wp2_with fail
      refine (toEquation_ok _ _ _ _ _ hsn (unhide G1) (unhide G2) (unhide G3)).mono ?_
      rintro e w1 ⟨cs', rfl, hR1, hb1⟩
      have hrow1 := hrow.below hb1.below
      have hR1' := hR1
      obtain ⟨l1, c1, a1, rfl, hsn1, g1, g2, g3⟩ := hR1
      obtain ⟨aa1, ca1, rfl⟩ := g1.shape
      clear g1
      obtain ⟨aa2, ca2, rfl⟩ := g2.shape
      clear g2
      obtain ⟨aa3, ca3, rfl⟩ := g3.shape
      clear g3
      obtain ⟨x0, d0⟩ := hrow1.cell (i := k * 4) (by omega)
      have f0 := hrow1.frozen (k * 4)
      obtain ⟨x1, d1⟩ := hrow1.cell (i := k * 4 + 1) (by omega)
      have f1 := hrow1.frozen (k * 4 + 1)
      obtain ⟨x2, d2⟩ := hrow1.cell (i := k * 4 + 2) (by omega)
      have f2 := hrow1.frozen (k * 4 + 2)
      obtain ⟨x3, d3⟩ := hrow1.cell (i := k * 4 + 3) (by omega)
      have f3 := hrow1.frozen (k * 4 + 3)
      have step := fill_stepF REq_kept REq_lowers hlt (Nat.le_refl _) hbl hrow (unhide HF) hb1 rfl hR1'
      have ST := hide step
      clear c0 c1 c2 c3 step hR1' hrow1
      go_wp2
      go_roundg (xs.length - (k + 1))
      case measure => have := unhide HG; omega
      case rel => exact ⟨k + 1, by omega, rfl, by go_num, unhide ST⟩
    · have e : k = xs.length := by omega
      have hb0 := hrow.lt
      have D := hide (fill_done REq_lowers hb0 (unhide HNB) (unhide HN) (by have := unhide HF; rwa [e] at this))
      clear hrow
      go_wp2
      go_ret
      exact ⟨_, rfl, unhide D, hbl⟩

end Go.Proofs.YtlgeioedgaajoaaGreatDoor
namespace Go.Proofs.YtlgeioedgaajoaaGreatDoor
open Go.RowKit
set_option linter.unusedSimpArgs false
set_option linter.unusedVariables false

set_option maxHeartbeats 1000000 in
theorem toNode_ok (x : DNode) (a1 a2 a3 a4 : Value) (w : World) (hs : Len x.name.size) (h1 : SlAt 3 48 RVar 0 w a1 x.ins) (h2 : SlAt 3 48 RVar 0 w a2 x.outs) (h3 : SlAt 3 48 RVar 0 w a3 x.vars) (h4 : SlAt 4 88 REq 0 w a4 x.eqs) :
    Calls Tryz.prog 28 #[.agg #[.string x.name, a1, a2, a3, a4]] w (ToPost RNode w x) := by
  obtain ⟨s, ins, outs, vars, eqs⟩ := x
  simp only at hs h1 h2 h3 h4
  have Hhs := hide hs
  clear hs
  have H1 := hide h1
  clear h1
  have H2 := hide h2
  clear h2
  have H3 := hide h3
  clear h3
  have H4 := hide h4
  clear h4
  go_enter Tryz.func28, Tryz.ntmps28
  go_wp2_with fail
  refine (toVarS_ok ins _ _ ?_).mono ?_
  · exact (unhide H1).stays RVar_kept ((((Below.refl _ _).alloc (Nat.le_refl _) _).alloc (by simp) _).alloc (by simp <;> omega) _)
  rintro e w1 ⟨v1, rfl, hS, hb⟩
  obtain ⟨b1, cap1, rfl⟩ := hS.shape
  obtain ⟨hc1, hf1⟩ := bcell hb.below
  have hz := hb.below.size
  simp only [World.size_alloc, Deep.nblk_setCell] at hz hc1 hf1
  have HS1 := hide (hS.lower RVar_lowers (lo' := w.heap.size + 1 + 1 + 1) (by simp <;> omega))
  have HB1 : Hid (BelF w.heap.size w w1) := ((((BelF.refl _).alloc (Nat.le_refl _) _).alloc (by simp) _).alloc (by simp <;> omega) _).and hb (by simp <;> omega)
  have hza1 : w.heap.size < w1.heap.size := by omega
  have hzb1 : w.heap.size + 1 < w1.heap.size := by omega
  have hzc1 : w.heap.size + 1 + 1 < w1.heap.size := by omega
  clear hS hb hz
  go_wp2_with fail
  refine (toVarS_ok outs _ _ ?_).mono ?_
  · exact (unhide H2).stays RVar_kept (by repeat (first | refine Below.setCell ?_ (by simp <;> omega) _ | exact (unhide HB1).below))
  rintro e w2 ⟨v2, rfl, hS, hb⟩
  obtain ⟨b2, cap2, rfl⟩ := hS.shape
  obtain ⟨hc2, hf2⟩ := bcell hb.below
  have hz := hb.below.size
  simp only [World.size_alloc, Deep.nblk_setCell] at hz hc2 hf2
  have HS2 := hide (hS.lower RVar_lowers (lo' := w.heap.size + 1 + 1 + 1) (by simp <;> omega))
  have HB2 : Hid (BelF w.heap.size w w2) := by
    refine BelF.and ?_ hb (by simp <;> omega)
    repeat (first | refine BelF.setCell ?_ (by simp <;> omega) _ | exact unhide HB1)
  have HK : Kept (w.heap.size + 1 + 1 + 1) w1.heap.size w1 w2 := by
    refine Kept.trans ?_ (Kept.of_below hb.below) (by simp <;> omega)
    repeat (first | refine Kept.setCell ?_ (by simp <;> omega) _ | exact Kept.refl _ _ _)
  replace HS1 := hide ((unhide HS1).kept RVar_kept HK)
  clear HK
  have hza2 : w.heap.size < w2.heap.size := by omega
  have hzb2 : w.heap.size + 1 < w2.heap.size := by omega
  have hzc2 : w.heap.size + 1 + 1 < w2.heap.size := by omega
  clear hS hb hz
  go_wp2_with fail
  refine (toVarS_ok vars _ _ ?_).mono ?_
  · exact (unhide H3).stays RVar_kept (by repeat (first | refine Below.setCell ?_ (by simp <;> omega) _ | exact (unhide HB2).below))
  rintro e w3 ⟨v3, rfl, hS, hb⟩
  obtain ⟨b3, cap3, rfl⟩ := hS.shape
  obtain ⟨hc3, hf3⟩ := bcell hb.below
  have hz := hb.below.size
  simp only [World.size_alloc, Deep.nblk_setCell] at hz hc3 hf3
  have HS3 := hide (hS.lower RVar_lowers (lo' := w.heap.size + 1 + 1 + 1) (by simp <;> omega))
  have HB3 : Hid (BelF w.heap.size w w3) := by
    refine BelF.and ?_ hb (by simp <;> omega)
    repeat (first | refine BelF.setCell ?_ (by simp <;> omega) _ | exact unhide HB2)
  have HK : Kept (w.heap.size + 1 + 1 + 1) w2.heap.size w2 w3 := by
    refine Kept.trans ?_ (Kept.of_below hb.below) (by simp <;> omega)
    repeat (first | refine Kept.setCell ?_ (by simp <;> omega) _ | exact Kept.refl _ _ _)
  replace HS1 := hide ((unhide HS1).kept RVar_kept HK)
  replace HS2 := hide ((unhide HS2).kept RVar_kept HK)
  clear HK
  have hza3 : w.heap.size < w3.heap.size := by omega
  have hzb3 : w.heap.size + 1 < w3.heap.size := by omega
  have hzc3 : w.heap.size + 1 + 1 < w3.heap.size := by omega
  clear hS hb hz
  go_wp2_with fail
  refine (toEquationS_ok eqs _ _ ?_).mono ?_
  · exact (unhide H4).stays REq_kept (by repeat (first | refine Below.setCell ?_ (by simp <;> omega) _ | exact (unhide HB3).below))
  rintro e w4 ⟨v4, rfl, hS, hb⟩
  obtain ⟨b4, cap4, rfl⟩ := hS.shape
  obtain ⟨hc4, hf4⟩ := bcell hb.below
  have hz := hb.below.size
  simp only [World.size_alloc, Deep.nblk_setCell] at hz hc4 hf4
  have HS4 := hide (hS.lower REq_lowers (lo' := w.heap.size + 1 + 1 + 1) (by simp <;> omega))
  have HB4 : Hid (BelF w.heap.size w w4) := by
    refine BelF.and ?_ hb (by simp <;> omega)
    repeat (first | refine BelF.setCell ?_ (by simp <;> omega) _ | exact unhide HB3)
  have HK : Kept (w.heap.size + 1 + 1 + 1) w3.heap.size w3 w4 := by
    refine Kept.trans ?_ (Kept.of_below hb.below) (by simp <;> omega)
    repeat (first | refine Kept.setCell ?_ (by simp <;> omega) _ | exact Kept.refl _ _ _)
  replace HS1 := hide ((unhide HS1).kept RVar_kept HK)
  replace HS2 := hide ((unhide HS2).kept RVar_kept HK)
  replace HS3 := hide ((unhide HS3).kept RVar_kept HK)
  clear HK
  have hza4 : w.heap.size < w4.heap.size := by omega
  have hzb4 : w.heap.size + 1 < w4.heap.size := by omega
  have hzc4 : w.heap.size + 1 + 1 < w4.heap.size := by omega
  clear hS hb hz
  go_wp2
  refine bodyPost_ret (v := .agg #[.string s, .slice b1 ins.length cap1, .slice b2 outs.length cap2, .slice b3 vars.length cap3, .slice b4 eqs.length cap4]) (by simp [results, Tryz.results28, go_sem, hc1, hza1, hzb1, hzc1, hc2, hza2, hzb2, hzc2, hc3, hza3, hzb3, hzc3, hc4, hza4, hzb4, hzc4]) rfl ⟨[.string s, .slice b1 ins.length cap1, .slice b2 outs.length cap2, .slice b3 vars.length cap3, .slice b4 eqs.length cap4], rfl, ⟨_, _, _, _, rfl, unhide Hhs, ?_, ?_, ?_, ?_⟩, ?_⟩
  · exact ((unhide HS1).kept RVar_kept (by repeat (first | refine Kept.setCell ?_ (by simp <;> omega) _ | exact Kept.refl _ _ _))).lower RVar_lowers (by omega)
  · exact ((unhide HS2).kept RVar_kept (by repeat (first | refine Kept.setCell ?_ (by simp <;> omega) _ | exact Kept.refl _ _ _))).lower RVar_lowers (by omega)
  · exact ((unhide HS3).kept RVar_kept (by repeat (first | refine Kept.setCell ?_ (by simp <;> omega) _ | exact Kept.refl _ _ _))).lower RVar_lowers (by omega)
  · exact ((unhide HS4).kept REq_kept (by repeat (first | refine Kept.setCell ?_ (by simp <;> omega) _ | exact Kept.refl _ _ _))).lower REq_lowers (by omega)
  · repeat (first | refine BelF.setCell ?_ (by simp <;> omega) _ | exact unhide HB4)

theorem info_toNodeS : (Tryz.prog.info? 38).map (fun i => (i.zero, i.size, i.bytes)) = some (some (.agg #[.string ByteArray.empty, .slice none 0 0, .slice none 0 0, .slice none 0 0, .slice none 0 0]), 5, 112) := by kernel_rfl

set_option maxHeartbeats 400000 in
theorem toNodeS_ok (xs : List DNode) (v : Value) (w : World) (hv : SlAt 5 112 RNode 0 w v xs) :
    Calls Tryz.prog 14 #[v] w (ToPostS 5 112 RNode w xs) := by
  obtain ⟨a, cap, rfl, ⟨hnb, _⟩, hn, hx⟩ := hv
  have HNB := hide hnb
  have HN := hide hn
  unfold Len at hn hnb
  have HX := hide hx
  clear hx
  have hmk := make_rows (P := Tryz.prog) 27 38 _ _ _ Tryz.underlying27 info_toNodeS xs.length hnb hn
  clear hnb
  go_enter Tryz.func14, Tryz.ntmps14
  go_wp2
  go_loopg [4] xs.length (fun g i wr => ∃ (k : Nat), k ≤ xs.length ∧ g = xs.length - k ∧ i = .int .i64 k ∧ BelF w.heap.size w wr ∧ RowAt wr w.heap.size (xs.length * 5) ∧ Filled 5 RNode (w.heap.size + 1) wr w.heap.size xs k)
  case atStart => exact ⟨0, Nat.zero_le _, by omega, rfl, (BelF.refl _).alloc (Nat.le_refl _) _, RowAt.made _ _ _ _, fill_none _ _ _ _ _ _⟩
  case round =>
    obtain ⟨k, hk, hg, rfl, hbl, hrow, hfil⟩ := hrel
    clear hmk
    have HG := hide hg
    have HF := hide hfil
    clear hg hfil
    by_cases hlt : k < xs.length
    · obtain ⟨b, o, cs, rfl, _, hb, hcs, hc, hR⟩ := unhide HX k hlt
      have hR := RNode_kept.stays _ _ _ _ _ hbl.below hR
      have hc : ∀ j (hj : j < cs.length), wr.cell? ⟨b, o + k * 5 + j, none⟩ = some cs[j] := fun j hj => by rw [hbl.below.cell (p := ⟨b, _, none⟩) hb]; exact hc j hj
      obtain ⟨ni, no, nv, ne, rfl, hsn, g1, g2, g3, g4⟩ := hR
      have G1 := hide g1
      have G2 := hide g2
      have G3 := hide g3
      have G4 := hide g4
      clear g1 g2 g3 g4
      have c0 := hc 0 (by simp)
      have c1 := hc 1 (by simp)
      have c2 := hc 2 (by simp)
      have c3 := hc 3 (by simp)
      have c4 := hc 4 (by simp)
      simp only [Nat.mul_one, Nat.add_zero, List.getElem_cons_zero, List.getElem_cons_succ] at c0 c1 c2 c3 c4
      clear hc hcs
      go_wp2_with fail
      refine (toNode_ok _ _ _ _ _ _ hsn (unhide G1) (unhide G2) (unhide G3) (unhide G4)).mono ?_
      rintro e w1 ⟨cs', rfl, hR1, hb1⟩
      have hrow1 := hrow.below hb1.below
      have hR1' := hR1
      obtain ⟨i1, o1, v1, e1, rfl, hsn1, g1, g2, g3, g4⟩ := hR1
      obtain ⟨aa1, ca1, rfl⟩ := g1.shape
      clear g1
      obtain ⟨aa2, ca2, rfl⟩ := g2.shape
      clear g2
      obtain ⟨aa3, ca3, rfl⟩ := g3.shape
      clear g3
      obtain ⟨aa4, ca4, rfl⟩ := g4.shape
      clear g4
      obtain ⟨x0, d0⟩ := hrow1.cell (i := k * 5) (by omega)
      have f0 := hrow1.frozen (k * 5)
      obtain ⟨x1, d1⟩ := hrow1.cell (i := k * 5 + 1) (by omega)
      have f1 := hrow1.frozen (k * 5 + 1)
      obtain ⟨x2, d2⟩ := hrow1.cell (i := k * 5 + 2) (by omega)
      have f2 := hrow1.frozen (k * 5 + 2)
      obtain ⟨x3, d3⟩ := hrow1.cell (i := k * 5 + 3) (by omega)
      have f3 := hrow1.frozen (k * 5 + 3)
      obtain ⟨x4, d4⟩ := hrow1.cell (i := k * 5 + 4) (by omega)
      have f4 := hrow1.frozen (k * 5 + 4)
      have step := fill_stepF RNode_kept RNode_lowers hlt (Nat.le_refl _) hbl hrow (unhide HF) hb1 rfl hR1'
      have ST := hide step
      clear c0 c1 c2 c3 c4 step hR1' hrow1
      go_wp2
      go_roundg (xs.length - (k + 1))
      case measure => have := unhide HG; omega
      case rel => exact ⟨k + 1, by omega, rfl, by go_num, unhide ST⟩
    · have e : k = xs.length := by omega
      have hb0 := hrow.lt
      have D := hide (fill_done RNode_lowers hb0 (unhide HNB) (unhide HN) (by have := unhide HF; rwa [e] at this))
      clear hrow
      go_wp2
      go_ret
      exact ⟨_, rfl, unhide D, hbl⟩

def RProg (lo : Nat) (w : World) (cs : List Value) (ns : List DNode) : Prop := ∃ v, cs = [v] ∧ SlAt 5 112 RNode lo w v ns

set_option maxHeartbeats 400000 in
theorem toProgramF_ok (ns : List DNode) (v : Value) (w : World) (h1 : SlAt 5 112 RNode 0 w v ns) :
    Calls Tryz.prog 6 #[.agg #[v]] w (ToPost RProg w ns) := by
  have H1 := hide h1
  clear h1
  go_enter Tryz.func6, Tryz.ntmps6
  go_wp2_with fail
  refine (toNodeS_ok ns _ _ ?_).mono ?_
  · exact (unhide H1).stays RNode_kept ((((Below.refl _ _).alloc (Nat.le_refl _) _).alloc (by simp) _).alloc (by simp <;> omega) _)
  rintro e w1 ⟨v1, rfl, hS, hb⟩
  obtain ⟨b1, cap1, rfl⟩ := hS.shape
  obtain ⟨hc1, hf1⟩ := bcell hb.below
  have hz := hb.below.size
  simp only [World.size_alloc, Deep.nblk_setCell] at hz hc1 hf1
  have HS1 := hide (hS.lower RNode_lowers (lo' := w.heap.size + 1 + 1 + 1) (by simp <;> omega))
  have HB1 : Hid (BelF w.heap.size w w1) := ((((BelF.refl _).alloc (Nat.le_refl _) _).alloc (by simp) _).alloc (by simp <;> omega) _).and hb (by simp <;> omega)
  have hza1 : w.heap.size < w1.heap.size := by omega
  have hzb1 : w.heap.size + 1 < w1.heap.size := by omega
  have hzc1 : w.heap.size + 1 + 1 < w1.heap.size := by omega
  clear hS hb hz
  go_wp2
  refine bodyPost_ret (v := .agg #[.slice b1 ns.length cap1]) (by simp [results, Tryz.results6, go_sem, hc1, hza1, hzb1, hzc1]) rfl ⟨[.slice b1 ns.length cap1], rfl, ⟨_, rfl, ?_⟩, ?_⟩
  · exact ((unhide HS1).kept RNode_kept (by repeat (first | refine Kept.setCell ?_ (by simp <;> omega) _ | exact Kept.refl _ _ _))).lower RNode_lowers (by omega)
  · repeat (first | refine BelF.setCell ?_ (by simp <;> omega) _ | exact unhide HB1)

theorem toProgram_ok (ns : List DNode) (v : Value) (w : World) (h1 : SlAt 5 112 RNode 0 w v ns) :
    Calls Tryz.prog 6 #[.agg #[v]] w (ToPostB RProg w ns) := (toProgramF_ok ns v w h1).mono fun e w' h => h.weak

end Go.Proofs.YtlgeioedgaajoaaGreatDoor
