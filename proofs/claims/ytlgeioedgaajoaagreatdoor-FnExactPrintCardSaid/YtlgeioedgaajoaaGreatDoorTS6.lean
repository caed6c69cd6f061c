import Derived.Test.YtlgeioedgaajoaaGreatDoorTS1
namespace Go.Proofs.YtlgeioedgaajoaaGreatDoor
open Go.RowKit
set_option linter.unusedSimpArgs false
set_option linter.unusedVariables false

set_option maxHeartbeats 2000000 in
theorem l1Text_int (xs : List DItem) (v : Value) (w : World) (hv : SlAt 3 32 RItem 0 w v xs) (hit : ∀ t, t ∈ xs → itB t = true) (hl3 : xs.length ≤ 3000) (l : Nat) (hlt : l < xs.length) (ho : Opd xs (l + 1)) (hop1 : xs[l].op = 1)
    (ih : ∀ k, k < l + 1 → Opd xs k → ∀ w', SlAt 3 32 RItem 0 w' v xs → Calls Tryz.prog 13 #[v, .int .i64 (k : Int)] w' (Ans (.string (opT xs k)) w')) :
    Calls Tryz.prog 13 #[v, .int .i64 ((l : Int) + 1)] w (Ans (.string (opT xs (l + 1))) w) := by
  have har : ∀ t, t ∈ xs → 0 ≤ arI t.op := fun t ht => (ar_iff t.op).2 (by have := ((it_iff t).1 (hit t ht)).1; omega)
  have HV := hide hv
  have hx := hv
  obtain ⟨a, cap, rfl, _, hn, hx⟩ := hx
  unfold Len at hn
  obtain ⟨b, o, cs, rfl, _, hb, hcs, hc, hR⟩ := hx l hlt
  obtain ⟨rfl, hsn, hop, hvl⟩ := hR
  have c0 := hc 0 (by simp)
  have c1 := hc 1 (by simp)
  have c2 := hc 2 (by simp)
  simp only [Nat.mul_one, Nat.add_zero, List.getElem_cons_zero, List.getElem_cons_succ] at c0 c1 c2
  obtain ⟨hi0, hir, hin⟩ := (it_iff xs[l]).1 (hit _ (List.getElem_mem hlt))
  have HIT := hide hit
  clear hx hc hcs hit
  have HS := opd_zero ho hlt (by rw [hop1]; decide)
  have HTS : tsT xs[l] = [dcT xs[l].val] := by simp [tsT, hop1]
  rw [HTS] at HS
  simp only [weave] at HS
  have HS := hide HS
  have hvr : -2147483647 ≤ xs[l].val ∧ xs[l].val ≤ 2147483647 := by simp only [rgB, decide_eq_true_iff, loI, hiI] at hir; simp [hop1] at hir; omega
  have HD := hide (fun w => l1Dec_ok xs[l].val hvr w)
  have P0 := hide ((Below.refl w.heap.size w).alloc (Nat.le_refl _) (.cells #[.int .i64 xs[l].op, .int .i64 xs[l].val, .string xs[l].name] 70))
  have HB0 : Hid (Below (w.heap.size + 1) (w.alloc (.cells #[.int .i64 xs[l].op, .int .i64 xs[l].val, .string xs[l].name] 70)) (w.alloc (.cells #[.int .i64 xs[l].op, .int .i64 xs[l].val, .string xs[l].name] 70))) := Below.refl _ _
  have HB0d : Hid (Below (w.heap.size + 1) (w.alloc (.cells #[.int .i64 xs[l].op, .int .i64 xs[l].val, .string xs[l].name] 70)) (w.alloc (.cells #[.int .i64 xs[l].op, .int .i64 xs[l].val, .string xs[l].name] 70)).drew) := (unhide HB0).drew
  have HOUT : Hid (∀ w1, Below (w.heap.size + 1) (w.alloc (.cells #[.int .i64 xs[l].op, .int .i64 xs[l].val, .string xs[l].name] 70)) w1 → Below w.heap.size w w1) := fun w1 h => (unhide P0).trans (h.mono (Nat.le_succ _))
  have HSZ := hide (opT_size (unhide HIT) hl3)
  have IH : Hid (∀ k, k < l + 1 → Opd xs k → ∀ w', Hid (Below (w.heap.size + 1) (w.alloc (.cells #[.int .i64 xs[l].op, .int .i64 xs[l].val, .string xs[l].name] 70)) w') → Calls Tryz.prog 13 #[.slice (some ⟨b, o, none⟩) xs.length cap, .int .i64 (k : Int)] w' fun e w1 => e = .returned (.string (opT xs k)) ∧ Hid (Below (w.heap.size + 1) (w.alloc (.cells #[.int .i64 xs[l].op, .int .i64 xs[l].val, .string xs[l].name] 70)) w1) ∧ w1.cell? ⟨w.heap.size, 0, none⟩ = some (.int .i64 xs[l].op) ∧ w1.cell? ⟨w.heap.size, 2, none⟩ = some (.string xs[l].name)) := by
    intro k hk hok w' hbw
    refine (ih k hk hok w' ((unhide HV).stays RItem_kept (unhide HOUT _ (unhide hbw)))).mono ?_
    rintro e w1 ⟨rfl, hb1⟩
    have hb2 := box_thru (unhide hbw) hb1
    refine ⟨rfl, hb2, ?_, ?_⟩
    · rw [box_cell (B := 0) hb2 0]; rfl
    · rw [box_cell (B := 0) hb2 2]; rfl
  clear ih IH ho hin hir HV hv HTS
  generalize xs[l].name = nm at *
  generalize xs[l].val = vl at *
  generalize xs[l].op = op at *
  subst hop1
  generalize opT xs (l + 1) = ot at *
  go_enter Tryz.func13, Tryz.ntmps13
  go_wp2_with fail
  refine (unhide HD _).mono ?_
  rintro e w1 ⟨rfl, hb1⟩
  go_wp2
  go_ret
  exact ⟨ret_str (unhide HS).symm, unhide HOUT _ (box_thru (unhide HB0) hb1)⟩

set_option maxHeartbeats 2000000 in
theorem l1Text_bool (xs : List DItem) (v : Value) (w : World) (hv : SlAt 3 32 RItem 0 w v xs) (hit : ∀ t, t ∈ xs → itB t = true) (hl3 : xs.length ≤ 3000) (l : Nat) (hlt : l < xs.length) (ho : Opd xs (l + 1)) (hop1 : xs[l].op = 2)
    (ih : ∀ k, k < l + 1 → Opd xs k → ∀ w', SlAt 3 32 RItem 0 w' v xs → Calls Tryz.prog 13 #[v, .int .i64 (k : Int)] w' (Ans (.string (opT xs k)) w')) :
    Calls Tryz.prog 13 #[v, .int .i64 ((l : Int) + 1)] w (Ans (.string (opT xs (l + 1))) w) := by
  have har : ∀ t, t ∈ xs → 0 ≤ arI t.op := fun t ht => (ar_iff t.op).2 (by have := ((it_iff t).1 (hit t ht)).1; omega)
  have HV := hide hv
  have hx := hv
  obtain ⟨a, cap, rfl, _, hn, hx⟩ := hx
  unfold Len at hn
  obtain ⟨b, o, cs, rfl, _, hb, hcs, hc, hR⟩ := hx l hlt
  obtain ⟨rfl, hsn, hop, hvl⟩ := hR
  have c0 := hc 0 (by simp)
  have c1 := hc 1 (by simp)
  have c2 := hc 2 (by simp)
  simp only [Nat.mul_one, Nat.add_zero, List.getElem_cons_zero, List.getElem_cons_succ] at c0 c1 c2
  obtain ⟨hi0, hir, hin⟩ := (it_iff xs[l]).1 (hit _ (List.getElem_mem hlt))
  have HIT := hide hit
  clear hx hc hcs hit
  have HS := opd_zero ho hlt (by rw [hop1]; decide)
  have HTS : tsT xs[l] = [flT xs[l].val] := by simp [tsT, hop1]
  rw [HTS] at HS
  simp only [weave] at HS
  have HS := hide HS
  have HD := hide (fun w => l1Flag_ok xs[l].val w)
  have P0 := hide ((Below.refl w.heap.size w).alloc (Nat.le_refl _) (.cells #[.int .i64 xs[l].op, .int .i64 xs[l].val, .string xs[l].name] 70))
  have HB0 : Hid (Below (w.heap.size + 1) (w.alloc (.cells #[.int .i64 xs[l].op, .int .i64 xs[l].val, .string xs[l].name] 70)) (w.alloc (.cells #[.int .i64 xs[l].op, .int .i64 xs[l].val, .string xs[l].name] 70))) := Below.refl _ _
  have HB0d : Hid (Below (w.heap.size + 1) (w.alloc (.cells #[.int .i64 xs[l].op, .int .i64 xs[l].val, .string xs[l].name] 70)) (w.alloc (.cells #[.int .i64 xs[l].op, .int .i64 xs[l].val, .string xs[l].name] 70)).drew) := (unhide HB0).drew
  have HOUT : Hid (∀ w1, Below (w.heap.size + 1) (w.alloc (.cells #[.int .i64 xs[l].op, .int .i64 xs[l].val, .string xs[l].name] 70)) w1 → Below w.heap.size w w1) := fun w1 h => (unhide P0).trans (h.mono (Nat.le_succ _))
  have HSZ := hide (opT_size (unhide HIT) hl3)
  have IH : Hid (∀ k, k < l + 1 → Opd xs k → ∀ w', Hid (Below (w.heap.size + 1) (w.alloc (.cells #[.int .i64 xs[l].op, .int .i64 xs[l].val, .string xs[l].name] 70)) w') → Calls Tryz.prog 13 #[.slice (some ⟨b, o, none⟩) xs.length cap, .int .i64 (k : Int)] w' fun e w1 => e = .returned (.string (opT xs k)) ∧ Hid (Below (w.heap.size + 1) (w.alloc (.cells #[.int .i64 xs[l].op, .int .i64 xs[l].val, .string xs[l].name] 70)) w1) ∧ w1.cell? ⟨w.heap.size, 0, none⟩ = some (.int .i64 xs[l].op) ∧ w1.cell? ⟨w.heap.size, 2, none⟩ = some (.string xs[l].name)) := by
    intro k hk hok w' hbw
    refine (ih k hk hok w' ((unhide HV).stays RItem_kept (unhide HOUT _ (unhide hbw)))).mono ?_
    rintro e w1 ⟨rfl, hb1⟩
    have hb2 := box_thru (unhide hbw) hb1
    refine ⟨rfl, hb2, ?_, ?_⟩
    · rw [box_cell (B := 0) hb2 0]; rfl
    · rw [box_cell (B := 0) hb2 2]; rfl
  clear ih IH ho hin hir HV hv HTS
  generalize xs[l].name = nm at *
  generalize xs[l].val = vl at *
  generalize xs[l].op = op at *
  subst hop1
  generalize opT xs (l + 1) = ot at *
  go_enter Tryz.func13, Tryz.ntmps13
  go_wp2_with fail
  refine (unhide HD _).mono ?_
  rintro e w1 ⟨rfl, rfl⟩
  go_wp2
  go_ret
  exact ⟨ret_str (unhide HS).symm, unhide P0⟩

set_option maxHeartbeats 2000000 in
theorem l1Text_var (xs : List DItem) (v : Value) (w : World) (hv : SlAt 3 32 RItem 0 w v xs) (hit : ∀ t, t ∈ xs → itB t = true) (hl3 : xs.length ≤ 3000) (l : Nat) (hlt : l < xs.length) (ho : Opd xs (l + 1)) (hop1 : xs[l].op = 3)
    (ih : ∀ k, k < l + 1 → Opd xs k → ∀ w', SlAt 3 32 RItem 0 w' v xs → Calls Tryz.prog 13 #[v, .int .i64 (k : Int)] w' (Ans (.string (opT xs k)) w')) :
    Calls Tryz.prog 13 #[v, .int .i64 ((l : Int) + 1)] w (Ans (.string (opT xs (l + 1))) w) := by
  have har : ∀ t, t ∈ xs → 0 ≤ arI t.op := fun t ht => (ar_iff t.op).2 (by have := ((it_iff t).1 (hit t ht)).1; omega)
  have HV := hide hv
  have hx := hv
  obtain ⟨a, cap, rfl, _, hn, hx⟩ := hx
  unfold Len at hn
  obtain ⟨b, o, cs, rfl, _, hb, hcs, hc, hR⟩ := hx l hlt
  obtain ⟨rfl, hsn, hop, hvl⟩ := hR
  have c0 := hc 0 (by simp)
  have c1 := hc 1 (by simp)
  have c2 := hc 2 (by simp)
  simp only [Nat.mul_one, Nat.add_zero, List.getElem_cons_zero, List.getElem_cons_succ] at c0 c1 c2
  obtain ⟨hi0, hir, hin⟩ := (it_iff xs[l]).1 (hit _ (List.getElem_mem hlt))
  have HIT := hide hit
  clear hx hc hcs hit
  have HS := opd_zero ho hlt (by rw [hop1]; decide)
  have HTS : tsT xs[l] = [xs[l].name] := by simp [tsT, hop1]
  rw [HTS] at HS
  simp only [weave] at HS
  have HS := hide HS
  have P0 := hide ((Below.refl w.heap.size w).alloc (Nat.le_refl _) (.cells #[.int .i64 xs[l].op, .int .i64 xs[l].val, .string xs[l].name] 70))
  have HB0 : Hid (Below (w.heap.size + 1) (w.alloc (.cells #[.int .i64 xs[l].op, .int .i64 xs[l].val, .string xs[l].name] 70)) (w.alloc (.cells #[.int .i64 xs[l].op, .int .i64 xs[l].val, .string xs[l].name] 70))) := Below.refl _ _
  have HB0d : Hid (Below (w.heap.size + 1) (w.alloc (.cells #[.int .i64 xs[l].op, .int .i64 xs[l].val, .string xs[l].name] 70)) (w.alloc (.cells #[.int .i64 xs[l].op, .int .i64 xs[l].val, .string xs[l].name] 70)).drew) := (unhide HB0).drew
  have HOUT : Hid (∀ w1, Below (w.heap.size + 1) (w.alloc (.cells #[.int .i64 xs[l].op, .int .i64 xs[l].val, .string xs[l].name] 70)) w1 → Below w.heap.size w w1) := fun w1 h => (unhide P0).trans (h.mono (Nat.le_succ _))
  have HSZ := hide (opT_size (unhide HIT) hl3)
  have IH : Hid (∀ k, k < l + 1 → Opd xs k → ∀ w', Hid (Below (w.heap.size + 1) (w.alloc (.cells #[.int .i64 xs[l].op, .int .i64 xs[l].val, .string xs[l].name] 70)) w') → Calls Tryz.prog 13 #[.slice (some ⟨b, o, none⟩) xs.length cap, .int .i64 (k : Int)] w' fun e w1 => e = .returned (.string (opT xs k)) ∧ Hid (Below (w.heap.size + 1) (w.alloc (.cells #[.int .i64 xs[l].op, .int .i64 xs[l].val, .string xs[l].name] 70)) w1) ∧ w1.cell? ⟨w.heap.size, 0, none⟩ = some (.int .i64 xs[l].op) ∧ w1.cell? ⟨w.heap.size, 2, none⟩ = some (.string xs[l].name)) := by
    intro k hk hok w' hbw
    refine (ih k hk hok w' ((unhide HV).stays RItem_kept (unhide HOUT _ (unhide hbw)))).mono ?_
    rintro e w1 ⟨rfl, hb1⟩
    have hb2 := box_thru (unhide hbw) hb1
    refine ⟨rfl, hb2, ?_, ?_⟩
    · rw [box_cell (B := 0) hb2 0]; rfl
    · rw [box_cell (B := 0) hb2 2]; rfl
  clear ih IH ho hin hir HV hv HTS
  generalize xs[l].name = nm at *
  generalize xs[l].val = vl at *
  generalize xs[l].op = op at *
  subst hop1
  generalize opT xs (l + 1) = ot at *
  go_enter Tryz.func13, Tryz.ntmps13
  go_wp2
  go_ret
  exact ⟨ret_str (unhide HS).symm, unhide P0⟩

set_option maxHeartbeats 2000000 in
theorem l1Text_neg (xs : List DItem) (v : Value) (w : World) (hv : SlAt 3 32 RItem 0 w v xs) (hit : ∀ t, t ∈ xs → itB t = true) (hl3 : xs.length ≤ 3000) (l : Nat) (hlt : l < xs.length) (ho : Opd xs (l + 1)) (hop1 : xs[l].op = 4)
    (ih : ∀ k, k < l + 1 → Opd xs k → ∀ w', SlAt 3 32 RItem 0 w' v xs → Calls Tryz.prog 13 #[v, .int .i64 (k : Int)] w' (Ans (.string (opT xs k)) w')) :
    Calls Tryz.prog 13 #[v, .int .i64 ((l : Int) + 1)] w (Ans (.string (opT xs (l + 1))) w) := by
  have har : ∀ t, t ∈ xs → 0 ≤ arI t.op := fun t ht => (ar_iff t.op).2 (by have := ((it_iff t).1 (hit t ht)).1; omega)
  have HV := hide hv
  have hx := hv
  obtain ⟨a, cap, rfl, _, hn, hx⟩ := hx
  unfold Len at hn
  obtain ⟨b, o, cs, rfl, _, hb, hcs, hc, hR⟩ := hx l hlt
  obtain ⟨rfl, hsn, hop, hvl⟩ := hR
  have c0 := hc 0 (by simp)
  have c1 := hc 1 (by simp)
  have c2 := hc 2 (by simp)
  simp only [Nat.mul_one, Nat.add_zero, List.getElem_cons_zero, List.getElem_cons_succ] at c0 c1 c2
  obtain ⟨hi0, hir, hin⟩ := (it_iff xs[l]).1 (hit _ (List.getElem_mem hlt))
  have HIT := hide hit
  clear hx hc hcs hit
  obtain ⟨ho1, HS⟩ := opd_one ho hlt (by rw [hop1]; decide)
  have HTS : tsT xs[l] = [Lneg, Lcl] := by simp [tsT, hop1]
  rw [HTS] at HS
  simp only [weave] at HS
  have HS := hide HS
  have P0 := hide ((Below.refl w.heap.size w).alloc (Nat.le_refl _) (.cells #[.int .i64 xs[l].op, .int .i64 xs[l].val, .string xs[l].name] 70))
  have HB0 : Hid (Below (w.heap.size + 1) (w.alloc (.cells #[.int .i64 xs[l].op, .int .i64 xs[l].val, .string xs[l].name] 70)) (w.alloc (.cells #[.int .i64 xs[l].op, .int .i64 xs[l].val, .string xs[l].name] 70))) := Below.refl _ _
  have HB0d : Hid (Below (w.heap.size + 1) (w.alloc (.cells #[.int .i64 xs[l].op, .int .i64 xs[l].val, .string xs[l].name] 70)) (w.alloc (.cells #[.int .i64 xs[l].op, .int .i64 xs[l].val, .string xs[l].name] 70)).drew) := (unhide HB0).drew
  have HOUT : Hid (∀ w1, Below (w.heap.size + 1) (w.alloc (.cells #[.int .i64 xs[l].op, .int .i64 xs[l].val, .string xs[l].name] 70)) w1 → Below w.heap.size w w1) := fun w1 h => (unhide P0).trans (h.mono (Nat.le_succ _))
  have HSZ := hide (opT_size (unhide HIT) hl3)
  have IH : Hid (∀ k, k < l + 1 → Opd xs k → ∀ w', Hid (Below (w.heap.size + 1) (w.alloc (.cells #[.int .i64 xs[l].op, .int .i64 xs[l].val, .string xs[l].name] 70)) w') → Calls Tryz.prog 13 #[.slice (some ⟨b, o, none⟩) xs.length cap, .int .i64 (k : Int)] w' fun e w1 => e = .returned (.string (opT xs k)) ∧ Hid (Below (w.heap.size + 1) (w.alloc (.cells #[.int .i64 xs[l].op, .int .i64 xs[l].val, .string xs[l].name] 70)) w1) ∧ w1.cell? ⟨w.heap.size, 0, none⟩ = some (.int .i64 xs[l].op) ∧ w1.cell? ⟨w.heap.size, 2, none⟩ = some (.string xs[l].name)) := by
    intro k hk hok w' hbw
    refine (ih k hk hok w' ((unhide HV).stays RItem_kept (unhide HOUT _ (unhide hbw)))).mono ?_
    rintro e w1 ⟨rfl, hb1⟩
    have hb2 := box_thru (unhide hbw) hb1
    refine ⟨rfl, hb2, ?_, ?_⟩
    · rw [box_cell (B := 0) hb2 0]; rfl
    · rw [box_cell (B := 0) hb2 2]; rfl
  have IH1 := hide (unhide IH l (Nat.lt_succ_self _) ho1)
  have hz1 := unhide HSZ l
  clear ih IH ho ho1 hin hir HV hv HTS
  generalize xs[l].name = nm at *
  generalize xs[l].val = vl at *
  generalize xs[l].op = op at *
  subst hop1
  generalize opT xs (l + 1) = ot at *
  generalize opT xs l = t1 at *
  go_enter Tryz.func13, Tryz.ntmps13
  go_wp2_with fail
  refine (unhide IH1 _ HB0).mono ?_
  rintro e w1 ⟨rfl, HB1, k0, k2⟩
  go_wp2
  go_ret
  exact ⟨ret_str (by rw [unhide HS]; simp only [ba_assoc]; rfl), unhide HOUT _ (unhide HB1)⟩

set_option maxHeartbeats 2000000 in
theorem l1Text_not (xs : List DItem) (v : Value) (w : World) (hv : SlAt 3 32 RItem 0 w v xs) (hit : ∀ t, t ∈ xs → itB t = true) (hl3 : xs.length ≤ 3000) (l : Nat) (hlt : l < xs.length) (ho : Opd xs (l + 1)) (hop1 : xs[l].op = 5)
    (ih : ∀ k, k < l + 1 → Opd xs k → ∀ w', SlAt 3 32 RItem 0 w' v xs → Calls Tryz.prog 13 #[v, .int .i64 (k : Int)] w' (Ans (.string (opT xs k)) w')) :
    Calls Tryz.prog 13 #[v, .int .i64 ((l : Int) + 1)] w (Ans (.string (opT xs (l + 1))) w) := by
  have har : ∀ t, t ∈ xs → 0 ≤ arI t.op := fun t ht => (ar_iff t.op).2 (by have := ((it_iff t).1 (hit t ht)).1; omega)
  have HV := hide hv
  have hx := hv
  obtain ⟨a, cap, rfl, _, hn, hx⟩ := hx
  unfold Len at hn
  obtain ⟨b, o, cs, rfl, _, hb, hcs, hc, hR⟩ := hx l hlt
  obtain ⟨rfl, hsn, hop, hvl⟩ := hR
  have c0 := hc 0 (by simp)
  have c1 := hc 1 (by simp)
  have c2 := hc 2 (by simp)
  simp only [Nat.mul_one, Nat.add_zero, List.getElem_cons_zero, List.getElem_cons_succ] at c0 c1 c2
  obtain ⟨hi0, hir, hin⟩ := (it_iff xs[l]).1 (hit _ (List.getElem_mem hlt))
  have HIT := hide hit
  clear hx hc hcs hit
  obtain ⟨ho1, HS⟩ := opd_one ho hlt (by rw [hop1]; decide)
  have HTS : tsT xs[l] = [Lnot, Lcl] := by simp [tsT, hop1]
  rw [HTS] at HS
  simp only [weave] at HS
  have HS := hide HS
  have P0 := hide ((Below.refl w.heap.size w).alloc (Nat.le_refl _) (.cells #[.int .i64 xs[l].op, .int .i64 xs[l].val, .string xs[l].name] 70))
  have HB0 : Hid (Below (w.heap.size + 1) (w.alloc (.cells #[.int .i64 xs[l].op, .int .i64 xs[l].val, .string xs[l].name] 70)) (w.alloc (.cells #[.int .i64 xs[l].op, .int .i64 xs[l].val, .string xs[l].name] 70))) := Below.refl _ _
  have HB0d : Hid (Below (w.heap.size + 1) (w.alloc (.cells #[.int .i64 xs[l].op, .int .i64 xs[l].val, .string xs[l].name] 70)) (w.alloc (.cells #[.int .i64 xs[l].op, .int .i64 xs[l].val, .string xs[l].name] 70)).drew) := (unhide HB0).drew
  have HOUT : Hid (∀ w1, Below (w.heap.size + 1) (w.alloc (.cells #[.int .i64 xs[l].op, .int .i64 xs[l].val, .string xs[l].name] 70)) w1 → Below w.heap.size w w1) := fun w1 h => (unhide P0).trans (h.mono (Nat.le_succ _))
  have HSZ := hide (opT_size (unhide HIT) hl3)
  have IH : Hid (∀ k, k < l + 1 → Opd xs k → ∀ w', Hid (Below (w.heap.size + 1) (w.alloc (.cells #[.int .i64 xs[l].op, .int .i64 xs[l].val, .string xs[l].name] 70)) w') → Calls Tryz.prog 13 #[.slice (some ⟨b, o, none⟩) xs.length cap, .int .i64 (k : Int)] w' fun e w1 => e = .returned (.string (opT xs k)) ∧ Hid (Below (w.heap.size + 1) (w.alloc (.cells #[.int .i64 xs[l].op, .int .i64 xs[l].val, .string xs[l].name] 70)) w1) ∧ w1.cell? ⟨w.heap.size, 0, none⟩ = some (.int .i64 xs[l].op) ∧ w1.cell? ⟨w.heap.size, 2, none⟩ = some (.string xs[l].name)) := by
    intro k hk hok w' hbw
    refine (ih k hk hok w' ((unhide HV).stays RItem_kept (unhide HOUT _ (unhide hbw)))).mono ?_
    rintro e w1 ⟨rfl, hb1⟩
    have hb2 := box_thru (unhide hbw) hb1
    refine ⟨rfl, hb2, ?_, ?_⟩
    · rw [box_cell (B := 0) hb2 0]; rfl
    · rw [box_cell (B := 0) hb2 2]; rfl
  have IH1 := hide (unhide IH l (Nat.lt_succ_self _) ho1)
  have hz1 := unhide HSZ l
  clear ih IH ho ho1 hin hir HV hv HTS
  generalize xs[l].name = nm at *
  generalize xs[l].val = vl at *
  generalize xs[l].op = op at *
  subst hop1
  generalize opT xs (l + 1) = ot at *
  generalize opT xs l = t1 at *
  go_enter Tryz.func13, Tryz.ntmps13
  go_wp2_with fail
  refine (unhide IH1 _ HB0).mono ?_
  rintro e w1 ⟨rfl, HB1, k0, k2⟩
  go_wp2
  go_ret
  exact ⟨ret_str (by rw [unhide HS]; simp only [ba_assoc]; rfl), unhide HOUT _ (unhide HB1)⟩

set_option maxHeartbeats 2000000 in
theorem l1Text_fby (xs : List DItem) (v : Value) (w : World) (hv : SlAt 3 32 RItem 0 w v xs) (hit : ∀ t, t ∈ xs → itB t = true) (hl3 : xs.length ≤ 3000) (l : Nat) (hlt : l < xs.length) (ho : Opd xs (l + 1)) (hop1 : xs[l].op = 21)
    (ih : ∀ k, k < l + 1 → Opd xs k → ∀ w', SlAt 3 32 RItem 0 w' v xs → Calls Tryz.prog 13 #[v, .int .i64 (k : Int)] w' (Ans (.string (opT xs k)) w')) :
    Calls Tryz.prog 13 #[v, .int .i64 ((l : Int) + 1)] w (Ans (.string (opT xs (l + 1))) w) := by
  have har : ∀ t, t ∈ xs → 0 ≤ arI t.op := fun t ht => (ar_iff t.op).2 (by have := ((it_iff t).1 (hit t ht)).1; omega)
  have HV := hide hv
  have hx := hv
  obtain ⟨a, cap, rfl, _, hn, hx⟩ := hx
  unfold Len at hn
  obtain ⟨b, o, cs, rfl, _, hb, hcs, hc, hR⟩ := hx l hlt
  obtain ⟨rfl, hsn, hop, hvl⟩ := hR
  have c0 := hc 0 (by simp)
  have c1 := hc 1 (by simp)
  have c2 := hc 2 (by simp)
  simp only [Nat.mul_one, Nat.add_zero, List.getElem_cons_zero, List.getElem_cons_succ] at c0 c1 c2
  obtain ⟨hi0, hir, hin⟩ := (it_iff xs[l]).1 (hit _ (List.getElem_mem hlt))
  have HIT := hide hit
  clear hx hc hcs hit
  obtain ⟨ho1, HS⟩ := opd_one ho hlt (by rw [hop1]; decide)
  have HTS : tsT xs[l] = [Lop ++ dcT xs[l].val ++ Lfby, Lcl] := by simp [tsT, hop1]
  rw [HTS] at HS
  simp only [weave] at HS
  have HS := hide HS
  have hvr : -2147483647 ≤ xs[l].val ∧ xs[l].val ≤ 2147483647 := by simp only [rgB, decide_eq_true_iff, loI, hiI] at hir; simp [hop1] at hir; omega
  have HD := hide (fun w => l1Dec_ok xs[l].val hvr w)
  have hds : (dcT xs[l].val).size ≤ 11 := dcT_size _ hvr
  have P0 := hide ((Below.refl w.heap.size w).alloc (Nat.le_refl _) (.cells #[.int .i64 xs[l].op, .int .i64 xs[l].val, .string xs[l].name] 70))
  have HB0 : Hid (Below (w.heap.size + 1) (w.alloc (.cells #[.int .i64 xs[l].op, .int .i64 xs[l].val, .string xs[l].name] 70)) (w.alloc (.cells #[.int .i64 xs[l].op, .int .i64 xs[l].val, .string xs[l].name] 70))) := Below.refl _ _
  have HB0d : Hid (Below (w.heap.size + 1) (w.alloc (.cells #[.int .i64 xs[l].op, .int .i64 xs[l].val, .string xs[l].name] 70)) (w.alloc (.cells #[.int .i64 xs[l].op, .int .i64 xs[l].val, .string xs[l].name] 70)).drew) := (unhide HB0).drew
  have HOUT : Hid (∀ w1, Below (w.heap.size + 1) (w.alloc (.cells #[.int .i64 xs[l].op, .int .i64 xs[l].val, .string xs[l].name] 70)) w1 → Below w.heap.size w w1) := fun w1 h => (unhide P0).trans (h.mono (Nat.le_succ _))
  have HSZ := hide (opT_size (unhide HIT) hl3)
  have IH : Hid (∀ k, k < l + 1 → Opd xs k → ∀ w', Hid (Below (w.heap.size + 1) (w.alloc (.cells #[.int .i64 xs[l].op, .int .i64 xs[l].val, .string xs[l].name] 70)) w') → Calls Tryz.prog 13 #[.slice (some ⟨b, o, none⟩) xs.length cap, .int .i64 (k : Int)] w' fun e w1 => e = .returned (.string (opT xs k)) ∧ Hid (Below (w.heap.size + 1) (w.alloc (.cells #[.int .i64 xs[l].op, .int .i64 xs[l].val, .string xs[l].name] 70)) w1) ∧ w1.cell? ⟨w.heap.size, 0, none⟩ = some (.int .i64 xs[l].op) ∧ w1.cell? ⟨w.heap.size, 2, none⟩ = some (.string xs[l].name)) := by
    intro k hk hok w' hbw
    refine (ih k hk hok w' ((unhide HV).stays RItem_kept (unhide HOUT _ (unhide hbw)))).mono ?_
    rintro e w1 ⟨rfl, hb1⟩
    have hb2 := box_thru (unhide hbw) hb1
    refine ⟨rfl, hb2, ?_, ?_⟩
    · rw [box_cell (B := 0) hb2 0]; rfl
    · rw [box_cell (B := 0) hb2 2]; rfl
  have IH1 := hide (unhide IH l (Nat.lt_succ_self _) ho1)
  have hz1 := unhide HSZ l
  clear ih IH ho ho1 hin hir HV hv HTS
  generalize xs[l].name = nm at *
  generalize dcT xs[l].val = dc at *
  generalize xs[l].val = vl at *
  generalize xs[l].op = op at *
  subst hop1
  generalize opT xs (l + 1) = ot at *
  generalize opT xs l = t1 at *
  go_enter Tryz.func13, Tryz.ntmps13
  go_wp2_with fail
  refine (unhide HD _).mono ?_
  rintro e w0 ⟨rfl, hb0⟩
  have HBq := hide (box_thru (unhide HB0) hb0)
  go_wp2_with fail
  refine (unhide IH1 _ HBq).mono ?_
  rintro e w1 ⟨rfl, HB1, k0, k2⟩
  go_wp2
  go_ret
  exact ⟨ret_str (by rw [unhide HS]; simp only [ba_assoc]; rfl), unhide HOUT _ (unhide HB1)⟩

set_option maxHeartbeats 2000000 in
theorem l1Text_fbyb (xs : List DItem) (v : Value) (w : World) (hv : SlAt 3 32 RItem 0 w v xs) (hit : ∀ t, t ∈ xs → itB t = true) (hl3 : xs.length ≤ 3000) (l : Nat) (hlt : l < xs.length) (ho : Opd xs (l + 1)) (hop1 : xs[l].op = 22)
    (ih : ∀ k, k < l + 1 → Opd xs k → ∀ w', SlAt 3 32 RItem 0 w' v xs → Calls Tryz.prog 13 #[v, .int .i64 (k : Int)] w' (Ans (.string (opT xs k)) w')) :
    Calls Tryz.prog 13 #[v, .int .i64 ((l : Int) + 1)] w (Ans (.string (opT xs (l + 1))) w) := by
  have har : ∀ t, t ∈ xs → 0 ≤ arI t.op := fun t ht => (ar_iff t.op).2 (by have := ((it_iff t).1 (hit t ht)).1; omega)
  have HV := hide hv
  have hx := hv
  obtain ⟨a, cap, rfl, _, hn, hx⟩ := hx
  unfold Len at hn
  obtain ⟨b, o, cs, rfl, _, hb, hcs, hc, hR⟩ := hx l hlt
  obtain ⟨rfl, hsn, hop, hvl⟩ := hR
  have c0 := hc 0 (by simp)
  have c1 := hc 1 (by simp)
  have c2 := hc 2 (by simp)
  simp only [Nat.mul_one, Nat.add_zero, List.getElem_cons_zero, List.getElem_cons_succ] at c0 c1 c2
  obtain ⟨hi0, hir, hin⟩ := (it_iff xs[l]).1 (hit _ (List.getElem_mem hlt))
  have HIT := hide hit
  clear hx hc hcs hit
  obtain ⟨ho1, HS⟩ := opd_one ho hlt (by rw [hop1]; decide)
  have HTS : tsT xs[l] = [Lop ++ flT xs[l].val ++ Lfby, Lcl] := by simp [tsT, hop1]
  rw [HTS] at HS
  simp only [weave] at HS
  have HS := hide HS
  have HD := hide (fun w => l1Flag_ok xs[l].val w)
  have hds := flT_size xs[l].val
  have P0 := hide ((Below.refl w.heap.size w).alloc (Nat.le_refl _) (.cells #[.int .i64 xs[l].op, .int .i64 xs[l].val, .string xs[l].name] 70))
  have HB0 : Hid (Below (w.heap.size + 1) (w.alloc (.cells #[.int .i64 xs[l].op, .int .i64 xs[l].val, .string xs[l].name] 70)) (w.alloc (.cells #[.int .i64 xs[l].op, .int .i64 xs[l].val, .string xs[l].name] 70))) := Below.refl _ _
  have HB0d : Hid (Below (w.heap.size + 1) (w.alloc (.cells #[.int .i64 xs[l].op, .int .i64 xs[l].val, .string xs[l].name] 70)) (w.alloc (.cells #[.int .i64 xs[l].op, .int .i64 xs[l].val, .string xs[l].name] 70)).drew) := (unhide HB0).drew
  have HOUT : Hid (∀ w1, Below (w.heap.size + 1) (w.alloc (.cells #[.int .i64 xs[l].op, .int .i64 xs[l].val, .string xs[l].name] 70)) w1 → Below w.heap.size w w1) := fun w1 h => (unhide P0).trans (h.mono (Nat.le_succ _))
  have HSZ := hide (opT_size (unhide HIT) hl3)
  have IH : Hid (∀ k, k < l + 1 → Opd xs k → ∀ w', Hid (Below (w.heap.size + 1) (w.alloc (.cells #[.int .i64 xs[l].op, .int .i64 xs[l].val, .string xs[l].name] 70)) w') → Calls Tryz.prog 13 #[.slice (some ⟨b, o, none⟩) xs.length cap, .int .i64 (k : Int)] w' fun e w1 => e = .returned (.string (opT xs k)) ∧ Hid (Below (w.heap.size + 1) (w.alloc (.cells #[.int .i64 xs[l].op, .int .i64 xs[l].val, .string xs[l].name] 70)) w1) ∧ w1.cell? ⟨w.heap.size, 0, none⟩ = some (.int .i64 xs[l].op) ∧ w1.cell? ⟨w.heap.size, 2, none⟩ = some (.string xs[l].name)) := by
    intro k hk hok w' hbw
    refine (ih k hk hok w' ((unhide HV).stays RItem_kept (unhide HOUT _ (unhide hbw)))).mono ?_
    rintro e w1 ⟨rfl, hb1⟩
    have hb2 := box_thru (unhide hbw) hb1
    refine ⟨rfl, hb2, ?_, ?_⟩
    · rw [box_cell (B := 0) hb2 0]; rfl
    · rw [box_cell (B := 0) hb2 2]; rfl
  have IH1 := hide (unhide IH l (Nat.lt_succ_self _) ho1)
  have hz1 := unhide HSZ l
  clear ih IH ho ho1 hin hir HV hv HTS
  generalize xs[l].name = nm at *
  generalize flT xs[l].val = dc at *
  generalize xs[l].val = vl at *
  generalize xs[l].op = op at *
  subst hop1
  generalize opT xs (l + 1) = ot at *
  generalize opT xs l = t1 at *
  go_enter Tryz.func13, Tryz.ntmps13
  go_wp2_with fail
  refine (unhide HD _).mono ?_
  rintro e w0 ⟨rfl, rfl⟩
  go_wp2_with fail
  refine (unhide IH1 _ HB0).mono ?_
  rintro e w1 ⟨rfl, HB1, k0, k2⟩
  go_wp2
  go_ret
  exact ⟨ret_str (by rw [unhide HS]; simp only [ba_assoc]; rfl), unhide HOUT _ (unhide HB1)⟩

end Go.Proofs.YtlgeioedgaajoaaGreatDoor
