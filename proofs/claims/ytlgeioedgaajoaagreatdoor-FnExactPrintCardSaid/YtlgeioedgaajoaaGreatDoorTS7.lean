import Derived.Test.YtlgeioedgaajoaaGreatDoorTS6
import Derived.Deep.RegionHeld3
namespace Go.Proofs.YtlgeioedgaajoaaGreatDoor
open Go.RowKit
set_option linter.unusedSimpArgs false
set_option linter.unusedVariables false

set_option maxHeartbeats 2000000 in
theorem l1Text_when (xs : List DItem) (v : Value) (w : World) (hv : SlAt 3 32 RItem 0 w v xs) (hit : ∀ t, t ∈ xs → itB t = true) (hl3 : xs.length ≤ 3000) (l : Nat) (hlt : l < xs.length) (ho : Opd xs (l + 1)) (hop1 : xs[l].op = 23) (hvc : xs[l].val = 1)
    (ih : ∀ k, k < l + 1 → Opd xs k → ∀ w', SlAt 3 32 RItem 0 w' v xs → Calls Tryz.prog 13 #[v, .int .i64 (k : Int)] w' (Ans (.string (opT xs k)) w')) :
    Calls Tryz.prog 13 #[v, .int .i64 ((l : Int) + 1)] w (Ans (.string (opT xs (l + 1))) w) := by
  have har : ∀ t, t ∈ xs → 0 ≤ arI t.op := fun t ht => (ar_iff t.op).2 (by have := ((it_iff t).1 (hit t ht)).1; omega)
  have HV := hide hv
  have hx := hv
  obtain ⟨a, cap, rfl, _, hn, hx⟩ := hx
  unfold Len at hn
  obtain ⟨b, o, cs, rfl, _, hb, hcs, hc, hR⟩ := hx l hlt
  obtain ⟨rfl, hsn, hop, hvl⟩ := hR
  have c0 := hc 0 (by simp)
  have c1 := hc 1 (by simp)
  have c2 := hc 2 (by simp)
  simp only [Nat.mul_one, Nat.add_zero, List.getElem_cons_zero, List.getElem_cons_succ] at c0 c1 c2
  obtain ⟨hi0, hir, hin⟩ := (it_iff xs[l]).1 (hit _ (List.getElem_mem hlt))
  have HIT := hide hit
  clear hx hc hcs hit
  obtain ⟨ho1, HS⟩ := opd_one ho hlt (by rw [hop1]; decide)
  have HTS : tsT xs[l] = [Lop, Lwhen ++ xs[l].name ++ Lcl] := by simp [tsT, hop1, hvc, cnT]
  rw [HTS] at HS
  simp only [weave] at HS
  have HS := hide HS
  have hns : xs[l].name.size ≤ 40 := by simp only [nmB, hop1] at hin; simp at hin; exact name_size _ hin
  have P0 := hide ((Below.refl w.heap.size w).alloc (Nat.le_refl _) (.cells #[.int .i64 xs[l].op, .int .i64 xs[l].val, .string xs[l].name] 70))
  have HB0 : Hid (Below (w.heap.size + 1) (w.alloc (.cells #[.int .i64 xs[l].op, .int .i64 xs[l].val, .string xs[l].name] 70)) (w.alloc (.cells #[.int .i64 xs[l].op, .int .i64 xs[l].val, .string xs[l].name] 70))) := Below.refl _ _
  have HB0d : Hid (Below (w.heap.size + 1) (w.alloc (.cells #[.int .i64 xs[l].op, .int .i64 xs[l].val, .string xs[l].name] 70)) (w.alloc (.cells #[.int .i64 xs[l].op, .int .i64 xs[l].val, .string xs[l].name] 70)).drew) := (unhide HB0).drew
  have HOUT : Hid (∀ w1, Below (w.heap.size + 1) (w.alloc (.cells #[.int .i64 xs[l].op, .int .i64 xs[l].val, .string xs[l].name] 70)) w1 → Below w.heap.size w w1) := fun w1 h => (unhide P0).trans (h.mono (Nat.le_succ _))
  have HSZ := hide (opT_size (unhide HIT) hl3)
  have IH : Hid (∀ k, k < l + 1 → Opd xs k → ∀ w', Hid (Below (w.heap.size + 1) (w.alloc (.cells #[.int .i64 xs[l].op, .int .i64 xs[l].val, .string xs[l].name] 70)) w') → Calls Tryz.prog 13 #[.slice (some ⟨b, o, none⟩) xs.length cap, .int .i64 (k : Int)] w' fun e w1 => e = .returned (.string (opT xs k)) ∧ Hid (Below (w.heap.size + 1) (w.alloc (.cells #[.int .i64 xs[l].op, .int .i64 xs[l].val, .string xs[l].name] 70)) w1) ∧ w1.cell? ⟨w.heap.size, 0, none⟩ = some (.int .i64 xs[l].op) ∧ w1.cell? ⟨w.heap.size, 2, none⟩ = some (.string xs[l].name)) := by
    intro k hk hok w' hbw
    refine (ih k hk hok w' ((unhide HV).stays RItem_kept (unhide HOUT _ (unhide hbw)))).mono ?_
    rintro e w1 ⟨rfl, hb1⟩
    have hb2 := box_thru (unhide hbw) hb1
    refine ⟨rfl, hb2, ?_, ?_⟩
    · rw [box_cell (B := 0) hb2 0]; rfl
    · rw [box_cell (B := 0) hb2 2]; rfl
  have IH1 := hide (unhide IH l (Nat.lt_succ_self _) ho1)
  have hz1 := unhide HSZ l
  clear ih IH ho ho1 hin hir HV hv HTS
  generalize xs[l].name = nm at *
  generalize xs[l].val = vl at *
  generalize xs[l].op = op at *
  subst hop1
  subst hvc
  generalize opT xs (l + 1) = ot at *
  generalize opT xs l = t1 at *
  have q1 : ¬ (9223372036854775807 < 1 + t1.size) := by omega
  have q2 : ¬ (9223372036854775807 < 1 + t1.size + 6) := by omega
  have q3 : ¬ (9223372036854775807 < 1 + t1.size + 6 + nm.size) := by omega
  have q4 : ¬ (9223372036854775807 < 1 + t1.size + 6 + nm.size + 1) := by omega
  go_enter Tryz.func13, Tryz.ntmps13
  go_wp2_with fail
  go_region_held3 (fun w' => w'.cell? ⟨w.heap.size, 2, none⟩ = some (.string nm)) (go_keep) (first | (go_at_call 13; refine (unhide IH1 _ HB0d).mono ?_; rintro e w1 ⟨rfl, HB1, k0, k2⟩))
  all_goals
    go_wp2
    go_ret
    exact ⟨ret_str (by rw [unhide HS]; simp only [ba_assoc]; rfl), unhide HOUT _ (unhide HB1)⟩

set_option maxHeartbeats 2000000 in
theorem l1Text_whenot (xs : List DItem) (v : Value) (w : World) (hv : SlAt 3 32 RItem 0 w v xs) (hit : ∀ t, t ∈ xs → itB t = true) (hl3 : xs.length ≤ 3000) (l : Nat) (hlt : l < xs.length) (ho : Opd xs (l + 1)) (hop1 : xs[l].op = 23) (hvc : ¬ xs[l].val = 1)
    (ih : ∀ k, k < l + 1 → Opd xs k → ∀ w', SlAt 3 32 RItem 0 w' v xs → Calls Tryz.prog 13 #[v, .int .i64 (k : Int)] w' (Ans (.string (opT xs k)) w')) :
    Calls Tryz.prog 13 #[v, .int .i64 ((l : Int) + 1)] w (Ans (.string (opT xs (l + 1))) w) := by
  have har : ∀ t, t ∈ xs → 0 ≤ arI t.op := fun t ht => (ar_iff t.op).2 (by have := ((it_iff t).1 (hit t ht)).1; omega)
  have HV := hide hv
  have hx := hv
  obtain ⟨a, cap, rfl, _, hn, hx⟩ := hx
  unfold Len at hn
  obtain ⟨b, o, cs, rfl, _, hb, hcs, hc, hR⟩ := hx l hlt
  obtain ⟨rfl, hsn, hop, hvl⟩ := hR
  have c0 := hc 0 (by simp)
  have c1 := hc 1 (by simp)
  have c2 := hc 2 (by simp)
  simp only [Nat.mul_one, Nat.add_zero, List.getElem_cons_zero, List.getElem_cons_succ] at c0 c1 c2
  obtain ⟨hi0, hir, hin⟩ := (it_iff xs[l]).1 (hit _ (List.getElem_mem hlt))
  have HIT := hide hit
  clear hx hc hcs hit
  obtain ⟨ho1, HS⟩ := opd_one ho hlt (by rw [hop1]; decide)
  have HTS : tsT xs[l] = [Lop, Lwhenot ++ xs[l].name ++ Lcl] := by simp [tsT, hop1, hvc, cnT]
  rw [HTS] at HS
  simp only [weave] at HS
  have HS := hide HS
  have hns : xs[l].name.size ≤ 40 := by simp only [nmB, hop1] at hin; simp at hin; exact name_size _ hin
  have P0 := hide ((Below.refl w.heap.size w).alloc (Nat.le_refl _) (.cells #[.int .i64 xs[l].op, .int .i64 xs[l].val, .string xs[l].name] 70))
  have HB0 : Hid (Below (w.heap.size + 1) (w.alloc (.cells #[.int .i64 xs[l].op, .int .i64 xs[l].val, .string xs[l].name] 70)) (w.alloc (.cells #[.int .i64 xs[l].op, .int .i64 xs[l].val, .string xs[l].name] 70))) := Below.refl _ _
  have HB0d : Hid (Below (w.heap.size + 1) (w.alloc (.cells #[.int .i64 xs[l].op, .int .i64 xs[l].val, .string xs[l].name] 70)) (w.alloc (.cells #[.int .i64 xs[l].op, .int .i64 xs[l].val, .string xs[l].name] 70)).drew) := (unhide HB0).drew
  have HOUT : Hid (∀ w1, Below (w.heap.size + 1) (w.alloc (.cells #[.int .i64 xs[l].op, .int .i64 xs[l].val, .string xs[l].name] 70)) w1 → Below w.heap.size w w1) := fun w1 h => (unhide P0).trans (h.mono (Nat.le_succ _))
  have HSZ := hide (opT_size (unhide HIT) hl3)
  have IH : Hid (∀ k, k < l + 1 → Opd xs k → ∀ w', Hid (Below (w.heap.size + 1) (w.alloc (.cells #[.int .i64 xs[l].op, .int .i64 xs[l].val, .string xs[l].name] 70)) w') → Calls Tryz.prog 13 #[.slice (some ⟨b, o, none⟩) xs.length cap, .int .i64 (k : Int)] w' fun e w1 => e = .returned (.string (opT xs k)) ∧ Hid (Below (w.heap.size + 1) (w.alloc (.cells #[.int .i64 xs[l].op, .int .i64 xs[l].val, .string xs[l].name] 70)) w1) ∧ w1.cell? ⟨w.heap.size, 0, none⟩ = some (.int .i64 xs[l].op) ∧ w1.cell? ⟨w.heap.size, 2, none⟩ = some (.string xs[l].name)) := by
    intro k hk hok w' hbw
    refine (ih k hk hok w' ((unhide HV).stays RItem_kept (unhide HOUT _ (unhide hbw)))).mono ?_
    rintro e w1 ⟨rfl, hb1⟩
    have hb2 := box_thru (unhide hbw) hb1
    refine ⟨rfl, hb2, ?_, ?_⟩
    · rw [box_cell (B := 0) hb2 0]; rfl
    · rw [box_cell (B := 0) hb2 2]; rfl
  have IH1 := hide (unhide IH l (Nat.lt_succ_self _) ho1)
  have hz1 := unhide HSZ l
  clear ih IH ho ho1 hin hir HV hv HTS
  generalize xs[l].name = nm at *
  generalize xs[l].val = vl at *
  generalize xs[l].op = op at *
  subst hop1
  
  generalize opT xs (l + 1) = ot at *
  generalize opT xs l = t1 at *
  have q1 : ¬ (9223372036854775807 < 1 + t1.size) := by omega
  have q2 : ¬ (9223372036854775807 < 1 + t1.size + 8) := by omega
  have q3 : ¬ (9223372036854775807 < 1 + t1.size + 8 + nm.size) := by omega
  have q4 : ¬ (9223372036854775807 < 1 + t1.size + 8 + nm.size + 1) := by omega
  go_enter Tryz.func13, Tryz.ntmps13
  go_wp2_with fail
  go_region_held3 (fun w' => w'.cell? ⟨w.heap.size, 2, none⟩ = some (.string nm)) (go_keep) (first | (go_at_call 13; refine (unhide IH1 _ HB0d).mono ?_; rintro e w1 ⟨rfl, HB1, k0, k2⟩))
  all_goals
    go_wp2
    go_ret
    exact ⟨ret_str (by rw [unhide HS]; simp only [ba_assoc]; rfl), unhide HOUT _ (unhide HB1)⟩

set_option maxHeartbeats 2000000 in
theorem l1Text_merge (xs : List DItem) (v : Value) (w : World) (hv : SlAt 3 32 RItem 0 w v xs) (hit : ∀ t, t ∈ xs → itB t = true) (hl3 : xs.length ≤ 3000) (l : Nat) (hlt : l < xs.length) (ho : Opd xs (l + 1)) (hop1 : xs[l].op = 24)
    (ih : ∀ k, k < l + 1 → Opd xs k → ∀ w', SlAt 3 32 RItem 0 w' v xs → Calls Tryz.prog 13 #[v, .int .i64 (k : Int)] w' (Ans (.string (opT xs k)) w')) :
    Calls Tryz.prog 13 #[v, .int .i64 ((l : Int) + 1)] w (Ans (.string (opT xs (l + 1))) w) := by
  have har : ∀ t, t ∈ xs → 0 ≤ arI t.op := fun t ht => (ar_iff t.op).2 (by have := ((it_iff t).1 (hit t ht)).1; omega)
  have HV := hide hv
  have hx := hv
  obtain ⟨a, cap, rfl, _, hn, hx⟩ := hx
  unfold Len at hn
  obtain ⟨b, o, cs, rfl, _, hb, hcs, hc, hR⟩ := hx l hlt
  obtain ⟨rfl, hsn, hop, hvl⟩ := hR
  have c0 := hc 0 (by simp)
  have c1 := hc 1 (by simp)
  have c2 := hc 2 (by simp)
  simp only [Nat.mul_one, Nat.add_zero, List.getElem_cons_zero, List.getElem_cons_succ] at c0 c1 c2
  obtain ⟨hi0, hir, hin⟩ := (it_iff xs[l]).1 (hit _ (List.getElem_mem hlt))
  have HIT := hide hit
  clear hx hc hcs hit
  obtain ⟨m, ho1, ho2, hml, hbg, HS⟩ := opd_two har ho hlt (by rw [hop1]; decide)
  have HTS : tsT xs[l] = [Lmerge ++ xs[l].name ++ Lsp, Lsp, Lcl] := by simp [tsT, hop1]
  rw [HTS] at HS
  simp only [weave] at HS
  have HS := hide HS
  have hns : xs[l].name.size ≤ 40 := by simp only [nmB, hop1] at hin; simp at hin; exact name_size _ hin
  have P0 := hide ((Below.refl w.heap.size w).alloc (Nat.le_refl _) (.cells #[.int .i64 xs[l].op, .int .i64 xs[l].val, .string xs[l].name] 70))
  have HB0 : Hid (Below (w.heap.size + 1) (w.alloc (.cells #[.int .i64 xs[l].op, .int .i64 xs[l].val, .string xs[l].name] 70)) (w.alloc (.cells #[.int .i64 xs[l].op, .int .i64 xs[l].val, .string xs[l].name] 70))) := Below.refl _ _
  have HB0d : Hid (Below (w.heap.size + 1) (w.alloc (.cells #[.int .i64 xs[l].op, .int .i64 xs[l].val, .string xs[l].name] 70)) (w.alloc (.cells #[.int .i64 xs[l].op, .int .i64 xs[l].val, .string xs[l].name] 70)).drew) := (unhide HB0).drew
  have HOUT : Hid (∀ w1, Below (w.heap.size + 1) (w.alloc (.cells #[.int .i64 xs[l].op, .int .i64 xs[l].val, .string xs[l].name] 70)) w1 → Below w.heap.size w w1) := fun w1 h => (unhide P0).trans (h.mono (Nat.le_succ _))
  have HSZ := hide (opT_size (unhide HIT) hl3)
  have IH : Hid (∀ k, k < l + 1 → Opd xs k → ∀ w', Hid (Below (w.heap.size + 1) (w.alloc (.cells #[.int .i64 xs[l].op, .int .i64 xs[l].val, .string xs[l].name] 70)) w') → Calls Tryz.prog 13 #[.slice (some ⟨b, o, none⟩) xs.length cap, .int .i64 (k : Int)] w' fun e w1 => e = .returned (.string (opT xs k)) ∧ Hid (Below (w.heap.size + 1) (w.alloc (.cells #[.int .i64 xs[l].op, .int .i64 xs[l].val, .string xs[l].name] 70)) w1) ∧ w1.cell? ⟨w.heap.size, 0, none⟩ = some (.int .i64 xs[l].op) ∧ w1.cell? ⟨w.heap.size, 2, none⟩ = some (.string xs[l].name)) := by
    intro k hk hok w' hbw
    refine (ih k hk hok w' ((unhide HV).stays RItem_kept (unhide HOUT _ (unhide hbw)))).mono ?_
    rintro e w1 ⟨rfl, hb1⟩
    have hb2 := box_thru (unhide hbw) hb1
    refine ⟨rfl, hb2, ?_, ?_⟩
    · rw [box_cell (B := 0) hb2 0]; rfl
    · rw [box_cell (B := 0) hb2 2]; rfl
  have HBG := l1Begin_at xs l (by omega) _ (w.alloc (.cells #[.int .i64 xs[l].op, .int .i64 xs[l].val, .string xs[l].name] 70)) ((unhide HV).stays RItem_kept (unhide P0))
  rw [hbg] at HBG
  have HBG := hide HBG
  have IHA : Hid (∀ k, k = l ∨ k = m → ∀ w', Hid (Below (w.heap.size + 1) (w.alloc (.cells #[.int .i64 xs[l].op, .int .i64 xs[l].val, .string xs[l].name] 70)) w') → Calls Tryz.prog 13 #[.slice (some ⟨b, o, none⟩) xs.length cap, .int .i64 (k : Int)] w' fun e w1 => e = .returned (.string (opT xs k)) ∧ Hid (Below (w.heap.size + 1) (w.alloc (.cells #[.int .i64 xs[l].op, .int .i64 xs[l].val, .string xs[l].name] 70)) w1) ∧ w1.cell? ⟨w.heap.size, 0, none⟩ = some (.int .i64 xs[l].op) ∧ w1.cell? ⟨w.heap.size, 2, none⟩ = some (.string xs[l].name)) := by
    intro k hk
    rcases hk with rfl | rfl
    · exact unhide IH _ (Nat.lt_succ_self _) ho1
    · exact unhide IH _ hml ho2
  have hz1 := unhide HSZ l
  have hz2 := unhide HSZ m
  clear ih IH ho ho1 ho2 hin hir HV hv HTS hbg har
  generalize xs[l].name = nm at *
  generalize xs[l].val = vl at *
  generalize xs[l].op = op at *
  subst hop1
  generalize opT xs (l + 1) = ot at *
  have q1 : ¬ (9223372036854775807 < 7 + nm.size) := by omega
  have q2 : ¬ (9223372036854775807 < 7 + nm.size + 1) := by omega
  have q3 : ¬ (9223372036854775807 < 7 + nm.size + 1 + (opT xs m).size) := by omega
  have q4 : ¬ (9223372036854775807 < 7 + nm.size + 1 + (opT xs m).size + 1) := by omega
  have q5 : ¬ (9223372036854775807 < 7 + nm.size + 1 + (opT xs m).size + 1 + (opT xs l).size) := by omega
  have q6 : ¬ (9223372036854775807 < 7 + nm.size + 1 + (opT xs m).size + 1 + (opT xs l).size + 1) := by omega
  go_enter Tryz.func13, Tryz.ntmps13
  go_wp2_with fail
  refine (unhide HBG).mono ?_
  rintro e w0 ⟨rfl, rfl⟩
  go_wp2_with fail
  go_region_held3 (fun w' => w'.cell? ⟨w.heap.size, 2, none⟩ = some (.string nm)) (go_keep) (first | (go_at_call 13; refine (unhide IHA _ (by first | exact Or.inl rfl | exact Or.inr rfl) _ HB0d).mono ?_; rintro e w1 ⟨rfl, HB1, k0, k2⟩; clear HB0d) | (go_at_call 13; refine (unhide IHA _ (by first | exact Or.inl rfl | exact Or.inr rfl) _ HB1).mono ?_; rintro e w2 ⟨rfl, HB2, m0, m2⟩))
  all_goals
    go_wp2
    go_ret
    exact ⟨ret_str (by rw [unhide HS]; simp only [ba_assoc]; rfl), unhide HOUT _ (by first | exact unhide HB2 | exact unhide HB1)⟩

set_option maxHeartbeats 2000000 in
theorem l1Text_binary (xs : List DItem) (v : Value) (w : World) (hv : SlAt 3 32 RItem 0 w v xs) (hit : ∀ t, t ∈ xs → itB t = true) (hl3 : xs.length ≤ 3000) (l : Nat) (hlt : l < xs.length) (ho : Opd xs (l + 1)) (hop1 : 6 ≤ xs[l].op ∧ xs[l].op ≤ 19)
    (ih : ∀ k, k < l + 1 → Opd xs k → ∀ w', SlAt 3 32 RItem 0 w' v xs → Calls Tryz.prog 13 #[v, .int .i64 (k : Int)] w' (Ans (.string (opT xs k)) w')) :
    Calls Tryz.prog 13 #[v, .int .i64 ((l : Int) + 1)] w (Ans (.string (opT xs (l + 1))) w) := by
  have har : ∀ t, t ∈ xs → 0 ≤ arI t.op := fun t ht => (ar_iff t.op).2 (by have := ((it_iff t).1 (hit t ht)).1; omega)
  have HV := hide hv
  have hx := hv
  obtain ⟨a, cap, rfl, _, hn, hx⟩ := hx
  unfold Len at hn
  obtain ⟨b, o, cs, rfl, _, hb, hcs, hc, hR⟩ := hx l hlt
  obtain ⟨rfl, hsn, hop, hvl⟩ := hR
  have c0 := hc 0 (by simp)
  have c1 := hc 1 (by simp)
  have c2 := hc 2 (by simp)
  simp only [Nat.mul_one, Nat.add_zero, List.getElem_cons_zero, List.getElem_cons_succ] at c0 c1 c2
  obtain ⟨hi0, hir, hin⟩ := (it_iff xs[l]).1 (hit _ (List.getElem_mem hlt))
  have HIT := hide hit
  clear hx hc hcs hit
  obtain ⟨m, ho1, ho2, hml, hbg, HS⟩ := opd_two har ho hlt (by unfold arN ocI; rw [if_neg (by omega), if_neg (by omega), if_neg (by omega)]; rfl)
  have HTS : tsT xs[l] = [Lop, Lsp ++ sgT xs[l].op ++ Lsp, Lcl] := by
    unfold tsT
    rw [if_neg (by omega), if_neg (by omega), if_neg (by omega), if_neg (by omega), if_neg (by omega), if_neg (by omega), if_neg (by omega), if_neg (by omega), if_neg (by omega), if_neg (by omega)]
  rw [HTS] at HS
  simp only [weave] at HS
  have HS := hide HS
  have HSG := hide (fun w => l1Sign_ok xs[l].op w)
  have hsg := sgT_size xs[l].op
  have P0 := hide ((Below.refl w.heap.size w).alloc (Nat.le_refl _) (.cells #[.int .i64 xs[l].op, .int .i64 xs[l].val, .string xs[l].name] 70))
  have HB0 : Hid (Below (w.heap.size + 1) (w.alloc (.cells #[.int .i64 xs[l].op, .int .i64 xs[l].val, .string xs[l].name] 70)) (w.alloc (.cells #[.int .i64 xs[l].op, .int .i64 xs[l].val, .string xs[l].name] 70))) := Below.refl _ _
  have HB0d : Hid (Below (w.heap.size + 1) (w.alloc (.cells #[.int .i64 xs[l].op, .int .i64 xs[l].val, .string xs[l].name] 70)) (w.alloc (.cells #[.int .i64 xs[l].op, .int .i64 xs[l].val, .string xs[l].name] 70)).drew) := (unhide HB0).drew
  have HOUT : Hid (∀ w1, Below (w.heap.size + 1) (w.alloc (.cells #[.int .i64 xs[l].op, .int .i64 xs[l].val, .string xs[l].name] 70)) w1 → Below w.heap.size w w1) := fun w1 h => (unhide P0).trans (h.mono (Nat.le_succ _))
  have HSZ := hide (opT_size (unhide HIT) hl3)
  have IH : Hid (∀ k, k < l + 1 → Opd xs k → ∀ w', Hid (Below (w.heap.size + 1) (w.alloc (.cells #[.int .i64 xs[l].op, .int .i64 xs[l].val, .string xs[l].name] 70)) w') → Calls Tryz.prog 13 #[.slice (some ⟨b, o, none⟩) xs.length cap, .int .i64 (k : Int)] w' fun e w1 => e = .returned (.string (opT xs k)) ∧ Hid (Below (w.heap.size + 1) (w.alloc (.cells #[.int .i64 xs[l].op, .int .i64 xs[l].val, .string xs[l].name] 70)) w1) ∧ w1.cell? ⟨w.heap.size, 0, none⟩ = some (.int .i64 xs[l].op) ∧ w1.cell? ⟨w.heap.size, 2, none⟩ = some (.string xs[l].name)) := by
    intro k hk hok w' hbw
    refine (ih k hk hok w' ((unhide HV).stays RItem_kept (unhide HOUT _ (unhide hbw)))).mono ?_
    rintro e w1 ⟨rfl, hb1⟩
    have hb2 := box_thru (unhide hbw) hb1
    refine ⟨rfl, hb2, ?_, ?_⟩
    · rw [box_cell (B := 0) hb2 0]; rfl
    · rw [box_cell (B := 0) hb2 2]; rfl
  have HBG := l1Begin_at xs l (by omega) _ (w.alloc (.cells #[.int .i64 xs[l].op, .int .i64 xs[l].val, .string xs[l].name] 70)) ((unhide HV).stays RItem_kept (unhide P0))
  rw [hbg] at HBG
  have HBG := hide HBG
  have IHA : Hid (∀ k, k = l ∨ k = m → ∀ w', Hid (Below (w.heap.size + 1) (w.alloc (.cells #[.int .i64 xs[l].op, .int .i64 xs[l].val, .string xs[l].name] 70)) w') → Calls Tryz.prog 13 #[.slice (some ⟨b, o, none⟩) xs.length cap, .int .i64 (k : Int)] w' fun e w1 => e = .returned (.string (opT xs k)) ∧ Hid (Below (w.heap.size + 1) (w.alloc (.cells #[.int .i64 xs[l].op, .int .i64 xs[l].val, .string xs[l].name] 70)) w1) ∧ w1.cell? ⟨w.heap.size, 0, none⟩ = some (.int .i64 xs[l].op) ∧ w1.cell? ⟨w.heap.size, 2, none⟩ = some (.string xs[l].name)) := by
    intro k hk
    rcases hk with rfl | rfl
    · exact unhide IH _ (Nat.lt_succ_self _) ho1
    · exact unhide IH _ hml ho2
  have hz1 := unhide HSZ l
  have hz2 := unhide HSZ m
  clear ih IH ho ho1 ho2 hin hir HV hv HTS hbg har
  generalize xs[l].name = nm at *
  generalize xs[l].val = vl at *
  generalize sgT xs[l].op = sg at *
  generalize xs[l].op = op at *
  generalize opT xs (l + 1) = ot at *
  have q1 : ¬ (9223372036854775807 < 1 + (opT xs m).size) := by omega
  have q2 : ¬ (9223372036854775807 < 1 + (opT xs m).size + 1) := by omega
  have q3 : ¬ (9223372036854775807 < 1 + (opT xs m).size + 1 + sg.size) := by omega
  have q4 : ¬ (9223372036854775807 < 1 + (opT xs m).size + 1 + sg.size + 1) := by omega
  have q5 : ¬ (9223372036854775807 < 1 + (opT xs m).size + 1 + sg.size + 1 + (opT xs l).size) := by omega
  have q6 : ¬ (9223372036854775807 < 1 + (opT xs m).size + 1 + sg.size + 1 + (opT xs l).size + 1) := by omega
  go_enter Tryz.func13, Tryz.ntmps13
  go_wp2_with fail
  refine (unhide HBG).mono ?_
  rintro e w0 ⟨rfl, rfl⟩
  go_wp2_with fail
  go_region_held3 (fun w' => w'.cell? ⟨w.heap.size, 0, none⟩ = some (.int .i64 op)) (go_keep) (first | (go_at_call 13; refine (unhide IHA _ (by first | exact Or.inl rfl | exact Or.inr rfl) _ HB0d).mono ?_; rintro e w1 ⟨rfl, HB1, k0, k2⟩; clear HB0d) | (go_at_call 27; refine (unhide HSG _).mono ?_; rintro e w2 ⟨rfl, hbs⟩; have HBs := hide (box_thru (unhide HB1) hbs); have m0 : w2.cell? ⟨w.heap.size, 0, none⟩ = some (.int .i64 op) := by (rw [box_cell (B := 0) (unhide HBs) 0]; rfl)) | (go_at_call 13; refine (unhide IHA _ (by first | exact Or.inl rfl | exact Or.inr rfl) _ HBs).mono ?_; rintro e w3 ⟨rfl, HB2, m0, m2⟩))
  all_goals
    go_wp2
    go_ret
    exact ⟨ret_str (by rw [unhide HS]; simp only [ba_assoc]; rfl), unhide HOUT _ (by first | exact unhide HB2 | exact unhide HB1)⟩

set_option maxHeartbeats 2000000 in
theorem l1Text_if (xs : List DItem) (v : Value) (w : World) (hv : SlAt 3 32 RItem 0 w v xs) (hit : ∀ t, t ∈ xs → itB t = true) (hl3 : xs.length ≤ 3000) (l : Nat) (hlt : l < xs.length) (ho : Opd xs (l + 1)) (hop1 : xs[l].op = 20)
    (ih : ∀ k, k < l + 1 → Opd xs k → ∀ w', SlAt 3 32 RItem 0 w' v xs → Calls Tryz.prog 13 #[v, .int .i64 (k : Int)] w' (Ans (.string (opT xs k)) w')) :
    Calls Tryz.prog 13 #[v, .int .i64 ((l : Int) + 1)] w (Ans (.string (opT xs (l + 1))) w) := by
  have har : ∀ t, t ∈ xs → 0 ≤ arI t.op := fun t ht => (ar_iff t.op).2 (by have := ((it_iff t).1 (hit t ht)).1; omega)
  have HV := hide hv
  have hx := hv
  obtain ⟨a, cap, rfl, _, hn, hx⟩ := hx
  unfold Len at hn
  obtain ⟨b, o, cs, rfl, _, hb, hcs, hc, hR⟩ := hx l hlt
  obtain ⟨rfl, hsn, hop, hvl⟩ := hR
  have c0 := hc 0 (by simp)
  have c1 := hc 1 (by simp)
  have c2 := hc 2 (by simp)
  simp only [Nat.mul_one, Nat.add_zero, List.getElem_cons_zero, List.getElem_cons_succ] at c0 c1 c2
  obtain ⟨hi0, hir, hin⟩ := (it_iff xs[l]).1 (hit _ (List.getElem_mem hlt))
  have HIT := hide hit
  clear hx hc hcs hit
  obtain ⟨m, n, ho1, ho2, ho3, hml, hnm, hbg, hbg2, HS⟩ := opd_three har ho hlt (by rw [hop1]; decide)
  have HTS : tsT xs[l] = [Lif, Lthen, Lelse, Lcl] := by simp [tsT, hop1]
  rw [HTS] at HS
  simp only [weave] at HS
  have HS := hide HS
  have P0 := hide ((Below.refl w.heap.size w).alloc (Nat.le_refl _) (.cells #[.int .i64 xs[l].op, .int .i64 xs[l].val, .string xs[l].name] 70))
  have HB0 : Hid (Below (w.heap.size + 1) (w.alloc (.cells #[.int .i64 xs[l].op, .int .i64 xs[l].val, .string xs[l].name] 70)) (w.alloc (.cells #[.int .i64 xs[l].op, .int .i64 xs[l].val, .string xs[l].name] 70))) := Below.refl _ _
  have HB0d : Hid (Below (w.heap.size + 1) (w.alloc (.cells #[.int .i64 xs[l].op, .int .i64 xs[l].val, .string xs[l].name] 70)) (w.alloc (.cells #[.int .i64 xs[l].op, .int .i64 xs[l].val, .string xs[l].name] 70)).drew) := (unhide HB0).drew
  have HOUT : Hid (∀ w1, Below (w.heap.size + 1) (w.alloc (.cells #[.int .i64 xs[l].op, .int .i64 xs[l].val, .string xs[l].name] 70)) w1 → Below w.heap.size w w1) := fun w1 h => (unhide P0).trans (h.mono (Nat.le_succ _))
  have HSZ := hide (opT_size (unhide HIT) hl3)
  have IH : Hid (∀ k, k < l + 1 → Opd xs k → ∀ w', Hid (Below (w.heap.size + 1) (w.alloc (.cells #[.int .i64 xs[l].op, .int .i64 xs[l].val, .string xs[l].name] 70)) w') → Calls Tryz.prog 13 #[.slice (some ⟨b, o, none⟩) xs.length cap, .int .i64 (k : Int)] w' fun e w1 => e = .returned (.string (opT xs k)) ∧ Hid (Below (w.heap.size + 1) (w.alloc (.cells #[.int .i64 xs[l].op, .int .i64 xs[l].val, .string xs[l].name] 70)) w1) ∧ w1.cell? ⟨w.heap.size, 0, none⟩ = some (.int .i64 xs[l].op) ∧ w1.cell? ⟨w.heap.size, 2, none⟩ = some (.string xs[l].name)) := by
    intro k hk hok w' hbw
    refine (ih k hk hok w' ((unhide HV).stays RItem_kept (unhide HOUT _ (unhide hbw)))).mono ?_
    rintro e w1 ⟨rfl, hb1⟩
    have hb2 := box_thru (unhide hbw) hb1
    refine ⟨rfl, hb2, ?_, ?_⟩
    · rw [box_cell (B := 0) hb2 0]; rfl
    · rw [box_cell (B := 0) hb2 2]; rfl
  have HBG := l1Begin_at xs l (by omega) _ (w.alloc (.cells #[.int .i64 xs[l].op, .int .i64 xs[l].val, .string xs[l].name] 70)) ((unhide HV).stays RItem_kept (unhide P0))
  rw [hbg] at HBG
  have HBG := hide HBG
  have HBG2 := l1Begin_at xs m (by omega) _ (w.alloc (.cells #[.int .i64 xs[l].op, .int .i64 xs[l].val, .string xs[l].name] 70)) ((unhide HV).stays RItem_kept (unhide P0))
  rw [hbg2] at HBG2
  have HBG2 := hide HBG2
  have IH1 := hide (unhide IH l (Nat.lt_succ_self _) ho1)
  have IH2 := hide (unhide IH m hml ho2)
  have IH3 := hide (unhide IH n (by omega) ho3)
  have hz1 := unhide HSZ l
  have hz2 := unhide HSZ m
  have hz3 := unhide HSZ n
  clear ih IH ho ho1 ho2 ho3 hin hir HV hv HTS hbg hbg2 har
  generalize xs[l].name = nm at *
  generalize xs[l].val = vl at *
  generalize xs[l].op = op at *
  subst hop1
  generalize opT xs (l + 1) = ot at *
  generalize opT xs l = t1 at *
  generalize opT xs m = t2 at *
  generalize opT xs n = t3 at *
  go_enter Tryz.func13, Tryz.ntmps13
  go_wp2_with fail
  refine (unhide HBG).mono ?_
  rintro e w0 ⟨rfl, rfl⟩
  go_wp2_with fail
  refine (unhide HBG2).mono ?_
  rintro e w0 ⟨rfl, rfl⟩
  go_wp2_with fail
  refine (unhide IH3 _ HB0).mono ?_
  rintro e w1 ⟨rfl, HB1, k0, k2⟩
  go_wp2_with fail
  refine (unhide IH2 _ HB1).mono ?_
  rintro e w2 ⟨rfl, HB2, m0, m2⟩
  go_wp2_with fail
  refine (unhide IH1 _ HB2).mono ?_
  rintro e w3 ⟨rfl, HB3, n0, n2⟩
  go_wp2
  go_ret
  exact ⟨ret_str (by rw [unhide HS]; simp only [ba_assoc]; rfl), unhide HOUT _ (unhide HB3)⟩

theorem l1Text_ok (xs : List DItem) (v : Value) (hit : ∀ t, t ∈ xs → itB t = true) (hl3 : xs.length ≤ 3000) (e : Nat) : Opd xs e → ∀ (w : World), SlAt 3 32 RItem 0 w v xs →
    Calls Tryz.prog 13 #[v, .int .i64 (e : Int)] w (Ans (.string (opT xs e)) w) := by
  induction e using Nat.strongRecOn with
  | _ e ih =>
    intro ho w hv
    obtain ⟨l, rfl, hlt⟩ := ho.pos
    rw [show (((l + 1 : Nat)) : Int) = (l : Int) + 1 from by omega]
    have hi0 := ((it_iff xs[l]).1 (hit _ (List.getElem_mem hlt))).1
    have ih' : ∀ k, k < l + 1 → Opd xs k → ∀ w', SlAt 3 32 RItem 0 w' v xs → Calls Tryz.prog 13 #[v, .int .i64 (k : Int)] w' (Ans (.string (opT xs k)) w') := fun k hk hok w' hv' => ih k hk hok w' hv'
    by_cases h1 : xs[l].op = 1
    · exact l1Text_int xs v w hv hit hl3 l hlt ho h1 ih'
    by_cases h2 : xs[l].op = 2
    · exact l1Text_bool xs v w hv hit hl3 l hlt ho h2 ih'
    by_cases h3 : xs[l].op = 3
    · exact l1Text_var xs v w hv hit hl3 l hlt ho h3 ih'
    by_cases h4 : xs[l].op = 4
    · exact l1Text_neg xs v w hv hit hl3 l hlt ho h4 ih'
    by_cases h5 : xs[l].op = 5
    · exact l1Text_not xs v w hv hit hl3 l hlt ho h5 ih'
    by_cases h20 : xs[l].op = 20
    · exact l1Text_if xs v w hv hit hl3 l hlt ho h20 ih'
    by_cases h21 : xs[l].op = 21
    · exact l1Text_fby xs v w hv hit hl3 l hlt ho h21 ih'
    by_cases h22 : xs[l].op = 22
    · exact l1Text_fbyb xs v w hv hit hl3 l hlt ho h22 ih'
    by_cases h23 : xs[l].op = 23
    · by_cases hvc : xs[l].val = 1
      · exact l1Text_when xs v w hv hit hl3 l hlt ho h23 hvc ih'
      · exact l1Text_whenot xs v w hv hit hl3 l hlt ho h23 hvc ih'
    by_cases h24 : xs[l].op = 24
    · exact l1Text_merge xs v w hv hit hl3 l hlt ho h24 ih'
    exact l1Text_binary xs v w hv hit hl3 l hlt ho (by omega) ih'

end Go.Proofs.YtlgeioedgaajoaaGreatDoor
