import Derived.Test.YtjjldnkhadakcaaGreatFill
import Derived.Test.YtjjldnkhadakcaaGreatMData
import Derived.Test.YtjjldnkhadakcaaGreatChars
import Derived.Test.YtjjldnkhadakcaaGreatMI22
namespace Go.Proofs.YtjjldnkhadakcaaGreat
open Go.RowKit
set_option linter.unusedSimpArgs false
set_option linter.unusedVariables false

def sTo (F : Nat → List Int) (mems insts : List Int) (q : Nat) : List Int := mems ++ (insts.take q).flatMap (fun g => F g.toNat)
theorem sTo_zero (F : Nat → List Int) (mems insts : List Int) : sTo F mems insts 0 = mems := by simp [sTo]
theorem sTo_succ (F : Nat → List Int) (mems insts : List Int) (q : Nat) (hq : q < insts.length) : sTo F mems insts (q + 1) = sTo F mems insts q ++ F insts[q].toNat := by
  unfold sTo
  rw [List.take_succ_eq_append_getElem hq, List.flatMap_append, List.append_assoc]
  simp
/-- First states, class by class. -/
structure RS (ks : List DClass) (F : Nat → List Int) : Prop where
  eq : ∀ i (hi : i < ks.length), F i = sTo F ks[i].mems ks[i].insts ks[i].insts.length
  len : ∀ i, i < ks.length → (F i).length ≤ 20000
  val : ∀ i, i < ks.length → ∀ x, x ∈ F i → I64 x
  ins : ∀ i (hi : i < ks.length), (ks[i].mems.length ≤ 1000 ∧ ks[i].insts.length ≤ 1000) ∧ ∀ q (hq : q < ks[i].insts.length), 0 ≤ ks[i].insts[q] ∧ ks[i].insts[q] < (i : Int)
theorem sTo_len (F : Nat → List Int) (mems insts : List Int) (q : Nat) (hq : q ≤ insts.length) : (sTo F mems insts q).length ≤ (sTo F mems insts insts.length).length := by
  obtain ⟨d, hd⟩ := Nat.exists_eq_add_of_le hq
  have : ∀ d, q + d ≤ insts.length → (sTo F mems insts q).length ≤ (sTo F mems insts (q + d)).length := by
    intro d
    induction d with
    | zero => intro _; exact Nat.le_refl _
    | succ d ih =>
      intro h2
      have h3 := ih (by omega)
      rw [show q + (d + 1) = q + d + 1 from by omega, sTo_succ _ _ _ _ (by omega), List.length_append]
      omega
  have h5 := this d (by omega)
  rw [← hd] at h5
  exact h5
theorem RInt_f0 : ∀ (w : World) (cs : List Value) (x : Int), RInt 0 w cs x → cs = elInt.f x := fun _ _ _ h => h.1

set_option maxHeartbeats 2000000 in
theorem l3Reset_ok (ks : List DClass) (F : Nat → List Int) (hF : RS ks F) (v : Value) (i : Nat) : ∀ (w : World) (hv : SlAt 7 160 RClass 0 w v ks) (hi : i < ks.length),
    Calls Tryz.prog 35 #[.agg #[v], .int .i64 (i : Int)] w (fun e w' => ∃ r, e = .returned r ∧ SlAt 1 8 RInt 0 w' r (F i) ∧ Below w.heap.size w w') := by
  induction i using Nat.strongRecOn with
  | ind i ih =>
  intro w hv hi
  have HV := hide hv
  obtain ⟨a0, c0, rfl⟩ := hv.shape
  obtain ⟨_, _, hve, _, hln, hx⟩ := hv
  simp only [Value.slice.injEq] at hve
  obtain ⟨rfl, _, rfl⟩ := hve
  unfold Len at hln
  obtain ⟨b, o, cs, rfl, _, hbl, hcs, hc, hR⟩ := hx i hi
  obtain ⟨k1, k2, k3, k4, k5, k6, rfl, hnm, q1, q2, q3, q4, q5, q6⟩ := hR
  have hA : Below w.heap.size w (w.alloc (.cells #[.slice (some ⟨b, o, none⟩) ks.length c0] 29)) := (Below.refl _ _).alloc (Nat.le_refl _) _
  have hA2 : Below w.heap.size w ((w.alloc (.cells #[.slice (some ⟨b, o, none⟩) ks.length c0] 29)).alloc (.cells #[] 3)) := hA.trans ((Below.refl _ _).alloc (by simp) _)
  have HA := hide hA
  have y4 := hc 4 (by simp)
  have y5 := hc 5 (by simp)
  simp only [List.getElem_cons_zero, List.getElem_cons_succ] at y4 y5
  obtain ⟨m4, n4, rfl⟩ := q4.shape
  obtain ⟨m5, n5, rfl⟩ := q5.shape
  have HM := hide (q4.stays RInt_kept hA2)
  have HI := hide q5
  have HY := hide (And.intro y4 y5)
  have HIH := hide ih
  have HEQ := hide (hF.eq i hi)
  have HLE := hide (hF.len i hi)
  have HVA := hide (hF.val i hi)
  obtain ⟨⟨hl4, hl5⟩, hins⟩ := hF.ins i hi
  have HIN := hide hins
  have HSL := hide (sTo_len F (ks[i]'hi).mems (ks[i]'hi).insts)
  have HSU := hide (sTo_succ F (ks[i]'hi).mems (ks[i]'hi).insts)
  have HSZ := hide (sTo_zero F (ks[i]'hi).mems (ks[i]'hi).insts)
  have HFL := hide hF.len
  have HO : Hid (OwnV elInt ((w.alloc (.cells #[.slice (some ⟨b, o, none⟩) ks.length c0] 29)).alloc (.cells #[] 3)) (w.heap.size + 1) (.slice (some ⟨w.heap.size + 1, 0, none⟩) 0 0) []) := by
    have h9 := OwnV.start (E := elInt) (w.alloc (.cells #[.slice (some ⟨b, o, none⟩) ks.length c0] 29)) (w.heap.size + 1) (by simp)
    rw [World.size_alloc] at h9
    exact hide h9
  have HBX := hide (blk_box w #[.slice (some ⟨b, o, none⟩) ks.length c0] 29)
  have hiI : (i : Int) < (ks.length : Int) := by omega
  generalize ks[i].mems = mems at *
  generalize ks[i].insts = insts at *
  clear hx hc hcs hnm q1 q2 q3 q4 q5 q6 hA hA2 ih hins hF
  generalize hRR : F i = res at *
  clear hRR
  go_enter Tryz.func35, Tryz.ntmps35
  go_wp2_with (at_builtin; go_must (refine wpList_append_allF elInt RInt_f0 _ rfl _ _ rfl (w.heap.size + 1) (w.heap.size + 1) 0 [] rfl (unhide HO) _ rfl mems (unhide HM) (by simp [elInt]; omega) (by simp) ?_))
  intro g1 cap1 w1 hown1 hgr1
  have hb1 := (unhide HO).grown ((Below.refl (w.heap.size + 1) (w.alloc (.cells #[.slice (some ⟨b, o, none⟩) ks.length c0] 29))).alloc (by simp) _) hgr1 (by simp) (Nat.le_refl _)
  have HB1 := hide hb1
  try simp only [List.length_nil, List.nil_append, Nat.zero_add] at hown1
  try simp only [List.length_nil, Nat.zero_add]
  have HO1 := hide hown1
  have x5 : w1.cell? ⟨b, o + i * 7 + 5, none⟩ = some (.slice m5 insts.length n5) := by
    rw [hb1.cell (p := ⟨b, _, none⟩) (by show b < _; omega), (unhide HA).cell (p := ⟨b, _, none⟩) hbl]
    exact (unhide HY).2
  have x0 : w1.cell? ⟨w.heap.size, 0, none⟩ = some (.slice (some ⟨b, o, none⟩) ks.length c0) := ((unhide HBX).below hb1 (by omega)).cell (v := .slice (some ⟨b, o, none⟩) ks.length c0) rfl
  clear hown1 hgr1 hb1 y4 y5
  go_wp2
  go_loopg [5, 23] insts.length (fun gh st ix wr => ∃ (q g cap : Nat), q ≤ insts.length ∧ gh = insts.length - q ∧ ix = .int .i64 q ∧ st = .slice (some ⟨g, 0, none⟩) (sTo F mems insts q).length cap ∧ Hid (OwnV elInt wr (w.heap.size + 1) (.slice (some ⟨g, 0, none⟩) (sTo F mems insts q).length cap) (sTo F mems insts q)) ∧ Hid (Below (w.heap.size + 1) (w.alloc (.cells #[.slice (some ⟨b, o, none⟩) ks.length c0] 29)) wr))
  case atStart => exact ⟨0, g1, cap1, Nat.zero_le _, by omega, rfl, by rw [unhide HSZ], (by rw [unhide HSZ]; exact HO1), HB1⟩
  case round =>
    obtain ⟨q, g, cap, hq, hg, rfl, rfl, HOW, HBW⟩ := hrel
    have HG := hide hg
    clear hg x5 x0
    by_cases hlt : q < insts.length
    · have hsl := unhide HI
      obtain ⟨_, _, hve, _, _, hex⟩ := hsl
      simp only [Value.slice.injEq] at hve
      obtain ⟨rfl, _, rfl⟩ := hve
      obtain ⟨ib, io, cs, rfl, _, hib, _, hic, ⟨rfl, _⟩⟩ := hex q hlt
      obtain ⟨hin1, hin2⟩ := unhide HIN q hlt
      obtain ⟨gi, hgi⟩ := Int.eq_ofNat_of_zero_le hin1
      have hgk : gi < i := by omega
      have z0 : wr.cell? ⟨ib, io + q, none⟩ = some (.int .i64 (gi : Int)) := by
        have h0 := hic 0 (by simp)
        rw [Nat.mul_one, Nat.add_zero] at h0
        rw [(unhide HBW).cell (p := ⟨ib, _, none⟩) (by show ib < _; omega), (unhide HA).cell (p := ⟨ib, _, none⟩) hib, h0, ← hgi]
        rfl
      have x0 : wr.cell? ⟨w.heap.size, 0, none⟩ = some (.slice (some ⟨b, o, none⟩) ks.length c0) := ((unhide HBX).below (unhide HBW) (by omega)).cell (v := .slice (some ⟨b, o, none⟩) ks.length c0) rfl
      have hwz : w.heap.size + 1 ≤ wr.heap.size := by have := (unhide HBW).size; simpa using this
      have hww : Below w.heap.size w wr := (unhide HA).trans ((unhide HBW).mono (by omega))
      have HCL := hide (unhide HIH gi hgk wr ((unhide HV).stays RClass_kept hww) (by omega))
      have HST : Hid (sTo F mems insts (q + 1) = sTo F mems insts q ++ F gi) := by
        refine hide ?_
        rw [unhide HSU q hlt, hgi]
        rfl
      have HLQ : Hid ((sTo F mems insts q).length ≤ 20000 ∧ (F gi).length ≤ 20000) := by
        refine hide ⟨?_, unhide HFL gi (by omega)⟩
        have h1 := unhide HSL q hq
        have h2 := unhide HLE
        have h3 := unhide HEQ
        rw [h3] at h2
        omega
      have hltI : (q : Int) < (insts.length : Int) := by omega
      clear hex hic hin1 hin2 hgi hww
      go_wp2_with fail
      refine (unhide HCL).mono ?_
      rintro e w2 ⟨rv, rfl, hS2, hb2⟩
      have HS2 := hide hS2
      have HO2 := hide ((unhide HOW).below hb2)
      have HB2 := hide ((unhide HBW).trans (hb2.mono hwz))
      have hz2 := hb2.size
      obtain ⟨ra, rc, rfl⟩ := hS2.shape
      clear hS2 hb2
      go_wp2_with (at_builtin; go_must (refine wpList_append_allF elInt RInt_f0 _ rfl _ _ rfl (w.heap.size + 1) g cap (sTo F mems insts q) rfl (unhide HO2) _ rfl (F gi) (unhide HS2) (by have := unhide HLQ; simp [elInt]; omega) (by omega) ?_))
      intro g' cap' w3 hown3 hgr3
      have HB3 := hide ((unhide HO2).grown (unhide HB2) hgr3 (by omega) (Nat.le_refl _))
      have HO3 : Hid (OwnV elInt w3 (w.heap.size + 1) (.slice (some ⟨g', 0, none⟩) (sTo F mems insts (q + 1)).length cap') (sTo F mems insts (q + 1))) := by
        refine hide ?_
        rw [unhide HST, List.length_append]
        exact hown3
      have HL3 : Hid ((sTo F mems insts q).length + (F gi).length = (sTo F mems insts (q + 1)).length) := by
        refine hide ?_
        rw [unhide HST, List.length_append]
      clear hown3 hgr3
      rw [unhide HL3]
      go_wp2
      go_roundg (insts.length - (q + 1))
      case measure => have := unhide HG; omega
      case rel => exact ⟨q + 1, g', cap', by omega, rfl, by go_num, rfl, HO3, HB3⟩
    · have e : q = insts.length := by omega
      have HE : Hid (sTo F mems insts q = res) := by
        refine hide ?_
        rw [unhide HEQ, e]
      have HD : Hid (SlAt 1 8 RInt 0 wr (.slice (some ⟨g, 0, none⟩) (sTo F mems insts q).length cap) res) := by
        refine hide ?_
        have h8 := unhide HOW
        rw [unhide HE] at h8
        rw [unhide HE]
        exact h8.at (R := RInt) (fun x hx => ⟨rfl, unhide HVA x hx⟩) (by have := unhide HLE; simp [elInt]; omega)
      have HF := hide ((unhide HA).trans ((unhide HBW).mono (by omega)))
      clear e
      go_wp2
      go_ret
      exact ⟨_, rfl, unhide HD, unhide HF⟩

end Go.Proofs.YtjjldnkhadakcaaGreat
namespace Go.Proofs.YtjjldnkhadakcaaGreat
open Go.RowKit
set_option linter.unusedSimpArgs false
set_option linter.unusedVariables false

def fAt (ks : List DClass) (i : Nat) : List Int := match ks[i]? with | some k => firstTo (fTo ks i) k.mems k.insts k.insts.length | none => []
theorem fTo_get (ks : List DClass) (n j : Nat) (h : j < n) : (fTo ks n).getD j [] = fAt ks j := by
  induction n with
  | zero => omega
  | succ n ih =>
    by_cases e : j = n
    · subst e
      rw [fTo, List.getD_eq_getElem?_getD, List.getElem?_append_right (by rw [fTo_len]; exact Nat.le_refl _), fTo_len, Nat.sub_self]
      rfl
    · rw [fTo, List.getD_eq_getElem?_getD, List.getElem?_append_left (by rw [fTo_len]; omega), ← List.getD_eq_getElem?_getD]
      exact ih (by omega)
theorem fAt_eq (ks : List DClass) (i : Nat) (hi : i < ks.length) : fAt ks i = firstTo (fTo ks i) ks[i].mems ks[i].insts ks[i].insts.length := by
  unfold fAt
  rw [List.getElem?_eq_getElem hi]
def V32 (x : Int) : Prop := -2147483648 ≤ x ∧ x ≤ 2147483647
structure FOK (ks : List DClass) : Prop where
  len : ∀ i, i < ks.length → (fAt ks i).length ≤ 20000
  val : ∀ i, i < ks.length → ∀ x, x ∈ fAt ks i → V32 x
  ins : ∀ i (hi : i < ks.length), (ks[i].mems.length ≤ 1000 ∧ ks[i].insts.length ≤ 1000) ∧ ∀ q (hq : q < ks[i].insts.length), 0 ≤ ks[i].insts[q] ∧ ks[i].insts[q] < (i : Int)
theorem own_at (ks : List DClass) (h : plansB ks = true) (i : Nat) (hi : i < ks.length) : ownB (fTo ks i) ks[i] = true := by
  unfold plansB at h
  rw [Bool.and_eq_true, List.all_eq_true] at h
  have h1 := h.2 i (List.mem_range.2 hi)
  unfold okAt at h1
  rw [List.getElem?_eq_getElem hi] at h1
  simp only [Bool.and_eq_true] at h1
  have h2 := h1.1
  unfold planB at h2
  simp only [Bool.and_eq_true] at h2
  exact h2.2.2.1
theorem fok_of (ks : List DClass) (h : plansB ks = true) : FOK ks := by
  have hins : ∀ i (hi : i < ks.length), (ks[i].mems.length ≤ 1000 ∧ ks[i].insts.length ≤ 1000) ∧ ∀ q (hq : q < ks[i].insts.length), 0 ≤ ks[i].insts[q] ∧ ks[i].insts[q] < (i : Int) := fun i hi => by
    obtain ⟨h1, _, h3, _⟩ := (own_iff _ _).1 (own_at ks h i hi)
    refine ⟨h1, fun q hq => ?_⟩
    have h4 := of_decide_eq_true (List.all_eq_true.1 h3 _ (List.getElem_mem hq))
    rw [fTo_len] at h4
    exact h4
  refine ⟨fun i hi => ?_, fun i => ?_, hins⟩
  · obtain ⟨_, _, _, h4⟩ := (own_iff _ _).1 (own_at ks h i hi)
    rw [fAt_eq ks i hi]
    exact h4
  · induction i using Nat.strongRecOn with
    | ind i ih =>
      intro hi x hx
      rw [fAt_eq ks i hi] at hx
      unfold firstTo at hx
      rcases List.mem_append.1 hx with hx | hx
      · have h2 := own_at ks h i hi
        unfold ownB at h2
        simp only [Bool.and_eq_true] at h2
        have h5 := of_decide_eq_true (List.all_eq_true.1 h2.2.1 _ hx)
        unfold V32
        omega
      · rw [List.take_length] at hx
        obtain ⟨g, hg, hx⟩ := List.mem_flatMap.1 hx
        obtain ⟨q, hq, rfl⟩ := List.getElem_of_mem hg
        obtain ⟨h6, h7⟩ := (hins i hi).2 q hq
        rw [fTo_get ks i _ (by omega)] at hx
        exact ih _ (by omega) (by omega) x hx
theorem firstTo_le (fs : List (List Int)) (mems insts : List Int) (q : Nat) (hq : q ≤ insts.length) : (firstTo fs mems insts q).length ≤ (firstTo fs mems insts insts.length).length := by
  obtain ⟨d, hd⟩ := Nat.exists_eq_add_of_le hq
  have : ∀ d, q + d ≤ insts.length → (firstTo fs mems insts q).length ≤ (firstTo fs mems insts (q + d)).length := by
    intro d
    induction d with
    | zero => intro _; exact Nat.le_refl _
    | succ d ih =>
      intro h2
      have h3 := ih (by omega)
      rw [show q + (d + 1) = q + d + 1 from by omega, firstTo_succ _ _ _ _ (by omega), List.length_append]
      omega
  have h5 := this d (by omega)
  rw [← hd] at h5
  exact h5

end Go.Proofs.YtjjldnkhadakcaaGreat
