import Derived.Test.YtmglbkndjnflkaaGreatDoorMI18
import Derived.Deep.RegionLaw
namespace Go.Proofs.YtmglbkndjnflkaaGreatDoor
open Go.RowKit
set_option linter.unusedSimpArgs false
set_option linter.unusedVariables false

/-- An append whose run is known, as one step of a region that draws its order. -/
theorem step_append_run {P : Program} {w w' : World} {ops : Array Oper} {o : Oper} {a : Act} {K : Act → World → Prop} {Q : Exit → Act → World → Prop} {Er : Prop} (hgd : o.guard = none) (s x : Operand) (t ty : TypeId)
    (ho : o.op = .call { callee := .builtin .append, args := #[s, x], argTypes := #[t, t] }) (hty : o.type = ty) (v xv v' : Value) (hs : a.eval s = v) (hx : a.eval x = xv) (hrun : (Builtin.append_ #[t, t] ty #[v, xv]).run P w = .ok v' w') (h : K (a.put o.dst v') w') :
    if Region.wanted o (yielded ops a.tmps) = true then Oper.wp P o a w K Q else Er := by
  have hwant : Region.wanted o (yielded ops a.tmps) = true := by simp [Region.wanted, hgd]
  rw [if_pos hwant]
  subst hty
  unfold Oper.wp execOp
  simp only [ho, resolve, invoke, builtin, Sem.run_bind, Sem.run_pure, Result.andThen_ok, List.map_toArray, List.map_cons, List.map_nil, hs, hx, hrun]
  exact h
theorem mems_ok (xs : List Int) (v : Value) (w : World) (hv : SlAt 1 8 RInt 0 w v xs) : Calls Tryz.prog 95 #[v, .func (.func 96) #[] #[]] w (Ans (.bool (xs.all valB)) w) := by
  have HQ : (List.range xs.length).all (fun j => match xs[j]? with | some c => valB c | none => false) = xs.all valB := range_all _ _ _ (fun j hj => by rw [List.getElem?_eq_getElem hj])
  refine (everyIntI (fun _ wr => Below w.heap.size w wr) (fun wr => Below w.heap.size w wr) (fun j => match xs[j]? with | some c => valB c | none => false) xs _ w ?_ ?_ ?_ (Below.refl _ _)).mono ?_
  · intro _ wr h
    exact hv.stays RInt_kept h
  · intro _ w1 w2 h1 h2
    exact h1.trans (h2.mono h1.size)
  · intro j hj cs wr h hR
    obtain ⟨rfl, _⟩ := hR
    refine (isValue_ok xs[j] wr).mono ?_
    rintro e w' ⟨rfl, rfl⟩
    rw [List.getElem?_eq_getElem hj]
    exact ⟨rfl, (fun _ => h), fun _ => h⟩
  · rintro e w' ⟨rfl, h1, h2⟩
    rw [HQ] at h1 h2 ⊢
    refine ⟨rfl, ?_⟩
    cases hh : xs.all valB
    · exact h2 hh
    · exact h1 hh

set_option maxRecDepth 20000 in
set_option maxHeartbeats 4000000 in
theorem own_ok (k : DClass) (pb mb cb co : Nat) (a1 a2 a3 a4 a5 a6 ev : Value) (pl : List Nat) (fs : List (List Int)) (rs : List Int) (f : ByteArray → Option Value) (W0 w : World) (hC : CA W0 cb co k a1 a2 a3 a4 a5 a6) (hEA : EA W0 ev pl fs rs) (hpn : pl.length ≤ 1000) (hW : Below W0.heap.size W0 w) (hpb : W0.heap.size ≤ pb) (hM : MapN w mb (varsOf k).length f) (hvl : (varsOf k).length ≤ 1000)
    (hpl : BlkAt w pb 103 (planCells cb co mb (.slice none 0 0) (.slice none 0 0) (.slice none 0 0) 0 0)) :
    Calls Tryz.prog 73 #[.pointer (some ⟨pb, 0, none⟩), ev] w (OwPost k pb mb cb co pl fs rs w (ownB fs k)) := by
  obtain ⟨eb, ec, hev⟩ := hEA.sl.shape
  subst hev
  obtain ⟨m4, n4, h4⟩ := hC.mems.shape
  obtain ⟨m5, n5, h5⟩ := hC.insts.shape
  have l4 := hC.mems.lenI
  have l5 := hC.insts.lenI
  have HEA := hide hEA
  have HM := hide hM
  have HPL := hide hpl
  have HCX : Hid (∀ w', But [pb] w w' → Below W0.heap.size W0 w' ∧ w'.cell? ⟨cb, co + 4, none⟩ = some (.slice m4 k.mems.length n4) ∧ w'.cell? ⟨cb, co + 5, none⟩ = some (.slice m5 k.insts.length n5)) := fun w' hb => by
    have hold : Below W0.heap.size W0 w' := hW.trans (hb.below _ hW.size (fun q hq => by rw [List.mem_singleton] at hq; omega))
    exact ⟨hold, (hold.cell (p := ⟨cb, _, none⟩) hC.lt).trans (by rw [hC.c4, h4]), (hold.cell (p := ⟨cb, _, none⟩) hC.lt).trans (by rw [hC.c5, h5])⟩
  have HIX : Hid (∀ i (hi : i < k.insts.length), ∃ b o, m5 = some ⟨b, o, none⟩ ∧ I64 k.insts[i] ∧ ∀ w', Below W0.heap.size W0 w' → w'.cell? ⟨b, o + i, none⟩ = some (.int .i64 k.insts[i])) := fun i hi => by
    have hs := hC.insts
    rw [h5] at hs
    obtain ⟨_, _, hv9, _, _, hx9⟩ := hs
    simp only [Value.slice.injEq] at hv9
    obtain ⟨rfl, _, rfl⟩ := hv9
    obtain ⟨b, o, cs, rfl, _, hb, _, hc, ⟨rfl, hr⟩⟩ := hx9 i hi
    refine ⟨b, o, rfl, hr, fun w' h' => ?_⟩
    rw [h'.cell (p := ⟨b, _, none⟩) hb]
    have h0 := hc 0 (by simp)
    rw [Nat.mul_one, Nat.add_zero] at h0
    exact h0
  have HMV : Hid (∀ w', Below W0.heap.size W0 w' → SlAt 1 8 RInt 0 w' (.slice m4 k.mems.length n4) k.mems) := fun w' hb => by
    rw [← h4]
    exact hC.mems.stays RInt_kept hb
  have p0 := hpl.cell (i := 0) (v := .pointer (some ⟨cb, co, none⟩)) rfl
  have lp := hpl.lt
  obtain ⟨hWw, c4, c5⟩ := unhide HCX w (But.refl _ _)
  have HB : Hid (ownB fs k = (decide (k.mems.length ≤ 1000 ∧ k.insts.length ≤ 1000) && (k.mems.all valB && (List.range k.insts.length).all (ownOne fs k.mems k.insts)))) := rfl
  have HEV := hide (mems_ok k.mems _ w (unhide HMV w hWw))
  have HNR : Hid (k.mems.all valB = true → k.mems.length ≤ 1000 → ∀ w', Below W0.heap.size W0 w' → Calls Tryz.prog 97 #[.slice m4 k.mems.length n4] w' fun e w'' => ∃ g, e = .returned (.slice (some ⟨g, 0, none⟩) k.mems.length k.mems.length) ∧ OwnV el32 w'' w'.heap.size (.slice (some ⟨g, 0, none⟩) k.mems.length k.mems.length) k.mems ∧ Below w'.heap.size w' w'') := fun h1 h2 w' hb => narrow_ok k.mems _ w' (unhide HMV w' hb) (List.all_eq_true.1 h1) (by omega)
  have HFZ := hide (firstTo_zero fs k.mems k.insts)
  have HRB : Hid (∀ x, x ∈ rs → 0 ≤ x ∧ x ≤ 1000000) := fun x hx => by
    obtain ⟨j, hj, rfl⟩ := List.getElem_of_mem hx
    exact (hEA.c6 j (by rw [← hEA.rl]; exact hj) hj).2
  have HMP : Hid (mb ≠ pb) := fun e => by
    subst e
    have h9 := hM.nocell 0
    rw [hpl.cell (i := 0) (v := .pointer (some ⟨cb, co, none⟩)) rfl] at h9
    cases h9
  clear hEA hM hpl hW hWw hC h4 h5 HMV
  generalize ownB fs k = R at *
  generalize hmv : k.mems.all valB = mv at *
  by_cases h1 : k.mems.length ≤ 1000
  case neg =>
    have e1 : decide (1000 < (k.mems.length : Int)) = true := decide_eq_true (by omega)
    have HF : Hid (R = false) := (unhide HB).trans (by rw [decide_eq_false (by omega)]; rfl)
    clear HB h1
    go_enter Tryz.func73, Tryz.ntmps73
    go_wp2
    go_ret
    rw [unhide HF]
    exact ⟨rfl, But.refl _ _, fun h => by cases h⟩
  have e1 : decide (1000 < (k.mems.length : Int)) = false := decide_eq_false (by omega)
  by_cases h2 : k.insts.length ≤ 1000
  case neg =>
    have e2 : decide (1000 < (k.insts.length : Int)) = true := decide_eq_true (by omega)
    have HF : Hid (R = false) := (unhide HB).trans (by rw [decide_eq_false (by omega)]; rfl)
    clear HB h1 h2
    go_enter Tryz.func73, Tryz.ntmps73
    go_wp2
    go_ret
    rw [unhide HF]
    exact ⟨rfl, But.refl _ _, fun h => by cases h⟩
  have e2 : decide (1000 < (k.insts.length : Int)) = false := decide_eq_false (by omega)
  cases mv
  · have HF : Hid (R = false) := (unhide HB).trans (by rw [Bool.false_and, Bool.and_false])
    clear HB
    go_enter Tryz.func73, Tryz.ntmps73
    go_wp2_with fail
    refine (unhide HEV).mono ?_
    rintro e w1 ⟨rfl, hb1⟩
    have HB1 := hide hb1
    clear hb1
    go_wp2
    go_ret
    rw [unhide HF]
    exact ⟨rfl, But.of_below (unhide HB1), fun h => by cases h⟩
  have HR2 : Hid (R = (List.range k.insts.length).all (ownOne fs k.mems k.insts)) := (unhide HB).trans (by rw [decide_eq_true ⟨h1, h2⟩, Bool.true_and, Bool.true_and])
  have HNR2 := hide (unhide HNR rfl h1)
  clear HB HNR
  go_enter Tryz.func73, Tryz.ntmps73
  go_wp2_with fail
  refine (unhide HEV).mono ?_
  rintro e w1 ⟨rfl, hb1⟩
  have HB1 := hide hb1
  obtain ⟨hW1, c4', c5'⟩ := unhide HCX w1 (But.of_below hb1)
  have HNC := hide (unhide HNR2 w1 hW1)
  clear hb1 hW1 c4 c5 HNR2 HEV
  go_wp2_with fail
  refine (unhide HNC).mono ?_
  rintro e w2 ⟨g, rfl, ho, hb2⟩
  have hb2' : Below w.heap.size w w2 := (unhide HB1).trans (hb2.mono (unhide HB1).size)
  have hk2 := (unhide HPL).below hb2' lp
  have x3 := hk2.cell (i := 3) (v := .slice none 0 0) rfl
  have z3 := hk2.free 3
  have hk3 := hk2.set 3 (.slice (some ⟨g, 0, none⟩) k.mems.length k.mems.length)
  have hgo : w1.heap.size ≤ g := (ho.lt g rfl).1
  have ho3 := ho.ofBlock (w' := w2.setCell ⟨pb, 3, none⟩ (.slice (some ⟨g, 0, none⟩) k.mems.length k.mems.length)) (fun b hb => Below.heap_setCell _ _ _ _ (by simp only [Value.ownBlock, Option.some.injEq] at hb; subst hb; show g ≠ pb; have := (unhide HB1).size; omega))
  have ho3' : OwnV el32 (w2.setCell ⟨pb, 3, none⟩ (.slice (some ⟨g, 0, none⟩) k.mems.length k.mems.length)) w.heap.size (.slice (some ⟨g, 0, none⟩) k.mems.length k.mems.length) k.mems := by
    obtain ⟨q1, q2⟩ := ho3
    refine ⟨q1, ?_⟩
    rcases q2 with q2 | ⟨gg, cap, cur, e1, e2, e3⟩
    · exact Or.inl q2
    · exact Or.inr ⟨gg, cap, cur, e1, Nat.le_trans (unhide HB1).size e2, e3⟩
  have hbt3 : But [pb] w (w2.setCell ⟨pb, 3, none⟩ (.slice (some ⟨g, 0, none⟩) k.mems.length k.mems.length)) := (But.of_below hb2').setIn (p := ⟨pb, 3, none⟩) (List.mem_singleton.2 rfl) _
  obtain ⟨_, c4, c5⟩ := unhide HCX _ hbt3
  have HK3 : Hid (BlkAt (w2.setCell ⟨pb, 3, none⟩ (.slice (some ⟨g, 0, none⟩) k.mems.length k.mems.length)) pb 103 (planCells cb co mb (.slice none 0 0) (.slice (some ⟨g, 0, none⟩) k.mems.length k.mems.length) (.slice none 0 0) 0 0)) := hk3
  have HO3 := hide ho3'
  have HBT3 := hide hbt3
  clear hb2 hb2' hk2 hk3 ho ho3 ho3' hbt3 c4' c5'
  go_wp2
  generalize w2.setCell ⟨pb, 3, none⟩ (.slice (some ⟨g, 0, none⟩) k.mems.length k.mems.length) = w3 at *
  clear x3 z3 c4 c5 p0
  go_loopg [6, 49] k.insts.length (fun gm sv iv wr => ∃ (i : Nat) (ivv : Value) (g c : Nat), i ≤ k.insts.length ∧ gm = k.insts.length - i ∧ iv = .int .i64 i ∧ sv = .int .i64 (roomTo rs k.insts i) ∧ (∀ j, j < i → ownOne fs k.mems k.insts j = true) ∧ BlkAt wr pb 103 (planCells cb co mb ivv (.slice (some ⟨g, 0, none⟩) (firstTo fs k.mems k.insts i).length c) (.slice none 0 0) 0 0) ∧ OwnV elInst wr w.heap.size ivv (insTo pl fs k.mems k.insts i) ∧ OwnV el32 wr w.heap.size (.slice (some ⟨g, 0, none⟩) (firstTo fs k.mems k.insts i).length c) (firstTo fs k.mems k.insts i) ∧ But [pb] w wr)
  case atStart =>
    refine ⟨0, .slice none 0 0, g, k.mems.length, Nat.zero_le _, by omega, rfl, rfl, fun j hj => absurd hj (Nat.not_lt_zero _), ?_, OwnV.nil _ _, ?_, unhide HBT3⟩
    · rw [unhide HFZ]; exact unhide HK3
    · rw [unhide HFZ]; exact unhide HO3
  case round =>
    clear HK3 HO3 HBT3 hgo
    obtain ⟨i, ivv, g, c, hi, hg, rfl, rfl, hone, hblk, hoi, hof, hbt⟩ := hrel
    rename World => wr
    obtain ⟨ia, ic, hivv⟩ := hoi.slice
    rw [insTo_len] at hivv
    subst hivv
    have HG := hide hg
    have HONE := hide hone
    have HK := hide hblk
    have HOI := hide hoi
    have HOF := hide hof
    have HBT := hide hbt
    obtain ⟨hold, _, _⟩ := unhide HCX wr hbt
    have HOLD := hide hold
    have hfl : (firstTo fs k.mems k.insts i).length ≤ 20000 + 1000 := by
      cases i with
      | zero => rw [firstTo_zero]; omega
      | succ i =>
        have h9 := hone i (by omega)
        unfold ownOne at h9
        rw [List.getElem?_eq_getElem (by omega)] at h9
        simp only [Bool.and_eq_true] at h9
        have := of_decide_eq_true h9.2
        omega
    have hrm := room_bd rs k.insts (unhide HRB) i
    clear hg hone hblk hoi hof hbt hold
    by_cases hlt : i < k.insts.length
    case neg =>
      have e : i = k.insts.length := by omega
      subst e
      have HF : Hid (R = true) := (unhide HR2).trans (by rw [List.all_eq_true]; exact fun j hj => unhide HONE j (List.mem_range.1 hj))
      have y1 := (unhide HK).cell (i := 1) (v := .map (some mb)) rfl
      have y6 := (unhide HK).cell (i := 6) (v := .int .i64 0) rfl
      have z6 := (unhide HK).free 6
      have hml : ∀ ty, (Builtin.len_ #[98] ty #[.map (some mb)]).run Tryz.prog wr = .ok (.int .i64 ((varsOf k).length : Int)) wr := fun ty => ((unhide HBT).map (unhide HM) (by simpa using unhide HMP)).len Tryz.underlying98 ty
      have HKE : Hid (BlkAt (wr.setCell ⟨pb, 6, none⟩ (.int .i64 (((varsOf k).length : Int) + roomTo rs k.insts k.insts.length))) pb 103 (planCells cb co mb (.slice ia k.insts.length ic) (.slice (some ⟨g, 0, none⟩) (firstTo fs k.mems k.insts k.insts.length).length c) (.slice none 0 0) 0 (((varsOf k).length : Int) + roomTo rs k.insts k.insts.length))) := (unhide HK).set 6 (.int .i64 (((varsOf k).length : Int) + roomTo rs k.insts k.insts.length))
      have HPO : Hid (∀ w', w' = wr.setCell ⟨pb, 6, none⟩ (.int .i64 (((varsOf k).length : Int) + roomTo rs k.insts k.insts.length)) → OwPost k pb mb cb co pl fs rs w true (.returned (.bool true)) w') := fun w' hw' => by
        subst hw'
        have hpi := OwnV.notBlk' (unhide HOI) (unhide HK) (by decide)
        have hpf := OwnV.notBlk' (unhide HOF) (unhide HK) (by decide)
        refine ⟨rfl, (unhide HBT).setIn (p := ⟨pb, 6, none⟩) (List.mem_singleton.2 rfl) _, fun _ => ⟨_, g, c, unhide HKE, (unhide HOI).ofBlock (fun b hb => Below.heap_setCell _ _ _ _ (fun e => ?_)), (unhide HOF).ofBlock (fun b hb => Below.heap_setCell _ _ _ _ (fun e => ?_))⟩⟩
        · have e' : b = pb := e
          subst e'
          exact hpi hb
        · have e' : b = pb := e
          subst e'
          exact hpf hb
      generalize roomTo rs k.insts k.insts.length = rm at *
      go_wp2
      go_ret
      rw [unhide HF]
      exact unhide HPO _ rfl
    obtain ⟨xb, xo, rfl, hx64, hxc⟩ := unhide HIX i hlt
    have x0 := hxc wr (unhide HOLD)
    have HOE : Hid (ownOne fs k.mems k.insts i = (decide (0 ≤ k.insts[i] ∧ k.insts[i] < (fs.length : Int)) && decide ((firstTo fs k.mems k.insts (i + 1)).length ≤ 20000))) := by
      refine hide ?_
      unfold ownOne
      rw [List.getElem?_eq_getElem hlt]
    have HNO : Hid (ownOne fs k.mems k.insts i = false → R = false) := fun h => (unhide HR2).trans (by rw [List.all_eq_false]; exact ⟨i, List.mem_range.2 hlt, by rw [h]; decide⟩)
    have HYE : Hid (ownOne fs k.mems k.insts i = true → ∀ j, j < i + 1 → ownOne fs k.mems k.insts j = true) := fun h j hj => by
      by_cases e : j = i
      · subst e; exact h
      · exact unhide HONE j (by omega)
    have HFS := hide (firstTo_succ fs k.mems k.insts i hlt)
    have HIS : Hid (insTo pl fs k.mems k.insts (i + 1) = insTo pl fs k.mems k.insts i ++ [(pl.getD k.insts[i].toNat 0, (firstTo fs k.mems k.insts i).length)]) := by
      refine hide ?_
      rw [insTo_succ, List.getD_eq_getElem?_getD (l := k.insts), List.getElem?_eq_getElem hlt, Option.getD_some]
    have HRS : Hid (roomTo rs k.insts (i + 1) = maxS (roomTo rs k.insts i) (rs.getD k.insts[i].toNat 0)) := by
      refine hide ?_
      show maxS _ _ = _
      rw [List.getD_eq_getElem?_getD (l := k.insts), List.getElem?_eq_getElem hlt, Option.getD_some]
    have hiI : (i : Int) < (k.insts.length : Int) := by omega
    clear hxc
    generalize k.insts[i] = kk at *
    have hfle := (unhide HEA).fl
    by_cases hk0 : kk < 0
    · have f1 : decide (kk < 0) = true := decide_eq_true hk0
      have HF : Hid (R = false) := unhide HNO ((unhide HOE).trans (by rw [decide_eq_false (by omega)]; rfl))
      clear HNO HYE HOE hk0
      go_wp2
      go_ret
      rw [unhide HF]
      exact ⟨rfl, unhide HBT, fun h => by cases h⟩
    have f1 : decide (kk < 0) = false := decide_eq_false hk0
    by_cases hk1 : (pl.length : Int) ≤ kk
    · have f2 : decide ((pl.length : Int) ≤ kk) = true := decide_eq_true hk1
      have HF : Hid (R = false) := unhide HNO ((unhide HOE).trans (by rw [decide_eq_false (by omega)]; rfl))
      clear HNO HYE HOE hk0 hk1
      go_wp2
      go_ret
      rw [unhide HF]
      exact ⟨rfl, unhide HBT, fun h => by cases h⟩
    obtain ⟨q, rfl⟩ := Int.eq_ofNat_of_zero_le (show 0 ≤ kk by omega)
    have hq : q < pl.length := by omega
    have f2 : decide ((pl.length : Int) ≤ (q : Int)) = false := decide_eq_false hk1
    have f2n : decide (pl.length ≤ q) = false := decide_eq_false (by omega)
    obtain ⟨fa, fc, t3, tS, tl⟩ := (unhide HEA).c3 q hq (by omega)
    obtain ⟨t6, tr0, tr1⟩ := (unhide HEA).c6 q hq (by rw [(unhide HEA).rl]; exact hq)
    have HSLp := (unhide HEA).sl
    obtain ⟨ea, ecap, hev9, _, _, hx9⟩ := HSLp
    simp only [Value.slice.injEq] at hev9
    obtain ⟨rfl, _, rfl⟩ := hev9
    obtain ⟨peb, peo, pcs, rfl, _, hpeb, _, hpc, rfl⟩ := hx9 q hq
    have t0 := hpc 0 (by simp)
    simp only [Nat.mul_one, Nat.add_zero, List.getElem_cons_zero] at t0
    have HOE2 : Hid (ownOne fs k.mems k.insts i = decide ((firstTo fs k.mems k.insts (i + 1)).length ≤ 20000)) := (unhide HOE).trans (by rw [decide_eq_true (by omega), Bool.true_and])
    have hgf : fs.getD q [] = fs[q]'(by omega) := by rw [List.getD_eq_getElem?_getD, List.getElem?_eq_getElem (by omega), Option.getD_some]
    have hgr : rs.getD q 0 = rs[q]'(by rw [(unhide HEA).rl]; exact hq) := by rw [List.getD_eq_getElem?_getD, List.getElem?_eq_getElem (by rw [(unhide HEA).rl]; exact hq), Option.getD_some]
    have hgp : pl.getD q 0 = pl[q] := by rw [List.getD_eq_getElem?_getD, List.getElem?_eq_getElem hq, Option.getD_some]
    rw [Int.toNat_natCast] at HFS HIS HRS
    rw [hgf] at HFS
    rw [hgp] at HIS
    rw [hgr] at HRS
    generalize hpq : pl[q] = pq at *
    generalize fs[q]'(by omega) = fq at *
    generalize rs[q]'(by rw [(unhide HEA).rl]; exact hq) = rq at *
    have HT : Hid (∀ w', Below W0.heap.size W0 w' → w'.cell? ⟨peb, peo + q, none⟩ = some (.pointer (some ⟨pq, 0, none⟩)) ∧ w'.cell? ⟨pq, 3, none⟩ = some (.slice fa fq.length fc) ∧ w'.cell? ⟨pq, 6, none⟩ = some (.int .i64 rq) ∧ SlAt 1 4 RI32 0 w' (.slice fa fq.length fc) fq) := fun w' hb => ⟨(hb.cell (p := ⟨peb, _, none⟩) hpeb).trans t0, (hb.cell (p := ⟨pq, 3, none⟩) (World.block_lt_of_cell? W0 _ t3)).trans t3, (hb.cell (p := ⟨pq, 6, none⟩) (World.block_lt_of_cell? W0 _ t6)).trans t6, tS.stays RI32_kept hb⟩
    obtain ⟨v0, v3, v6, _⟩ := unhide HT wr (unhide HOLD)
    clear t0 t3 t6 tS hx9 hpc hgf hgr hgp hk0 hk1 HOE hpq hpeb
    -- the row of instances
    have hA : Below wr.heap.size wr (wr.alloc (.cells #[.pointer (some ⟨pq, 0, none⟩), .int .i64 ((firstTo fs k.mems k.insts i).length : Int)] 147)).drew := ((Below.refl _ _).alloc (Nat.le_refl _) _).drew
    obtain ⟨v', w2, hrun, ho2, hg2, hn2⟩ := run_append_one elInst (wr.alloc (.cells #[.pointer (some ⟨pq, 0, none⟩), .int .i64 ((firstTo fs k.mems k.insts i).length : Int)] 147)).drew 99 w.heap.size _ _ ((unhide HOI).below hA) wr.heap.size (pq, (firstTo fs k.mems k.insts i).length) (fun j u hu => by
      have h9 := (blk_box wr #[.pointer (some ⟨pq, 0, none⟩), .int .i64 ((firstTo fs k.mems k.insts i).length : Int)] 147).cell (i := j) (v := u) (by simpa [elInst] using hu)
      exact h9) (by rw [insTo_len]; simp [elInst]; omega) (Nat.le_trans (unhide HBT).size hA.size)
    have hrun' : (Builtin.append_ #[99, 99] 99 #[.slice ia i ic, .slice (some ⟨wr.heap.size, 0, none⟩) 1 1]).run Tryz.prog (wr.alloc (.cells #[.pointer (some ⟨pq, 0, none⟩), .int .i64 ((firstTo fs k.mems k.insts i).length : Int)] 147)).drew = .ok v' w2 := hrun
    have hlp : pb < wr.heap.size := (unhide HK).lt
    have y2 := (unhide HK).cell (i := 2) (v := .slice ia i ic) rfl
    have y3 := (unhide HK).cell (i := 3) (v := .slice (some ⟨g, 0, none⟩) (firstTo fs k.mems k.insts i).length c) rfl
    have y2a := (hA.cell (p := ⟨pb, 2, none⟩) hlp).trans y2
    have y3a := (hA.cell (p := ⟨pb, 3, none⟩) hlp).trans y3
    have hpi := OwnV.notBlk' (unhide HOI) (unhide HK) (by decide)
    have hpf := OwnV.notBlk' (unhide HOF) (unhide HK) (by decide)
    have hblk2 : ∀ b, b < wr.heap.size → (Value.slice ia i ic).ownBlock ≠ some b → w2.heap[b]? = wr.heap[b]? := fun b hb hne => (hg2.block b (Nat.lt_of_lt_of_le hb hA.size) (fun e => hne e.symm)).trans (hA.block b hb)
    have hK2 : BlkAt w2 pb 103 (planCells cb co mb (.slice ia i ic) (.slice (some ⟨g, 0, none⟩) (firstTo fs k.mems k.insts i).length c) (.slice none 0 0) 0 0) := (hblk2 pb hlp hpi).trans (unhide HK)
    have y2b := hK2.cell (i := 2) (v := .slice ia i ic) rfl
    have z2b := hK2.free 2
    have y3b := hK2.cell (i := 3) (v := .slice (some ⟨g, 0, none⟩) (firstTo fs k.mems k.insts i).length c) rfl
    have hsz2 : wr.heap.size ≤ w2.heap.size := Nat.le_trans hA.size hg2.size
    have hbtw2 : But [pb] w w2 := ⟨hg2.os.trans (hA.os.trans (unhide HBT).os), hg2.tape.trans (hA.tape.trans (unhide HBT).tape), hg2.output.trans (hA.output.trans (unhide HBT).output), Nat.le_trans (unhide HBT).size hsz2, fun b hb hn => (hblk2 b (Nat.lt_of_lt_of_le hb (unhide HBT).size) (fun e => by have := ((unhide HOI).lt b e).1; omega)).trans ((unhide HBT).block b hb hn)⟩
    obtain ⟨va, vc, hv'⟩ := ho2.slice
    rw [List.length_append, insTo_len, List.length_singleton] at hv'
    subst hv'
    have hKA := hK2.set 2 (.slice va (i + 1) vc)
    have HKA : Hid (BlkAt (w2.setCell ⟨pb, 2, none⟩ (.slice va (i + 1) vc)) pb 103 (planCells cb co mb (.slice va (i + 1) vc) (.slice (some ⟨g, 0, none⟩) (firstTo fs k.mems k.insts i).length c) (.slice none 0 0) 0 0)) := hKA
    have HBTA : Hid (But [pb] w (w2.setCell ⟨pb, 2, none⟩ (.slice va (i + 1) vc))) := hbtw2.setIn (p := ⟨pb, 2, none⟩) (List.mem_singleton.2 rfl) _
    have hpv := OwnV.notBlk' ho2 hK2 (by decide)
    have HOIA : Hid (OwnV elInst (w2.setCell ⟨pb, 2, none⟩ (.slice va (i + 1) vc)) w.heap.size (.slice va (i + 1) vc) (insTo pl fs k.mems k.insts (i + 1))) := by
      refine hide ?_
      rw [unhide HIS]
      exact ho2.ofBlock (fun b hb => Below.heap_setCell _ _ _ _ (fun e => by have e' : b = pb := e; subst e'; exact hpv hb))
    have HOFA : Hid (OwnV el32 (w2.setCell ⟨pb, 2, none⟩ (.slice va (i + 1) vc)) w.heap.size (.slice (some ⟨g, 0, none⟩) (firstTo fs k.mems k.insts i).length c) (firstTo fs k.mems k.insts i)) := by
      refine hide ((unhide HOF).ofBlock (fun b hb => ?_))
      rw [Below.heap_setCell _ _ _ _ (fun e => by have e' : b = pb := e; subst e'; exact hpf hb)]
      exact hblk2 b ((unhide HOF).lt b hb).2 (fun e => (ownRows_ne (unhide HOI) (unhide HOF) (by decide) b e) hb)
    clear hA hrun ho2 hg2 hn2 hpi hpf hblk2 hK2 hsz2 hbtw2 hKA hpv
    have HRUN := hide hrun'
    clear hrun'
    go_wp2_with fail
    go_region_law (refine step_append_run rfl _ _ 99 99 rfl rfl _ _ _ rfl rfl (unhide HRUN) ?_)
    all_goals
      generalize w2.setCell ⟨pb, 2, none⟩ (.slice va (i + 1) vc) = wA at *
      clear y2 y3 y2a y3a y2b z2b y3b x0 v0 v3 v6
      obtain ⟨holdA, _, _⟩ := unhide HCX wA (unhide HBTA)
      obtain ⟨v0, v3, v6, vS⟩ := unhide HT wA holdA
      have hlenS : (firstTo fs k.mems k.insts (i + 1)).length = (firstTo fs k.mems k.insts i).length + fq.length := by rw [unhide HFS, List.length_append]
      obtain ⟨g', c', w3', hrun3, ho3, hg3⟩ := run_append_all el32 (R := RI32) (fun _ _ _ h => h) wA.drew 100 w.heap.size g c (firstTo fs k.mems k.insts i) ((unhide HOFA).ofBlock (fun _ _ => rfl)) (.slice fa fq.length fc) fq (vS.stays RI32_kept (Below.drew (Below.refl _ wA))) (by simp [el32]; omega) (unhide HBTA).size
      have HRUN3 : Hid ((Builtin.append_ #[100, 100] 100 #[.slice (some ⟨g, 0, none⟩) (firstTo fs k.mems k.insts i).length c, .slice fa fq.length fc]).run Tryz.prog wA.drew = .ok (.slice (some ⟨g', 0, none⟩) ((firstTo fs k.mems k.insts i).length + fq.length) c') w3') := hrun3
      have hpf := OwnV.notBlk' (unhide HOFA) (unhide HKA) (by decide)
      have hblk3 : ∀ b, b < wA.heap.size → (Value.slice (some ⟨g, 0, none⟩) (firstTo fs k.mems k.insts i).length c).ownBlock ≠ some b → w3'.heap[b]? = wA.heap[b]? := fun b hb hne => hg3.block b hb (fun e => hne e.symm)
      have hlpA : pb < wA.heap.size := (unhide HKA).lt
      have hK3 : BlkAt w3' pb 103 (planCells cb co mb (.slice va (i + 1) vc) (.slice (some ⟨g, 0, none⟩) (firstTo fs k.mems k.insts i).length c) (.slice none 0 0) 0 0) := (hblk3 pb hlpA hpf).trans (unhide HKA)
      have y3 := (unhide HKA).cell (i := 3) (v := .slice (some ⟨g, 0, none⟩) (firstTo fs k.mems k.insts i).length c) rfl
      have y3b := hK3.cell (i := 3) (v := .slice (some ⟨g, 0, none⟩) (firstTo fs k.mems k.insts i).length c) rfl
      have z3b := hK3.free 3
      have hpv := OwnV.notBlk' ho3 hK3 (by decide)
      have HKB : Hid (BlkAt (w3'.setCell ⟨pb, 3, none⟩ (.slice (some ⟨g', 0, none⟩) ((firstTo fs k.mems k.insts i).length + fq.length) c')) pb 103 (planCells cb co mb (.slice va (i + 1) vc) (.slice (some ⟨g', 0, none⟩) (firstTo fs k.mems k.insts (i + 1)).length c') (.slice none 0 0) 0 0)) := by
        refine hide ?_
        rw [hlenS]
        exact hK3.set 3 (.slice (some ⟨g', 0, none⟩) ((firstTo fs k.mems k.insts i).length + fq.length) c')
      have HOFB : Hid (OwnV el32 (w3'.setCell ⟨pb, 3, none⟩ (.slice (some ⟨g', 0, none⟩) ((firstTo fs k.mems k.insts i).length + fq.length) c')) w.heap.size (.slice (some ⟨g', 0, none⟩) (firstTo fs k.mems k.insts (i + 1)).length c') (firstTo fs k.mems k.insts (i + 1))) := by
        refine hide ?_
        rw [hlenS, unhide HFS]
        exact ho3.ofBlock (fun b hb => Below.heap_setCell _ _ _ _ (fun e => by have e' : b = pb := e; subst e'; exact hpv hb))
      have hpi := OwnV.notBlk' (unhide HOIA) (unhide HKA) (by decide)
      have HOIB : Hid (OwnV elInst (w3'.setCell ⟨pb, 3, none⟩ (.slice (some ⟨g', 0, none⟩) ((firstTo fs k.mems k.insts i).length + fq.length) c')) w.heap.size (.slice va (i + 1) vc) (insTo pl fs k.mems k.insts (i + 1))) := by
        refine hide ((unhide HOIA).ofBlock (fun b hb => ?_))
        rw [Below.heap_setCell _ _ _ _ (fun e => by have e' : b = pb := e; subst e'; exact hpi hb)]
        exact hblk3 b ((unhide HOIA).lt b hb).2 (fun e => (ownRows_ne (unhide HOFA) (unhide HOIA) (by decide) b e) hb)
      have HBTB : Hid (But [pb] w (w3'.setCell ⟨pb, 3, none⟩ (.slice (some ⟨g', 0, none⟩) ((firstTo fs k.mems k.insts i).length + fq.length) c'))) := by
        have h9 : But [pb] w w3' := ⟨hg3.os.trans (unhide HBTA).os, hg3.tape.trans (unhide HBTA).tape, hg3.output.trans (unhide HBTA).output, Nat.le_trans (unhide HBTA).size hg3.size, fun b hb hn => (hblk3 b (Nat.lt_of_lt_of_le hb (unhide HBTA).size) (fun e => by have := ((unhide HOFA).lt b e).1; omega)).trans ((unhide HBTA).block b hb hn)⟩
        exact h9.setIn (p := ⟨pb, 3, none⟩) (List.mem_singleton.2 rfl) _
      clear hrun3 hpf hblk3 hK3 hpv hpi ho3 hg3 vS holdA v0
      go_wp2_with fail
      go_region_law (refine step_append_run rfl _ _ 100 100 rfl rfl _ _ _ rfl rfl (unhide HRUN3) ?_)
      all_goals
        generalize w3'.setCell ⟨pb, 3, none⟩ (.slice (some ⟨g', 0, none⟩) ((firstTo fs k.mems k.insts i).length + fq.length) c') = wB at *
        have HLS := hide hlenS
        clear hlenS
        have y3 := (unhide HKB).cell (i := 3) (v := .slice (some ⟨g', 0, none⟩) (firstTo fs k.mems k.insts (i + 1)).length c') rfl
        obtain ⟨holdB, _, _⟩ := unhide HCX wB (unhide HBTB)
        obtain ⟨_, _, v6, _⟩ := unhide HT wB holdB
        by_cases hbig : (firstTo fs k.mems k.insts (i + 1)).length ≤ 20000
        · have e9 : decide (20000 < ((firstTo fs k.mems k.insts (i + 1)).length : Int)) = false := decide_eq_false (by omega)
          have HY2 := hide (unhide HYE ((unhide HOE2).trans (decide_eq_true hbig)))
          have HMX : Hid (roomTo rs k.insts (i + 1) = if roomTo rs k.insts i < rq then rq else roomTo rs k.insts i) := unhide HRS
          clear HNO HYE HOE2 y3b z3b
          by_cases hmx : roomTo rs k.insts i < rq
          · have HRX : Hid (roomTo rs k.insts (i + 1) = rq) := (unhide HMX).trans (if_pos hmx)
            go_wp2
            go_roundg (k.insts.length - (i + 1))
            case measure => have := unhide HG; omega
            case rel => exact ⟨i + 1, .slice va (i + 1) vc, g', c', by omega, rfl, by go_num, by rw [unhide HRX], unhide HY2, unhide HKB, unhide HOIB, unhide HOFB, unhide HBTB⟩
          · have HRX : Hid (roomTo rs k.insts (i + 1) = roomTo rs k.insts i) := (unhide HMX).trans (if_neg hmx)
            go_wp2
            go_roundg (k.insts.length - (i + 1))
            case measure => have := unhide HG; omega
            case rel => exact ⟨i + 1, .slice va (i + 1) vc, g', c', by omega, rfl, by go_num, by rw [unhide HRX], unhide HY2, unhide HKB, unhide HOIB, unhide HOFB, unhide HBTB⟩
        · have e9 : decide (20000 < ((firstTo fs k.mems k.insts (i + 1)).length : Int)) = true := decide_eq_true (by omega)
          have HF : Hid (R = false) := unhide HNO ((unhide HOE2).trans (decide_eq_false hbig))
          clear HNO HYE HOE2 y3b z3b
          go_wp2
          go_ret
          rw [unhide HF]
          exact ⟨rfl, unhide HBTB, fun h => by cases h⟩

end Go.Proofs.YtmglbkndjnflkaaGreatDoor
