import Derived.Test.YtmglbkndjnflkaaGreatDoorMI22
namespace Go.Proofs.YtmglbkndjnflkaaGreatDoor
open Go.RowKit
set_option linter.unusedSimpArgs false
set_option linter.unusedVariables false

set_option maxRecDepth 20000 in
set_option maxHeartbeats 4000000 in
theorem plansOf_ok (ks : List DClass) (v : Value) (b0 o0 : Nat) (w : World) (hm : SlAt 7 160 RClass 0 w v ks) (hb0 : ks ≠ [] → ∃ n c, v = .slice (some ⟨b0, o0, none⟩) n c) :
    Calls Tryz.prog 26 #[.agg #[v]] w (PsPost ks b0 o0 w (plansB ks)) := by
  obtain ⟨ma, mc, rfl⟩ := hm.shape
  have hml := hm.lenI
  have HM := hide hm
  have HB0 := hide hb0
  have hA : Below w.heap.size w (w.alloc (.cells #[.slice ma ks.length mc] 29)) := (Below.refl _ _).alloc (Nat.le_refl _) _
  have HR : Hid (plansB ks = (decide (ks.length ≤ 200) && (List.range ks.length).all (okAt ks))) := rfl
  have hBK := blk_box w #[.slice ma ks.length mc] 29
  have HA := hide hA
  have HBK := hide hBK
  clear hm hb0
  generalize plansB ks = R at *
  by_cases h2 : ks.length ≤ 200
  case neg =>
    have e1 : decide (200 < (ks.length : Int)) = true := decide_eq_true (by omega)
    have HF : Hid (R = false) := (unhide HR).trans (by rw [decide_eq_false h2, Bool.false_and])
    clear HR h2
    go_enter Tryz.func26, Tryz.ntmps26
    go_wp2
    go_ret
    rw [unhide HF]
    exact ⟨(fun _ => rfl), (fun h => by cases h), unhide HA⟩
  have e1 : decide (200 < (ks.length : Int)) = false := decide_eq_false (by omega)
  have HR2 : Hid (R = (List.range ks.length).all (okAt ks)) := (unhide HR).trans (by rw [decide_eq_true h2, Bool.true_and])
  have hmm := @run_makeMap Tryz.prog
  have hA2 : Below (w.heap.size + 1) (w.alloc (.cells #[.slice ma ks.length mc] 29)) ((w.alloc (.cells #[.slice ma ks.length mc] 29)).alloc (.map #[] 0)) := (Below.refl _ _).alloc (by simp) _
  have HBK2 : Hid (BlkAt ((w.alloc (.cells #[.slice ma ks.length mc] 29)).alloc (.map #[] 0)) w.heap.size 29 #[.slice ma ks.length mc]) := hBK.below hA2 (by omega)
  have k0 := (unhide HBK2).cell (i := 0) (v := .slice ma ks.length mc) rfl
  have hz1 : (w.alloc (.cells #[.slice ma ks.length mc] 29)).heap.size = w.heap.size + 1 := by simp
  have HMP : Hid (MapN ((w.alloc (.cells #[.slice ma ks.length mc] 29)).alloc (.map #[] 0)) (w.heap.size + 1) 0 (fun _ => none)) := by
    have h9 : MapN ((w.alloc (.cells #[.slice ma ks.length mc] 29)).alloc (.map #[] 0)) (w.alloc (.cells #[.slice ma ks.length mc] 29)).heap.size 0 (fun _ => none) := MapP.made _
    rw [hz1] at h9
    exact h9
  have HW1 : Hid (Below w.heap.size w ((w.alloc (.cells #[.slice ma ks.length mc] 29)).alloc (.map #[] 0))) := hA.trans (hA2.mono (by omega))
  have HZ2 : Hid (w.heap.size + 2 ≤ ((w.alloc (.cells #[.slice ma ks.length mc] 29)).alloc (.map #[] 0)).heap.size) := by refine hide ?_; simp
  clear hA hBK hA2 hz1 HR HBK
  go_enter Tryz.func26, Tryz.ntmps26
  go_wp2
  generalize (w.alloc (.cells #[.slice ma ks.length mc] 29)).alloc (.map #[] 0) = w1 at *
  clear hmm k0
  go_loopg [3, 15] ks.length (fun gm pv iv wr => ∃ (i : Nat) (pl : List Nat) (f : ByteArray → Option Value), i ≤ ks.length ∧ gm = ks.length - i ∧ iv = .int .i64 i ∧ pl.length = i ∧ (∀ j, j < i → okAt ks j = true) ∧ BlkAt wr w.heap.size 29 #[.slice ma ks.length mc] ∧ OwnV elPtr wr (w.heap.size + 2) pv pl ∧ MapN wr (w.heap.size + 1) i f ∧ (∀ s, f s = none ↔ ∀ j (hj : j < ks.length), j < i → ks[j].name ≠ s) ∧ (∀ s u, f s = some u → ∃ b, u = .pointer (some ⟨b, 0, none⟩)) ∧ EP (fun b => New (w.heap.size + 2) wr.heap.size b ∧ pv.ownBlock ≠ some b) wr ks b0 o0 pl (fTo ks i) (rTo ks i) (kTo ks i) ∧ (∀ x, x ∈ rTo ks i → x ≤ 1000 * i) ∧ Below w.heap.size w wr ∧ w.heap.size + 2 ≤ wr.heap.size)
  case atStart =>
    refine ⟨0, [], fun _ => none, Nat.zero_le _, by omega, rfl, rfl, fun j hj => absurd hj (Nat.not_lt_zero _), unhide HBK2, OwnV.nil _ _, unhide HMP, ?_, ?_, ?_, ?_, unhide HW1, unhide HZ2⟩
    · intro s
      exact ⟨fun _ j hj h => absurd h (Nat.not_lt_zero _), fun _ => rfl⟩
    · intro s u h
      cases h
    · exact ⟨rfl, rfl, rfl, Nat.zero_le _, fun j h => absurd h (Nat.not_lt_zero _), (fun x hx => by cases hx), (fun x hx => by cases hx), (fun x hx => by cases hx), fun j h h' => absurd h' (Nat.not_lt_zero _)⟩
    · intro x hx
      cases hx
  case round =>
    clear HBK2 HMP HW1 HZ2
    obtain ⟨i, pl, f, hi, hg, rfl, hpl, hok, hbk, hown, hmap, hfn, hfs, hep, hrb, hbw, hzr⟩ := hrel
    rename World => wr
    obtain ⟨pa, pc, hpv⟩ := hown.slice
    subst hpv
    have HG := hide hg
    have HOK := hide hok
    have HBKr := hide hbk
    have HOW := hide hown
    have HMAP := hide hmap
    have HFN := hide hfn
    have HFS := hide hfs
    have HEP := hide hep
    have HRB := hide hrb
    have HBW := hide hbw
    have HPLN := hide hpl
    have HZR := hide hzr
    have k0 := hbk.cell (i := 0) (v := .slice ma ks.length mc) rfl
    clear hg hok hbk hown hmap hfn hfs hep hrb hbw hpl hzr
    by_cases hlt : i < ks.length
    case neg =>
      have e : i = ks.length := by omega
      subst e
      have HF : Hid (R = true) := (unhide HR2).trans (by rw [List.all_eq_true]; exact fun j hj => unhide HOK j (List.mem_range.1 hj))
      have HPO : Hid (PsPost ks b0 o0 w true (.returned (.slice pa pl.length pc)) wr) := ⟨(fun h => by cases h), (fun _ => ⟨_, pl, rfl, unhide HPLN, (unhide HOW).at (E := elPtr) (R := RPtr) (fun x _ => rfl) (by have := unhide HPLN; simp [elPtr]; omega), (unhide HEP).mono (fun _ _ => trivial)⟩), unhide HBW⟩
      go_wp2
      go_ret
      rw [unhide HF]
      exact unhide HPO
    obtain ⟨mn, mcc, hmv⟩ := unhide HB0 (fun e => by subst e; simp at hlt)
    simp only [Value.slice.injEq] at hmv
    have hma := hmv.1
    clear hmv
    subst hma
    have hiI : (i : Int) < (ks.length : Int) := by omega
    have hmr := (unhide HM).stays RClass_kept (unhide HBW)
    have HPC := hide (planOf_ok _ ks i hlt b0 o0 ks.length mc (.slice pa pl.length pc) pl (fTo ks i) (rTo ks i) (kTo ks i) wr hmr ((unhide HOW).at (E := elPtr) (R := RPtr) (fun x _ => rfl) (by have := unhide HPLN; simp [elPtr]; omega)) (unhide HEP) (by have := unhide HPLN; omega))
    obtain ⟨a1, a2, a3, a4, a5, a6, hCA⟩ := classCA_at (unhide HM) i hlt
    have HCA := hide hCA
    have HOE : Hid (okAt ks i = (planB ks ks[i] (fTo ks i) (kTo ks i) && newName ks i)) := by
      refine hide ?_
      unfold okAt
      rw [List.getElem?_eq_getElem hlt]
    have HNO : Hid (okAt ks i = false → R = false) := fun h => (unhide HR2).trans (by rw [List.all_eq_false]; exact ⟨i, List.mem_range.2 hlt, by rw [h]; decide⟩)
    have HYE : Hid (okAt ks i = true → ∀ j, j < i + 1 → okAt ks j = true) := fun h j hj => by
      by_cases e : j = i
      · subst e; exact h
      · exact unhide HOK j (by omega)
    have HNN := hide (newName_iff ks i hlt)
    have HEN : Hid (∀ w5 P pb, planB ks ks[i] (fTo ks i) (kTo ks i) = true → EP P w5 ks b0 o0 pl (fTo ks i) (rTo ks i) (kTo ks i) → PA P w5 b0 o0 i pb (firstTo (fTo ks i) ks[i].mems ks[i].insts ks[i].insts.length) (costK ks ks[i] (kTo ks i)) (((varsOf ks[i]).length : Int) + roomTo (rTo ks i) ks[i].insts ks[i].insts.length) → EP P w5 ks b0 o0 (pl ++ [pb]) (fTo ks (i + 1)) (rTo ks (i + 1)) (kTo ks (i + 1)) ∧ ∀ x, x ∈ rTo ks (i + 1) → x ≤ 1000 * (i + 1)) := fun w5 P pb h1 h3 h4 => h3.next hlt (unhide HPLN) h2 (unhide HRB) h1 h4
    clear hmr hCA
    generalize hpb : planB ks ks[i] (fTo ks i) (kTo ks i) = bp at *
    cases bp
    · have HF : Hid (R = false) := unhide HNO ((unhide HOE).trans (Bool.false_and _))
      clear HNO HYE HOE HEN hpb
      go_wp2_with fail
      refine (unhide HPC).mono ?_
      rintro e w2 ⟨hq, _, hb2⟩
      have hq' := hq rfl
      subst hq'
      have HB2 := hide ((unhide HBW).trans (hb2.mono (unhide HBW).size))
      clear hb2 hq
      go_wp2
      go_ret
      rw [unhide HF]
      exact ⟨(fun _ => rfl), (fun h => by cases h), unhide HB2⟩
    go_wp2_with fail
    refine (unhide HPC).mono ?_
    rintro e w2 ⟨_, hq, hb2⟩
    obtain ⟨pb, rfl, hPA⟩ := hq rfl
    have HPA := hide hPA
    have hB2 : Below w.heap.size w w2 := (unhide HBW).trans (hb2.mono (unhide HBW).size)
    have HB2 := hide hB2
    have HB2r := hide hb2
    obtain ⟨pmb, piv, pfa, pfc, pbv, hpk, _⟩ := hPA
    have q0 := hpk.cell (i := 0) (v := .pointer (some ⟨b0, o0 + i * 7, none⟩)) rfl
    have c0 := ((unhide HCA).stays hB2).c0
    have hnl : ks[i].name.size ≤ maxLen := by have := (unhide HCA).name; unfold Len at this; unfold maxLen; omega
    have hmp2 := (unhide HMAP).below hb2 (unhide HMAP).lt
    have hlk := hmp2.look Tryz.underlying9 Tryz.underlying94 (zeroPlan w2) hnl
    have HMP2 := hide hmp2
    clear hb2 hB2 hq hmp2 hpk
    cases hfx : f ks[i].name with
    | some u =>
      obtain ⟨ub, rfl⟩ := unhide HFS _ _ hfx
      have hnn : newName ks i = false := by
        cases hh : newName ks i
        · rfl
        · have h9 := ((unhide HFN) ks[i].name).2 ((unhide HNN).1 hh)
          rw [hfx] at h9
          cases h9
      have HF : Hid (R = false) := unhide HNO ((unhide HOE).trans (by rw [hnn, Bool.and_false]))
      rw [hfx, Option.getD_some] at hlk
      clear HNO HYE HOE HEN hpb hnn hfx
      generalize ks[i].name = nm at *
      go_wp2
      go_ret
      rw [unhide HF]
      exact ⟨(fun _ => rfl), (fun h => by cases h), unhide HB2⟩
    | none =>
      have hnn : newName ks i = true := (unhide HNN).2 (((unhide HFN) ks[i].name).1 hfx)
      have HY2 := hide (unhide HYE ((unhide HOE).trans (by rw [hnn]; rfl)))
      rw [hfx, Option.getD_none] at hlk
      obtain ⟨w3, hst, hM3, hg3⟩ := (unhide HMP2).store Tryz.underlying9 Tryz.underlying94 (by unfold maxLen; omega) hnl hfx (.pointer (some ⟨pb, 0, none⟩))
      have HM3 := hide (hM3 (putF f ks[i].name (.pointer (some ⟨pb, 0, none⟩))) (putF_at _ _ _) (fun x hx => putF_off _ _ _ x hx))
      have hblk3 : ∀ b, b < w2.heap.size → b ≠ w.heap.size + 1 → w3.heap[b]? = w2.heap[b]? := fun b hb hne => hg3.block b hb (by simpa using hne)
      have HFN2 : Hid (∀ s, putF f ks[i].name (.pointer (some ⟨pb, 0, none⟩)) s = none ↔ ∀ j (hj : j < ks.length), j < i + 1 → ks[j].name ≠ s) := fun s => by
        by_cases e : s = ks[i].name
        · subst e
          rw [putF_at]
          exact ⟨(fun h => by cases h), fun h => absurd rfl (h i hlt (by omega))⟩
        · rw [putF_off _ _ _ s e, unhide HFN s]
          constructor
          · intro h j hj hji
            by_cases e2 : j = i
            · subst e2; exact fun h9 => e h9.symm
            · exact h j hj (by omega)
          · intro h j hj hji
            exact h j hj (by omega)
      have HFS2 : Hid (∀ s u, putF f ks[i].name (.pointer (some ⟨pb, 0, none⟩)) s = some u → ∃ b, u = .pointer (some ⟨b, 0, none⟩)) := fun s u h => by
        by_cases e : s = ks[i].name
        · subst e
          rw [putF_at, Option.some.injEq] at h
          exact ⟨pb, h.symm⟩
        · rw [putF_off _ _ _ s e] at h
          exact unhide HFS s u h
      generalize putF f ks[i].name (.pointer (some ⟨pb, 0, none⟩)) = f2 at *
      have hsz2 : wr.heap.size ≤ w2.heap.size := (unhide HB2r).size
      have hsz3 : w2.heap.size ≤ w3.heap.size := hg3.size
      have hwr2 : w.heap.size + 2 ≤ wr.heap.size := unhide HZR
      have HO3 := hide ((unhide HOW).ofBlock (w' := w3) (fun b hb => by
        have h9 := (unhide HOW).lt b hb
        exact (hblk3 b (by omega) (by omega)).trans ((unhide HB2r).block b h9.2)))
      have HA3 : Hid (Below w3.heap.size w3 (w3.alloc (.cells #[.pointer (some ⟨pb, 0, none⟩)] 95))) := (Below.refl _ _).alloc (Nat.le_refl _) _
      have HO4 := hide ((unhide HO3).below (unhide HA3))
      have hpn := unhide HPLN
      have hpl2 : pl.length ≤ 200 := by omega
      have HB3 : Hid (∀ b, b < w2.heap.size → b ≠ w.heap.size + 1 → w3.heap[b]? = w2.heap[b]?) := hblk3
      have HW3 : Hid (Below w.heap.size w w3) := (unhide HB2).trans ⟨hg3.os, hg3.tape, hg3.output, hg3.size, fun k hk => hblk3 k (by omega) (by omega)⟩
      clear hpn hblk3 hg3 hM3 hfx hnn HO3 HNO HYE HOE
      generalize hnmx : ks[i].name = nm at *
      have HNMX := hide hnmx
      clear hnmx
      go_wp2_with (at_builtin; go_must (refine wpList_append_oneN elPtr _ rfl _ _ rfl (w.heap.size + 2) _ pl rfl (unhide HO4) w3.heap.size pb rfl (fun j u hu => by rw [World.cell?_alloc_at _ _ _ _ rfl]; simpa [elPtr] using hu) (by simp [elPtr]; omega) (by simp; omega) ?_))
      intro v' w5 ho5 hg5 hn5
      have hlvw := (unhide HOW).lt
      have hsz5 : w3.heap.size + 1 ≤ w5.heap.size := by have h9 := hg5.size; simp at h9; omega
      have hblk5 : ∀ b, b < w3.heap.size → (Value.slice pa pl.length pc).ownBlock ≠ some b → w5.heap[b]? = w3.heap[b]? := fun b hb hne => (hg5.block b (by simp; omega) (fun e => hne e.symm)).trans ((unhide HA3).block b hb)
      have hgo : ∀ b, b < w2.heap.size → b ≠ w.heap.size + 1 → (Value.slice pa pl.length pc).ownBlock ≠ some b → w5.heap[b]? = w2.heap[b]? := fun b hb h1 h2 => (hblk5 b (by omega) h2).trans (unhide HB3 b hb h1)
      have hup : ∀ b, v'.ownBlock = some b → (Value.slice pa pl.length pc).ownBlock = some b ∨ w3.heap.size + 1 ≤ b := fun b hb => by
        have h9 := hn5 b hb
        simpa using h9
      have hEP2 : EP (fun b => New (w.heap.size + 2) w5.heap.size b ∧ v'.ownBlock ≠ some b) w5 ks b0 o0 pl (fTo ks i) (rTo ks i) (kTo ks i) := by
        refine ((((unhide HEP).keptP (KeptP.of_below (unhide HB2r))).keptP (w' := w5) ⟨by omega, fun b h hb => hgo b hb (by have := h.1.1; omega) h.2⟩)).mono (fun b h => ⟨⟨h.1.1, by have := h.1.2; omega⟩, fun e => ?_⟩)
        rcases hup b e with h9 | h9
        · exact h.2 h9
        · have := h.1.2; omega
      have hPA2 := ((unhide HPA).keptP (w' := w5) ⟨by omega, fun b h hb => hgo b hb (by have := h.1; omega) (fun e => by have := (hlvw b e).2; have := h.1; omega)⟩).mono (Q := fun b => New (w.heap.size + 2) w5.heap.size b ∧ v'.ownBlock ≠ some b) (fun b h => ⟨⟨by have := h.1; omega, by have := h.2; omega⟩, fun e => by
        rcases hup b e with h9 | h9
        · have := (hlvw b h9).2; have := h.1; omega
        · have := h.2; omega⟩)
      obtain ⟨n1, n2⟩ := unhide HEN w5 _ pb (by simp) hEP2 hPA2
      have HN1 := hide n1
      have HN2 := hide n2
      have HBK5 : Hid (BlkAt w5 w.heap.size 29 #[.slice (some ⟨b0, o0, none⟩) ks.length mc]) := (hgo w.heap.size (by omega) (by omega) (fun e => by have := (hlvw _ e).1; omega)).trans ((unhide HBKr).below (unhide HB2r) (unhide HBKr).lt)
      have HM5 := hide ((unhide HM3).block (w' := w5) (hblk5 _ (unhide HM3).lt (fun e => by have := (hlvw _ e).1; omega)))
      have HW5 : Hid (Below w.heap.size w w5) := (unhide HW3).trans ⟨hg5.os.trans (unhide HA3).os, hg5.tape.trans (unhide HA3).tape, hg5.output.trans (unhide HA3).output, by omega, fun k hk => hblk5 k (by omega) (fun e => by have := (hlvw k e).1; omega)⟩
      have HO5 := hide ho5
      have HZ5 : Hid (w.heap.size + 2 ≤ w5.heap.size) := by refine hide ?_; omega
      obtain ⟨va, vc, hv'⟩ := ho5.slice
      subst hv'
      clear ho5 hg5 hn5 hlvw hblk5 hgo hup hEP2 hPA2 n1 n2
      go_wp2
      go_roundg (ks.length - (i + 1))
      case measure => have := unhide HG; omega
      case rel => exact ⟨i + 1, pl ++ [pb], f2, by omega, rfl, by go_num, by rw [List.length_append, unhide HPLN]; rfl, unhide HY2, unhide HBK5, unhide HO5, unhide HM5, unhide HFN2, unhide HFS2, unhide HN1, unhide HN2, unhide HW5, unhide HZ5⟩

end Go.Proofs.YtmglbkndjnflkaaGreatDoor
