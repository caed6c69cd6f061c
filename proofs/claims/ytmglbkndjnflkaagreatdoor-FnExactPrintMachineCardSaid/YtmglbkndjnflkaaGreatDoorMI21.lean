import Derived.Test.YtmglbkndjnflkaaGreatDoorMI20
namespace Go.Proofs.YtmglbkndjnflkaaGreatDoor
open Go.RowKit
set_option linter.unusedSimpArgs false
set_option linter.unusedVariables false

/-- A plan that is done; what it takes of memory lies in blocks that P tells. -/
def PA (P : Nat → Prop) (w : World) (b0 o0 i pb : Nat) (fi : List Int) (ki ri : Int) : Prop :=
  ∃ mb iv fa fc bv, BlkAt w pb 103 (planCells b0 (o0 + i * 7) mb iv (.slice fa fi.length fc) bv ki ri) ∧ SlAt 1 4 RI32 0 w (.slice fa fi.length fc) fi ∧ P pb ∧ ∀ b, (Value.slice fa fi.length fc).ownBlock = some b → P b
theorem PA.keptP {P : Nat → Prop} {w w' : World} {b0 o0 i pb : Nat} {fi : List Int} {ki ri : Int} (h : PA P w b0 o0 i pb fi ki ri) (hk : KeptP P w w') : PA P w' b0 o0 i pb fi ki ri := by
  obtain ⟨mb, iv, fa, fc, bv, h1, h2, h3, h4⟩ := h
  exact ⟨mb, iv, fa, fc, bv, h1.keptP hk h3, h2.keptP RI32_any hk h4, h3, h4⟩
theorem PA.mono {P Q : Nat → Prop} {w : World} {b0 o0 i pb : Nat} {fi : List Int} {ki ri : Int} (h : PA P w b0 o0 i pb fi ki ri) (hq : ∀ b, P b → Q b) : PA Q w b0 o0 i pb fi ki ri := by
  obtain ⟨mb, iv, fa, fc, bv, h1, h2, h3, h4⟩ := h
  exact ⟨mb, iv, fa, fc, bv, h1, h2, hq _ h3, fun b hb => hq b (h4 b hb)⟩
theorem PA.stays {P : Nat → Prop} {w w' : World} {b0 o0 i pb : Nat} {fi : List Int} {ki ri : Int} (h : PA P w b0 o0 i pb fi ki ri) (hb : Below w.heap.size w w') : PA P w' b0 o0 i pb fi ki ri := h.keptP (KeptP.of_below hb)
/-- The plans of the classes before. -/
structure EP (P : Nat → Prop) (w : World) (ks : List DClass) (b0 o0 : Nat) (pl : List Nat) (fs : List (List Int)) (rs known : List Int) : Prop where
  fl : fs.length = pl.length
  rl : rs.length = pl.length
  kl : known.length = pl.length
  le : pl.length ≤ ks.length
  pa : ∀ i (h : i < pl.length) (h1 : i < fs.length) (h2 : i < known.length) (h3 : i < rs.length), PA P w b0 o0 i pl[i] fs[i] known[i] rs[i]
  fb : ∀ x, x ∈ fs → x.length ≤ 20000
  rb : ∀ x, x ∈ rs → 0 ≤ x ∧ x ≤ 1000000
  kb : ∀ x, x ∈ known → 0 ≤ x ∧ x ≤ 400000
  gb : ∀ i (h : i < ks.length), i < pl.length → ks[i].ins.length ≤ 1000 ∧ ks[i].outs.length ≤ 1000
theorem EP.keptP {P : Nat → Prop} {w w' : World} {ks : List DClass} {b0 o0 : Nat} {pl : List Nat} {fs : List (List Int)} {rs known : List Int} (h : EP P w ks b0 o0 pl fs rs known) (hk : KeptP P w w') : EP P w' ks b0 o0 pl fs rs known :=
  ⟨h.fl, h.rl, h.kl, h.le, fun i a b c d => (h.pa i a b c d).keptP hk, h.fb, h.rb, h.kb, h.gb⟩
theorem EP.mono {P Q : Nat → Prop} {w : World} {ks : List DClass} {b0 o0 : Nat} {pl : List Nat} {fs : List (List Int)} {rs known : List Int} (h : EP P w ks b0 o0 pl fs rs known) (hq : ∀ b, P b → Q b) : EP Q w ks b0 o0 pl fs rs known :=
  ⟨h.fl, h.rl, h.kl, h.le, fun i a b c d => (h.pa i a b c d).mono hq, h.fb, h.rb, h.kb, h.gb⟩
theorem EP.ea {P : Nat → Prop} {w : World} {ks : List DClass} {b0 o0 : Nat} {pl : List Nat} {fs : List (List Int)} {rs known : List Int} (h : EP P w ks b0 o0 pl fs rs known) {ev : Value} (he : SlAt 1 8 RPtr 0 w ev pl) : EA w ev pl fs rs where
  sl := he
  fl := h.fl
  rl := h.rl
  c3 := fun i a b => by
    obtain ⟨mb, iv, fa, fc, bv, h1, h2, _⟩ := h.pa i a b (by rw [h.kl]; exact a) (by rw [h.rl]; exact a)
    exact ⟨fa, fc, h1.cell (i := 3) rfl, h2, h.fb _ (List.getElem_mem b)⟩
  c6 := fun i a b => by
    obtain ⟨mb, iv, fa, fc, bv, h1, h2, _⟩ := h.pa i a (by rw [h.fl]; exact a) (by rw [h.kl]; exact a) b
    have := h.rb _ (List.getElem_mem b)
    exact ⟨h1.cell (i := 6) rfl, this.1, this.2⟩
theorem classCA_at {w : World} {b0 o0 n c : Nat} {ks : List DClass} (h : SlAt 7 160 RClass 0 w (.slice (some ⟨b0, o0, none⟩) n c) ks) (i : Nat) (hi : i < ks.length) : ∃ a1 a2 a3 a4 a5 a6, CA w b0 (o0 + i * 7) ks[i] a1 a2 a3 a4 a5 a6 := by
  obtain ⟨a, cap, hv, _, _, hx⟩ := h
  simp only [Value.slice.injEq] at hv
  obtain ⟨rfl, _, rfl⟩ := hv
  obtain ⟨b, o, cs, hbo, _, hb, hl, hc, ⟨a1, a2, a3, a4, a5, a6, rfl, h1, h2, h3, h4, h5, h6, h7⟩⟩ := hx i hi
  simp only [Option.some.injEq, Addr.mk.injEq] at hbo
  obtain ⟨rfl, rfl, _⟩ := hbo
  exact ⟨a1, a2, a3, a4, a5, a6, hb, hc 0 (by simp), hc 1 (by simp), hc 2 (by simp), hc 3 (by simp), hc 4 (by simp), hc 5 (by simp), hc 6 (by simp), h1, h2, h3, h4, h5, h6, h7⟩

def planB (ks : List DClass) (k : DClass) (fs : List (List Int)) (known : List Int) : Bool := nameB k.name && (declB k && (ownB fs k && (decide (k.body.length ≤ 30000) && buildB ks k known)))
def costK (ks : List DClass) (k : DClass) (known : List Int) : Int := match listF ks k (k.body.length + 1) k.body [] 0 with
  | some (t, []) => t.cost (knOf k.insts known) 0
  | _ => 0
def PoPost (ks : List DClass) (k : DClass) (i b0 o0 : Nat) (fs : List (List Int)) (rs known : List Int) (w : World) (R : Bool) (e : Ending) (w' : World) : Prop :=
  (R = false → e = .returned (.pointer none)) ∧ (R = true → ∃ pb, e = .returned (.pointer (some ⟨pb, 0, none⟩)) ∧ PA (New w.heap.size w'.heap.size) w' b0 o0 i pb (firstTo fs k.mems k.insts k.insts.length) (costK ks k known) (((varsOf k).length : Int) + roomTo rs k.insts k.insts.length)) ∧ Below w.heap.size w w'

theorem declB_len (k : DClass) (h : declB k = true) : (varsOf k).length ≤ 1000 := by
  unfold declB at h
  rw [Bool.and_eq_true] at h
  have := of_decide_eq_true h.1
  unfold varsOf
  simp
  omega
theorem ownB_len (fs : List (List Int)) (k : DClass) (h : ownB fs k = true) : (firstTo fs k.mems k.insts k.insts.length).length ≤ 20000 := by
  unfold ownB at h
  simp only [Bool.and_eq_true] at h
  obtain ⟨h1, _, h3⟩ := h
  have h1 := of_decide_eq_true h1
  generalize hn : k.insts.length = n at *
  cases n with
  | zero => rw [firstTo_zero]; omega
  | succ n =>
    have h9 := List.all_eq_true.1 h3 n (List.mem_range.2 (by omega))
    unfold ownOne at h9
    rw [List.getElem?_eq_getElem (by omega)] at h9
    simp only [Bool.and_eq_true] at h9
    exact of_decide_eq_true h9.2
set_option maxRecDepth 20000 in
set_option maxHeartbeats 4000000 in
theorem planOf_ok (P : Nat → Prop) (ks : List DClass) (i : Nat) (hi : i < ks.length) (b0 o0 n c : Nat) (ev : Value) (pl : List Nat) (fs : List (List Int)) (rs known : List Int) (w : World) (hm : SlAt 7 160 RClass 0 w (.slice (some ⟨b0, o0, none⟩) n c) ks) (he : SlAt 1 8 RPtr 0 w ev pl) (hp : EP P w ks b0 o0 pl fs rs known) (hpl : pl.length ≤ 200) :
    Calls Tryz.prog 50 #[.pointer (some ⟨b0, o0 + i * 7, none⟩), ev] w (PoPost ks ks[i] i b0 o0 fs rs known w (planB ks ks[i] fs known)) := by
  obtain ⟨a1, a2, a3, a4, a5, a6, hC⟩ := classCA_at hm i hi
  have c0 := hC.c0
  have lc := hC.lt
  obtain ⟨ea, ec, hev⟩ := he.shape
  subst hev
  have HM := hide hm
  have HE := hide he
  have HP := hide hp
  have HC := hide hC
  generalize hk : ks[i] = k at *
  have HB : Hid (planB ks k fs known = (nameB k.name && (declB k && (ownB fs k && (decide (k.body.length ≤ 30000) && buildB ks k known))))) := rfl
  have hW0 : Below w.heap.size w ((w.alloc (.map #[] 0)).alloc (.cells #[.pointer (some ⟨b0, o0 + i * 7, none⟩), .map (some w.heap.size), .slice none 0 0, .slice none 0 0, .slice none 0 0, .int .i64 0, .int .i64 0] 103)) := ((Below.refl _ _).alloc (Nat.le_refl _) _).alloc (by simp) _
  have hz1 : (w.alloc (.map #[] 0)).heap.size = w.heap.size + 1 := by simp
  have hpb0 := blk_box (w.alloc (.map #[] 0)) #[.pointer (some ⟨b0, o0 + i * 7, none⟩), .map (some w.heap.size), .slice none 0 0, .slice none 0 0, .slice none 0 0, .int .i64 0, .int .i64 0] 103
  rw [hz1] at hpb0
  have hmp0 : MapN ((w.alloc (.map #[] 0)).alloc (.cells #[.pointer (some ⟨b0, o0 + i * 7, none⟩), .map (some w.heap.size), .slice none 0 0, .slice none 0 0, .slice none 0 0, .int .i64 0, .int .i64 0] 103)) w.heap.size 0 (namesF []) := by
    have h9 : MapN (w.alloc (.map #[] 0)) w.heap.size 0 (fun _ => none) := MapP.made w
    have h8 : namesF [] = fun _ => none := by funext x; rfl
    rw [h8]
    exact h9.below ((Below.refl (w.heap.size + 1) _).alloc (by omega) _) (by omega)
  have HNM := hide (fun w' => nameOK_ok k.name w' hC.name)
  have HFL : Hid (ownB fs k = true → (firstTo fs k.mems k.insts k.insts.length).length * 4 ≤ 140737488355328) := fun h => by
    have := ownB_len fs k h
    omega
  have HW0 := hide hW0
  have HPB0 := hide hpb0
  have HMP0 := hide hmp0
  have c0' := (hW0.cell (p := ⟨b0, o0 + i * 7, none⟩) lc).trans c0
  clear hm he hp hC hW0 hpb0 hmp0 hz1
  have hmm := @run_makeMap Tryz.prog
  -- the stages
  have HDE : Hid (∀ w1, Below w.heap.size w w1 → BlkAt w1 (w.heap.size + 1) 103 (planCells b0 (o0 + i * 7) w.heap.size (.slice none 0 0) (.slice none 0 0) (.slice none 0 0) 0 0) → MapN w1 w.heap.size 0 (namesF []) → Calls Tryz.prog 72 #[.pointer (some ⟨w.heap.size + 1, 0, none⟩)] w1 fun e w2 => e = .returned (.bool (declB k)) ∧ (declB k = true → MapN w2 w.heap.size (varsOf k).length (namesF (varsOf k))) ∧ But [w.heap.size] w1 w2) := fun w1 hb hk hm =>
    declare_ok k (w.heap.size + 1) w.heap.size b0 (o0 + i * 7) a1 a2 a3 a4 a5 a6 w w1 (unhide HC) hb (Nat.le_refl _) (by omega) (hk.cell (i := 0) rfl) (hk.cell (i := 1) rfl) hm
  have HOW : Hid (declB k = true → ∀ w2, Below w.heap.size w w2 → BlkAt w2 (w.heap.size + 1) 103 (planCells b0 (o0 + i * 7) w.heap.size (.slice none 0 0) (.slice none 0 0) (.slice none 0 0) 0 0) → MapN w2 w.heap.size (varsOf k).length (namesF (varsOf k)) → Calls Tryz.prog 73 #[.pointer (some ⟨w.heap.size + 1, 0, none⟩), .slice ea pl.length ec] w2 (OwPost k (w.heap.size + 1) w.heap.size b0 (o0 + i * 7) pl fs rs w2 (ownB fs k))) := fun hd w2 hb hk hm =>
    own_ok k (w.heap.size + 1) w.heap.size b0 (o0 + i * 7) a1 a2 a3 a4 a5 a6 _ pl fs rs (namesF (varsOf k)) w w2 (unhide HC) ((unhide HP).ea (unhide HE)) (by omega) hb (by omega) hm (declB_len k hd) hk
  have HBU : Hid (declB k = true → ownB fs k = true → ∀ w3 iv g c, Below w.heap.size w w3 → BlkAt w3 (w.heap.size + 1) 103 (planCells b0 (o0 + i * 7) w.heap.size iv (.slice (some ⟨g, 0, none⟩) (firstTo fs k.mems k.insts k.insts.length).length c) (.slice none 0 0) 0 (((varsOf k).length : Int) + roomTo rs k.insts k.insts.length)) → MapN w3 w.heap.size (varsOf k).length (namesF (varsOf k)) → (∃ bs, OwnV elInst w3 bs iv (insTo pl fs k.mems k.insts k.insts.length)) → Calls Tryz.prog 74 #[.pointer (some ⟨w.heap.size + 1, 0, none⟩)] w3 (BuPost ks k (w.heap.size + 1) w.heap.size b0 (o0 + i * 7) a1 a2 a3 a4 a5 a6 iv (.slice (some ⟨g, 0, none⟩) (firstTo fs k.mems k.insts k.insts.length).length c) (insTo pl fs k.mems k.insts k.insts.length) known (((varsOf k).length : Int) + roomTo rs k.insts k.insts.length) w3 (decide (k.body.length ≤ 30000) && buildB ks k known) (listF ks k (k.body.length + 1) k.body [] 0))) := fun hd ho w3 iv g c hb hk hm ⟨bs, hoi⟩ => by
    have hown := ho
    unfold ownB at hown
    simp only [Bool.and_eq_true] at hown
    obtain ⟨q1, _, q3⟩ := hown
    have q1 := of_decide_eq_true q1
    refine build_ok ks k (w.heap.size + 1) w.heap.size b0 (o0 + i * 7) a1 a2 a3 a4 a5 a6 iv _ (insTo pl fs k.mems k.insts k.insts.length) known _ w3 ⟨(unhide HC).stays hb, hk.cell (i := 0) rfl, hk.cell (i := 1) rfl, hk.cell (i := 2) rfl, hm, insTo_len _ _ _ _ _, ?_, ?_, declB_len k hd⟩ (fun x hx => by have := (unhide HP).kb x hx; omega) hk (by omega)
    · exact hoi.at (E := elInst) (R := RInst) (fun x _ => rfl) (by rw [insTo_len]; simp [elInst]; omega)
    · intro j hj hj'
      have h9 := List.all_eq_true.1 q3 j (List.mem_range.2 hj')
      unfold ownOne at h9
      rw [List.getElem?_eq_getElem hj'] at h9
      simp only [Bool.and_eq_true] at h9
      have h8 := of_decide_eq_true h9.1
      obtain ⟨gi, hgi⟩ := Int.eq_ofNat_of_zero_le h8.1
      have hgl : gi < pl.length := by rw [← (unhide HP).fl]; omega
      have hgk : gi < ks.length := Nat.lt_of_lt_of_le hgl (unhide HP).le
      obtain ⟨g1, g2, g3, g4, g5, g6, hCg⟩ := classCA_at (unhide HM) gi hgk
      obtain ⟨pmb, piv, pfa, pfc, pbv, hp1, hp2, _⟩ := (unhide HP).pa gi hgl (by rw [(unhide HP).fl]; exact hgl) (by rw [(unhide HP).kl]; exact hgl) (by rw [(unhide HP).rl]; exact hgl)
      have hpg := hp1.below hb hp1.lt
      obtain ⟨d1, m1, e1⟩ := hCg.ins.shape
      obtain ⟨d2, m2, e2⟩ := hCg.outs.shape
      have hins : (insTo pl fs k.mems k.insts k.insts.length)[j].1 = pl[gi] := by
        simp only [insTo, List.getElem_map, List.getElem_range]
        rw [List.getD_eq_getElem?_getD (l := k.insts), List.getElem?_eq_getElem hj', Option.getD_some, hgi, Int.toNat_natCast, List.getD_eq_getElem?_getD, List.getElem?_eq_getElem hgl, Option.getD_some]
      have hkn : known.getD gi 0 = known[gi]'(by rw [(unhide HP).kl]; exact hgl) := by rw [List.getD_eq_getElem?_getD, List.getElem?_eq_getElem (by rw [(unhide HP).kl]; exact hgl), Option.getD_some]
      rw [hins]
      have kbb := (unhide HP).kb _ (List.getElem_mem (by rw [(unhide HP).kl]; exact hgl : gi < known.length))
      have gbb := (unhide HP).gb gi hgk hgl
      refine ⟨gi, ks[gi], b0, o0 + gi * 7, d1, m1, d2, m2, hgi, List.getElem?_eq_getElem hgk, hpg.cell (i := 0) rfl, ?_, ?_, by rw [hkn]; exact hpg.cell (i := 5) rfl, by rw [hkn]; exact kbb, gbb.1, gbb.2⟩
      · rw [hb.cell (p := ⟨b0, _, none⟩) hCg.lt, hCg.c1, e1]
      · rw [hb.cell (p := ⟨b0, _, none⟩) hCg.lt, hCg.c2, e2]
  have HCK : Hid (costK ks k known = match listF ks k (k.body.length + 1) k.body [] 0 with
    | some (t, []) => t.cost (knOf k.insts known) 0
    | _ => 0) := rfl
  generalize planB ks k fs known = R at *
  generalize (decide (k.body.length ≤ 30000) && buildB ks k known) = rb at *
  generalize listF ks k (k.body.length + 1) k.body [] 0 = o at *
  generalize declB k = rd at *
  generalize ownB fs k = ro at *
  generalize nameB k.name = rn at *
  clear c0
  go_enter Tryz.func50, Tryz.ntmps50
  go_wp2_with fail
  generalize ((w.alloc (.map #[] 0)).alloc (.cells #[.pointer (some ⟨b0, o0 + i * 7, none⟩), .map (some w.heap.size), .slice none 0 0, .slice none 0 0, .slice none 0 0, .int .i64 0, .int .i64 0] 103)) = w0 at *
  refine (unhide HNM w0).mono ?_
  rintro e w1 ⟨rfl, hb1⟩
  have HB1 : Hid (Below w.heap.size w w1) := (unhide HW0).trans (hb1.mono (unhide HW0).size)
  have hk1 := (unhide HPB0).below hb1 (unhide HPB0).lt
  have hm1 := (unhide HMP0).below hb1 (unhide HMP0).lt
  have HK1 := hide hk1
  have HD1 := hide (unhide HDE w1 (unhide HB1) hk1 hm1)
  clear hb1 hk1 hm1 hmm HDE
  cases rn
  · have HF : Hid (R = false) := (unhide HB).trans (Bool.false_and _)
    go_wp2
    go_ret
    rw [unhide HF]
    exact ⟨(fun _ => rfl), (fun h => by cases h), unhide HB1⟩
  have HR1 : Hid (R = (rd && (ro && rb))) := (unhide HB).trans (Bool.true_and _)
  clear HB
  go_wp2_with fail
  refine (unhide HD1).mono ?_
  rintro e w2 ⟨rfl, hm2, hbt2⟩
  have HB2 : Hid (Below w.heap.size w w2) := (unhide HB1).trans (hbt2.below _ (unhide HB1).size (fun q hq => by rw [List.mem_singleton] at hq; omega))
  have HK2 := hide (hbt2.blk (unhide HK1) (by simp))
  have HM2 := hide hm2
  clear hm2 hbt2 HD1
  cases rd
  · have HF : Hid (R = false) := (unhide HR1).trans (Bool.false_and _)
    go_wp2
    go_ret
    rw [unhide HF]
    exact ⟨(fun _ => rfl), (fun h => by cases h), unhide HB2⟩
  have HR2 : Hid (R = (ro && rb)) := (unhide HR1).trans (Bool.true_and _)
  have HM2' := hide (unhide HM2 rfl)
  have HO2 := hide (unhide HOW rfl w2 (unhide HB2) (unhide HK2) (unhide HM2 rfl))
  have HBU2 := hide (unhide HBU rfl)
  clear HR1 HOW HBU
  go_wp2_with fail
  refine (unhide HO2).mono ?_
  rintro e w3 ⟨rfl, hbt3, hr3⟩
  have HB3 : Hid (Below w.heap.size w w3) := (unhide HB2).trans (hbt3.below _ (unhide HB2).size (fun q hq => by rw [List.mem_singleton] at hq; omega))
  have HM3 := hide (hbt3.map (unhide HM2') (by simp))
  have HR3 := hide hr3
  clear hbt3 hr3 HO2
  cases ro
  · have HF : Hid (R = false) := (unhide HR2).trans (Bool.false_and _)
    go_wp2
    go_ret
    rw [unhide HF]
    exact ⟨(fun _ => rfl), (fun h => by cases h), unhide HB3⟩
  have HR4 : Hid (R = rb) := (unhide HR2).trans (Bool.true_and _)
  obtain ⟨iv, g, c, q1, q2, q3⟩ := unhide HR3 rfl
  have HB4 := hide (unhide HBU2 rfl w3 iv g c (unhide HB3) q1 (unhide HM3) ⟨_, q2⟩)
  have hne := OwnV.notBlk' q3 q1 (by decide)
  have HNE := hide hne
  have HQ3 := hide q3
  have HGN : Hid (∀ n, w3.heap.size ≤ n → New w.heap.size n g) := fun n hn => by
    have h9 := q3.lt g rfl
    have := (unhide HB2).size
    exact ⟨by omega, by omega⟩
  have hfl : (firstTo fs k.mems k.insts k.insts.length).length * 4 ≤ 140737488355328 := unhide HFL rfl
  have HS3 : Hid (SlAt 1 4 RI32 0 w3 (.slice (some ⟨g, 0, none⟩) (firstTo fs k.mems k.insts k.insts.length).length c) (firstTo fs k.mems k.insts k.insts.length)) := q3.at (E := el32) (R := RI32) (fun x _ => rfl) (by simpa [el32] using hfl)
  clear q1 q2 q3 hne HR2 HR3 HBU2 hfl
  go_wp2_with fail
  refine (unhide HB4).mono ?_
  rintro e w4 ⟨rfl, hbt4, hr4⟩
  have HB5 : Hid (Below w.heap.size w w4) := (unhide HB3).trans (hbt4.below _ (unhide HB3).size (fun q hq => by rw [List.mem_singleton] at hq; omega))
  have HS4 : Hid (SlAt 1 4 RI32 0 w4 (.slice (some ⟨g, 0, none⟩) (firstTo fs k.mems k.insts k.insts.length).length c) (firstTo fs k.mems k.insts k.insts.length)) := (unhide HS3).keptP (P := fun b => b ≠ w.heap.size + 1) RI32_any (hbt4.keptP (fun q hq h => h (List.mem_singleton.1 hq))) (fun b hb e => by subst e; exact unhide HNE hb)
  have HR5 := hide hr4
  have HW34 := hide hbt4.size
  clear hbt4 hr4 HB4
  cases rb
  · have HF : Hid (R = false) := unhide HR4
    go_wp2
    go_ret
    rw [unhide HF]
    exact ⟨(fun _ => rfl), (fun h => by cases h), unhide HB5⟩
  · have HF : Hid (R = true) := unhide HR4
    obtain ⟨t, bv, nodes, bb, hb, gb, lo, g1, g2, g3, g4⟩ := unhide HR5 rfl
    have hck : costK ks k known = t.cost (knOf k.insts known) 0 := by
      rw [g1] at HCK
      exact unhide HCK
    have HPA : Hid (PA (New w.heap.size w4.heap.size) w4 b0 o0 i (w.heap.size + 1) (firstTo fs k.mems k.insts k.insts.length) (costK ks k known) (((varsOf k).length : Int) + roomTo rs k.insts k.insts.length)) := ⟨w.heap.size, iv, _, _, bv, by rw [hck]; exact g2, unhide HS4, ⟨by omega, g2.lt⟩, fun b hb => by
      simp only [Value.ownBlock, Option.some.injEq] at hb
      subst hb
      exact unhide HGN _ (unhide HW34)⟩
    clear g1 g2 g3 g4 hck HR5 HCK
    go_wp2
    go_ret
    rw [unhide HF]
    exact ⟨(fun h => by cases h), (fun _ => ⟨w.heap.size + 1, rfl, unhide HPA⟩), unhide HB5⟩

end Go.Proofs.YtmglbkndjnflkaaGreatDoor
