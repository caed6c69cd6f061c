import Derived.Test.YtmglbkndjnflkaaGreatDoorMI12
namespace Go.Proofs.YtmglbkndjnflkaaGreatDoor
open Go.RowKit
set_option linter.unusedSimpArgs false
set_option linter.unusedVariables false

theorem heldA_size (k : DClass) (H : List ByteArray) : (heldA k H).size = (varsOf k).length := by unfold heldA; simp
theorem heldA_get (k : DClass) (H : List ByteArray) (i : Nat) (hi : i < (varsOf k).length) : (heldA k H)[i]? = some (.int .i64 (cnt k H i)) := by unfold heldA; simp [hi]
theorem heldA_set (k : DClass) (H H' : List ByteArray) (q : Nat) (hq : q < (varsOf k).length) (h1 : ∀ i, i ≠ q → cnt k H' i = cnt k H i) : (heldA k H).setIfInBounds q (.int .i64 (cnt k H' q)) = heldA k H' := by
  apply Array.ext_getElem?
  intro i
  rw [Array.getElem?_setIfInBounds, heldA_size]
  by_cases e : q = i
  · subst e
    rw [if_pos rfl, if_pos hq, heldA_get k H' q hq]
  · rw [if_neg e]
    by_cases hi : i < (varsOf k).length
    · rw [heldA_get k H i hi, heldA_get k H' i hi, h1 i (fun h => e h.symm)]
    · rw [Array.getElem?_eq_none (by rw [heldA_size]; omega), Array.getElem?_eq_none (by rw [heldA_size]; omega)]
theorem cnt_le (k : DClass) (H : List ByteArray) (q : Nat) : cnt k H q ≤ H.length := List.countP_le_length
theorem BS.rehold {X : BD} (hE : BE X) {w : World} {H H' : List ByteArray} {nx q : Nat} (h : BS X w H nx) (hq : q < (varsOf X.k).length) (h1 : ∀ i, i ≠ q → cnt X.k H' i = cnt X.k H i) {v : Int} (hv : v = (cnt X.k H' q : Int)) : BS X (w.setCell ⟨X.hb, q, none⟩ (.int .i64 v)) H' nx ∧ But (BSt X) w (w.setCell ⟨X.hb, q, none⟩ (.int .i64 v)) := by
  subst hv
  obtain ⟨gv, g1, g2, g3⟩ := h.gl
  have hb : But (BSt X) w (w.setCell ⟨X.hb, q, none⟩ (.int .i64 (cnt X.k H' q : Int))) := (But.refl _ _).setIn (by simp [BSt]) _
  have hh := h.hl.set q (.int .i64 (cnt X.k H' q : Int))
  rw [heldA_set X.k H H' q hq h1] at hh
  exact ⟨⟨h.old.trans (hb.below _ h.old.size (fun k hk => (hE.inS k hk).1)), Nat.le_trans h.lo hb.size, h.nxl, h.bl.other hE.bh _, hh, gv, g1, g2, g3.other (Ne.symm hE.hg) _⟩, hb⟩
theorem brF_len {ks : List DClass} {k : DClass} {f : Nat} {ss : List DStm} {H : List ByteArray} {d kd : Int} {t : PL} {el : DStm} {r : List DStm} (h : brF ks k f ss H d kd = some (t, el, r)) : r.length ≤ ss.length := by
  unfold brF at h
  split at h
  · rename_i t' el' r' hl
    split at h
    · simp only [Option.some.injEq, Prod.mk.injEq] at h
      obtain ⟨rfl, rfl, rfl⟩ := h
      have := (listF_sound ks k _ _ _ _ _ _ hl).1
      rw [this, List.length_append, List.length_cons]
      omega
    · cases h
  · cases h
def chF (ks : List DClass) (k : DClass) (f : Nat) (s : DStm) (ss : List DStm) (H : List ByteArray) (d : Int) : Option (PL × List DStm) :=
  if placeI (varsOf k) s.name < 0 then none else match brF ks k f ss (s.name :: H) (d + 1) 5 with
    | none => none
    | some (a, el, r1) => match brF ks k f r1 (s.name :: H) (d + 1) 6 with
      | none => none
      | some (b, en, r2) => some (.br s a el b en .nil, r2)

set_option maxRecDepth 20000 in
set_option maxHeartbeats 4000000 in
theorem choose_ok (X : BD) (hE : BE X) (hkb : ∀ x, x ∈ X.known → 0 ≤ x ∧ x ≤ 400001) (f : Nat) (hL : ListDoes X f) (H : List ByteArray) (nx : Nat) (d : Int) (w : World) (hS : BS X w H nx) (hf : X.k.body.length - nx < f) (hd : 0 ≤ d) (hd2 : d ≤ 20) (hH : (H.length : Int) ≤ d) (s : DStm) (sb so : Nat) (ov cv av : Value) (hA : SA X.W0 sb so s ov cv av) :
    Calls Tryz.prog 133 #[.pointer (some ⟨X.bb, 0, none⟩), .pointer (some ⟨sb, so, none⟩), .int .i64 d] w (StPost X H w (chF X.ks X.k f s (X.k.body.drop nx) H d)) := by
  have hx' : s.name.size ≤ maxLen := by have := hA.name; unfold Len at this; unfold maxLen; omega
  obtain ⟨b0, b1, b2, b3, p0, p1, p2, c1, c4, c6⟩ := hS.cells hE
  have s1 := (hA.stays rfl hS.old).c1
  have HE := hide hE
  have HKK : Hid (∀ s, 0 ≤ knOf X.k.insts X.known s ∧ knOf X.k.insts X.known s ≤ 400001) := fun s => getD_bd X.known 400001 (by omega) hkb _
  have hbd := place_bd (varsOf X.k) s.name
  have hvl := hE.vl
  clear b1 b3 p0 p2 c1 c4 c6
  by_cases hp : placeI (varsOf X.k) s.name < 0
  · have hlk : ∀ n, (Instr.lookup 98 (.map (some X.mb)) (.string s.name) true).run Tryz.prog (w.drewN n) = .ok (.tuple #[.int .i64 0, .bool false]) (w.drewN n) := fun n =>
      MapP.miss (w := w.drewN n) ((hE.map.below hS.old hE.map.lt).block rfl) Tryz.underlying9 Tryz.underlying98 (zeroInt _) hx' (namesF_miss _ _ hp)
    rw [show chF X.ks X.k f s (X.k.body.drop nx) H d = none from if_pos hp]
    have HO := hide hS.old
    clear hE hS hp hA hL hf hbd hH hkb HE
    go_enter Tryz.func133, Tryz.ntmps133
    go_wp2_with fail
    go_quiet ((fail))
    go_wp2
    go_ret
    exact ⟨rfl, below_drewN (unhide HO) _⟩
  obtain ⟨q, hq⟩ := Int.eq_ofNat_of_zero_le (show 0 ≤ placeI (varsOf X.k) s.name by omega)
  have hqn : q < (varsOf X.k).length := by omega
  have hlk : ∀ n, (Instr.lookup 98 (.map (some X.mb)) (.string s.name) true).run Tryz.prog (w.drewN n) = .ok (.tuple #[.int .i64 q, .bool true]) (w.drewN n) := fun n => by
    have h9 := namesF_hit (varsOf X.k) s.name (by omega)
    rw [hq] at h9
    exact MapP.hit (w := w.drewN n) ((hE.map.below hS.old hE.map.lt).block rfl) Tryz.underlying9 Tryz.underlying98 (zeroInt _) hx' h9
  have HCH : Hid (chF X.ks X.k f s (X.k.body.drop nx) H d = match brF X.ks X.k f (X.k.body.drop nx) (s.name :: H) (d + 1) 5 with
    | none => none
    | some (a, el, r1) => match brF X.ks X.k f r1 (s.name :: H) (d + 1) 6 with
      | none => none
      | some (b, en, r2) => some (.br s a el b en .nil, r2)) := if_neg hp
  generalize chF X.ks X.k f s (X.k.body.drop nx) H d = R at *
  have hcl := cnt_le X.k H q
  have hce : ∀ i, i ≠ q → cnt X.k (s.name :: H) i = cnt X.k H i := fun i hi => by
    rw [cnt_cons, hq, if_neg (by omega), Nat.add_zero]
  have hcq : cnt X.k (s.name :: H) q = cnt X.k H q + 1 := by rw [cnt_cons, hq, if_pos rfl]
  have HCE := hide hce
  have HCQ := hide hcq
  have HQ := hide hq
  have HSS := hide hS
  have HLO := hide hS.lo
  have HBR := hide (fun kd nx' w' (h1 : BS X w' (s.name :: H) nx') (h2 : X.k.body.length - nx' < f) => branch_ok X hE f hL (s.name :: H) nx' (d + 1) kd w' h1 h2 (by omega) (by omega) (by rw [List.length_cons]; omega))
  have hcb : cnt X.k H q ≤ 20 := by omega
  have HHH := hide hH
  clear hE hS hp hA hL hbd hce hcq hq hcl hkb hH
  go_enter Tryz.func133, Tryz.ntmps133
  go_wp2_with fail
  go_quiet ((fail))
  have HB1 : Hid (Below w.heap.size w (w.drewN nq)) := below_dn _ _
  have HS1 := hide ((unhide HSS).stays (unhide HB1))
  generalize w.drewN nq = w1 at *
  have h0 := (unhide HS1).held q hqn
  have hz := (unhide HS1).hl.free q
  have b2' := ((unhide HS1).cells (unhide HE)).b2
  obtain ⟨m1, m2⟩ := (unhide HS1).rehold (unhide HE) (H' := s.name :: H) hqn (unhide HCE) (v := (cnt X.k H q : Int) + 1) (by rw [unhide HCQ]; rfl)
  have HBC := hide (unhide HBR 5 nx _ m1 hf)
  have HBT1 : Hid (But (BSt X) w (w1.setCell ⟨X.hb, q, none⟩ (.int .i64 ((cnt X.k H q : Int) + 1)))) := (But.of_below (unhide HB1)).trans m2
  have hqI : (q : Int) < ((varsOf X.k).length : Int) := by omega
  have HSZ1 := hide (unhide HBT1).size
  clear m1 m2 b0 p1 s1 b2 hlk
  generalize hb5 : brF X.ks X.k f (X.k.body.drop nx) (s.name :: H) (d + 1) 5 = o5 at *
  have HB5 := hide hb5
  clear hb5
  cases o5 with
  | none =>
    have e : R = none := unhide HCH
    subst e
    clear HCH
    go_wp2_with fail
    refine (unhide HBC).mono ?_
    rintro e w2 ⟨⟨v, rfl⟩, hb2⟩
    have HB2 := hide hb2
    clear hb2
    go_wp2
    go_ret
    exact ⟨rfl, unhide HB2⟩
  | some q5 =>
    obtain ⟨ta, el, r1⟩ := q5
    have HCH2 : Hid (R = match brF X.ks X.k f r1 (s.name :: H) (d + 1) 6 with
      | none => none
      | some (b, en, r2) => some (.br s ta el b en .nil, r2)) := unhide HCH
    clear HCH
    go_wp2_with fail
    refine (unhide HBC).mono ?_
    rintro e w2 ⟨v1, nd1, rfl, ⟨hv1, hvb1⟩, hn1, hs2, ht2, hr1⟩
    have HVB1 := hide hvb1
    clear hvb1
    obtain ⟨va, vc, rfl⟩ := hv1.shape
    have hl1 := hv1.lenI
    have hrl : r1.length ≤ X.k.body.length - nx := by
      have := brF_len (unhide HB5)
      rwa [List.length_drop] at this
    have HBC2 := hide (unhide HBR 6 _ _ hs2 (by omega))
    rw [← hr1] at HBC2
    have HV1 := hide hv1
    have HN1 := hide hn1
    have HT2 : Hid (But (BSt X) w w2) := (unhide HBT1).trans ht2
    clear hv1 hn1 hs2 ht2 hr1 HBC HBT1 b2' h0 hz
    generalize hb6 : brF X.ks X.k f r1 (s.name :: H) (d + 1) 6 = o6 at *
    cases o6 with
    | none =>
      have e : R = none := unhide HCH2
      subst e
      clear HCH2
      go_wp2_with fail
      refine (unhide HBC2).mono ?_
      rintro e w3 ⟨⟨v, rfl⟩, hb3⟩
      have HB3 := hide hb3
      clear hb3
      go_wp2
      go_ret
      exact ⟨rfl, unhide HB3⟩
    | some q6 =>
      obtain ⟨tb, en, r2⟩ := q6
      have HF : Hid (R = some (.br s ta el tb en .nil, r2)) := unhide HCH2
      clear HCH2 hb6
      go_wp2_with fail
      refine (unhide HBC2).mono ?_
      rintro e w3 ⟨v2, nd2, rfl, ⟨hv2, hvb2⟩, hn2, hs3, ht3, hr2⟩
      have HVB2 := hide hvb2
      clear hvb2
      obtain ⟨vb, vd, rfl⟩ := hv2.shape
      have hl2 := hv2.lenI
      have b2' := (hs3.cells (unhide HE)).b2
      have h0 := hs3.held q hqn
      rw [unhide HCQ] at h0
      have hz := hs3.hl.free q
      obtain ⟨m1, m2⟩ := hs3.rehold (unhide HE) (H' := H) hqn (fun i hi => (unhide HCE i hi).symm) (v := (cnt X.k H q : Int)) rfl
      have hlow : ∀ b, New w.heap.size w2.heap.size b → b ∉ BSt X := fun b h hb => by have := ((unhide HE).inS b hb).2; have := h.1; have := unhide HLO; omega
      have hlow3 : ∀ b, New w.heap.size w3.heap.size b → b ∉ BSt X := fun b h hb => by have := ((unhide HE).inS b hb).2; have := h.1; have := unhide HLO; omega
      have hk2 : KeptP (New w.heap.size w2.heap.size) w2 (w3.setCell ⟨X.hb, q, none⟩ (.int .i64 (cnt X.k H q : Int))) := (ht3.keptP (fun k hk h => hlow k h hk)).trans (m2.keptP (fun k hk h => hlow k h hk))
      have hk3 : KeptP (New w.heap.size w3.heap.size) w3 (w3.setCell ⟨X.hb, q, none⟩ (.int .i64 (cnt X.k H q : Int))) := m2.keptP (fun k hk h => hlow3 k h hk)
      have hsz1 : w.heap.size ≤ (w1.setCell ⟨X.hb, q, none⟩ (.int .i64 ((cnt X.k H q : Int) + 1))).heap.size := (unhide HSZ1)
      have hsz2 : w.heap.size ≤ w2.heap.size := (unhide HT2).size
      have hsz3 : w2.heap.size ≤ w3.heap.size := ht3.size
      have hn1' := NodesAt.mono (Q := New w.heap.size w2.heap.size) (fun b h => ⟨Nat.le_trans hsz1 h.1, h.2⟩) _ _ (unhide HN1)
      have hn2' := NodesAt.mono (Q := New w.heap.size w3.heap.size) (fun b h => ⟨Nat.le_trans hsz2 h.1, h.2⟩) _ _ hn2
      have vb1 : ∀ b, (Value.slice va nd1.length vc).ownBlock = some b → New w.heap.size w2.heap.size b := fun b hb => ⟨Nat.le_trans hsz1 (unhide HVB1 b hb).1, (unhide HVB1 b hb).2⟩
      have vb2 : ∀ b, (Value.slice vb nd2.length vd).ownBlock = some b → New w.heap.size w3.heap.size b := fun b hb => ⟨Nat.le_trans hsz2 (unhide HVB2 b hb).1, (unhide HVB2 b hb).2⟩
      have up23 : ∀ b, New w.heap.size w2.heap.size b → New w.heap.size w3.heap.size b := fun b h => ⟨h.1, Nat.lt_of_lt_of_le h.2 hsz3⟩
      have HV1' := hide ((unhide HV1).keptP RIf_any hk2 vb1)
      have HN1' := hide (NodesAt.mono up23 _ _ (NodesAt.keptP hk2 _ _ hn1'))
      have HV2' := hide (hv2.keptP RIf_any hk3 vb2)
      have HN2' := hide (NodesAt.keptP hk3 _ _ hn2')
      have HVB1' := hide (fun b hb => up23 b (vb1 b hb))
      have HVB2' := hide vb2
      have HS34 : Hid (w3.heap.size ≤ (w3.setCell ⟨X.hb, q, none⟩ (.int .i64 (cnt X.k H q : Int))).heap.size) := hk3.1
      clear hlow hlow3 hsz1 hsz2 hsz3 hn1' hn2' vb1 vb2 up23 HVB1 HVB2
      have HS4 := hide m1
      have HT4 : Hid (But (BSt X) w (w3.setCell ⟨X.hb, q, none⟩ (.int .i64 (cnt X.k H q : Int)))) := ((unhide HT2).trans ht3).trans m2
      have HR2 := hide hr2
      have e9 : ((cnt X.k H q + 1 : Nat) : Int) - 1 = (cnt X.k H q : Int) := by omega
      have e8 : (cnt X.k H q : Int) + 1 - 1 = (cnt X.k H q : Int) := by omega
      clear hv2 hn2 hs3 ht3 hr2 m1 m2 hk2 hk3 HV1 HN1 HT2
      go_wp2_with fail
      generalize w3.setCell ⟨X.hb, q, none⟩ (.int .i64 (cnt X.k H q : Int)) = w4 at *
      have HMA := hide (mostOf_ok X _ 0 ta _ nd1 w4 (unhide HV1') (unhide HN1') (unhide HKK))
      have HMB : Hid (∀ w', Below w4.heap.size w4 w' → Calls Tryz.prog 99 #[.slice vb nd2.length vd] w' (Ans (.int .i64 (tb.cost (knOf X.k.insts X.known) 0)) w')) := fun w' hb => mostOf_ok X _ 0 tb _ nd2 w' ((unhide HV2').stays RIf_kept hb) (NodesAt.keptP (KeptP.of_below hb) _ _ (unhide HN2')) (unhide HKK)
      have hca := cost_bd _ (unhide HKK) ta 0 (by omega) (by omega)
      have hcb2 := cost_bd _ (unhide HKK) tb 0 (by omega) (by omega)
      have HMX : Hid (maxS (ta.cost (knOf X.k.insts X.known) 0) (tb.cost (knOf X.k.insts X.known) 0) = if ta.cost (knOf X.k.insts X.known) 0 < tb.cost (knOf X.k.insts X.known) 0 then tb.cost (knOf X.k.insts X.known) 0 else ta.cost (knOf X.k.insts X.known) 0) := rfl
      have HNB : Hid (∀ w' g, w4.heap.size ≤ g → g < w'.heap.size → BlkAt w' g 209 #[.int .i64 (1 + maxS (ta.cost (knOf X.k.insts X.known) 0) (tb.cost (knOf X.k.insts X.known) 0)), .int .i64 q, .slice va nd1.length vc, .slice vb nd2.length vd] → Below w4.heap.size w4 w' → NodesAt X (New w.heap.size w'.heap.size) w' (.br s ta el tb en .nil) [(207, g)]) := fun w' g hg hgl hbk hb => by
        have up : ∀ b, New w.heap.size w3.heap.size b → New w.heap.size w'.heap.size b := fun b h => ⟨h.1, Nat.lt_of_lt_of_le h.2 (Nat.le_trans (unhide HS34) hb.size)⟩
        refine ⟨(207, g), [], .slice va nd1.length vc, .slice vb nd2.length vd, nd1, nd2, rfl, ⟨Nat.le_trans (unhide HT4).size hg, hgl⟩, rfl, ?_, ⟨(unhide HV1').stays RIf_kept hb, fun b h => up b (unhide HVB1' b h)⟩, NodesAt.mono up _ _ (NodesAt.keptP (KeptP.of_below hb) _ _ (unhide HN1')), ⟨(unhide HV2').stays RIf_kept hb, fun b h => up b (unhide HVB2' b h)⟩, NodesAt.mono up _ _ (NodesAt.keptP (KeptP.of_below hb) _ _ (unhide HN2')), rfl⟩
        rw [unhide HQ]
        exact hbk
      generalize maxS (ta.cost (knOf X.k.insts X.known) 0) (tb.cost (knOf X.k.insts X.known) 0) = mx at *
      generalize ta.cost (knOf X.k.insts X.known) 0 = ca at *
      generalize tb.cost (knOf X.k.insts X.known) 0 = cb at *
      clear HV1' HN1' HV2' HN2' e8 e9 b2' h0 hz
      refine (unhide HMA).mono ?_
      rintro e w5 ⟨rfl, hb5⟩
      have HMC := hide (unhide HMB w5 hb5)
      have HB5' := hide hb5
      clear hb5
      go_wp2_with fail
      refine (unhide HMC).mono ?_
      rintro e w6 ⟨rfl, hb6⟩
      have HB6 : Hid (Below w4.heap.size w4 w6) := (unhide HB5').trans (hb6.mono (unhide HB5').size)
      clear hb6
      by_cases hlt : ca < cb
      · have hmx : mx = cb := (unhide HMX).trans (if_pos hlt)
        subst hmx
        clear HMX
        go_wp2
        go_ret
        rw [unhide HF]
        have hb7 : Below w4.heap.size w4 (w6.alloc (.cells #[.int .i64 (1 + mx), .int .i64 q, .slice va nd1.length vc, .slice vb nd2.length vd] 209)) := (unhide HB6).alloc (unhide HB6).size _
        exact ⟨(207, w6.heap.size), rfl, unhide HNB _ _ (unhide HB6).size (blk_box _ _ _).lt (blk_box _ _ _) hb7, (unhide HS4).stays hb7, (unhide HT4).trans (But.of_below hb7), unhide HR2⟩
      · have hmx : mx = ca := (unhide HMX).trans (if_neg hlt)
        subst hmx
        clear HMX
        go_wp2
        go_ret
        rw [unhide HF]
        have hb7 : Below w4.heap.size w4 (w6.alloc (.cells #[.int .i64 (1 + mx), .int .i64 q, .slice va nd1.length vc, .slice vb nd2.length vd] 209)) := (unhide HB6).alloc (unhide HB6).size _
        exact ⟨(207, w6.heap.size), rfl, unhide HNB _ _ (unhide HB6).size (blk_box _ _ _).lt (blk_box _ _ _) hb7, (unhide HS4).stays hb7, (unhide HT4).trans (But.of_below hb7), unhide HR2⟩

end Go.Proofs.YtmglbkndjnflkaaGreatDoor
