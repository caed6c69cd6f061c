import Derived.Test.YtmglbkndjnflkaaGreatDoorMI15
namespace Go.Proofs.YtmglbkndjnflkaaGreatDoor
open Go.RowKit
set_option linter.unusedSimpArgs false
set_option linter.unusedVariables false

theorem stF_len {ks : List DClass} {k : DClass} {f : Nat} {s : DStm} {ss : List DStm} {H : List ByteArray} {d : Int} {i : PL} {r : List DStm} (h : stF ks k f s ss H d = some (i, r)) : r.length ≤ ss.length := by
  unfold stF at h
  split at h
  · cases h
  split at h
  · cases h
  split at h
  · split at h
    · cases h
    split at h
    · cases h
    rename_i a el r1 h5
    split at h
    · cases h
    rename_i b en r2 h6
    simp only [Option.some.injEq, Prod.mk.injEq] at h
    obtain ⟨_, rfl⟩ := h
    exact Nat.le_trans (brF_len h6) (brF_len h5)
  · split at h
    · cases h
    simp only [Option.some.injEq, Prod.mk.injEq] at h
    obtain ⟨_, rfl⟩ := h
    exact Nat.le_refl _
theorem glue_app (t i : PL) (o : Option (PL × List DStm)) : glue t (glue i o) = glue (t.app i) o := by
  cases o with
  | none => rfl
  | some p =>
    unfold glue
    simp only [Option.map_some, PL.app_assoc]

theorem BS.low {X : BD} (hE : BE X) {w w' : World} {H : List ByteArray} {nx : Nat} (h : BS X w H nx) (hb : Below X.lo w w') : BS X w' H nx := by
  obtain ⟨gv, g1, g2, g3⟩ := h.gl
  exact ⟨h.old.trans (hb.mono (by have := hE.nb; omega)), Nat.le_trans h.lo hb.size, h.nxl, h.bl.below hb hE.nb.2, h.hl.below hb hE.nh.2, gv, g1, g2, g3.below hb hE.ng.2⟩
set_option maxRecDepth 20000 in
set_option maxHeartbeats 4000000 in
theorem list_step (X : BD) (hE : BE X) (hkb : ∀ x, x ∈ X.known → 0 ≤ x ∧ x ≤ 400001) (f : Nat) (hL : ∀ g, g < f → ListDoes X g) : ListDoes X f := by
  intro H nx d w hS hf hd hd2 hH
  have HE := hide hE
  have hbl := hE.bl
  obtain ⟨ba, bc, hba⟩ := hE.cls.body.shape
  have HBA := hide hba
  have HBD := hide hE.cls.body
  have HST := hide (fun g (hg : g < f) nx' w' (h1 : BS X w' H nx') h2 (h3 : X.k.body.length - nx' < g) s sb so ov cv av hA => statement_ok X hE hkb g (hL g hg) H nx' d w' h1 h2 h3 hd hd2 hH s sb so ov cv av hA)
  have HS := hide hS
  have HF := hide hf
  have HLO := hide hS.lo
  have hnl := hS.nxl
  clear hL hkb hS hf hba hH hE
  generalize hR : listF X.ks X.k f (X.k.body.drop nx) H d = R at *
  have HR := hide hR
  clear hR
  go_enter Tryz.func98, Tryz.ntmps98
  go_wp2
  go_loopg [6] (X.k.body.length - nx) (fun g lv wr => ∃ (nx' f' : Nat) (t0 : PL) (n0 : List (TypeId × Nat)), nx' ≤ X.k.body.length ∧ g = X.k.body.length - nx' ∧ f' ≤ f ∧ X.k.body.length - nx' < f' ∧ OwnV elIf wr w.heap.size lv n0 ∧ NodesAt X (fun b => New w.heap.size wr.heap.size b ∧ lv.ownBlock ≠ some b) wr t0 n0 ∧ n0.length ≤ nx' ∧ BS X wr H nx' ∧ But (BSt X) w wr ∧ R = glue t0 (listF X.ks X.k f' (X.k.body.drop nx') H d))
  case atStart =>
    refine ⟨nx, f, .nil, [], hnl, rfl, Nat.le_refl _, unhide HF, OwnV.nil _ _, rfl, Nat.zero_le _, unhide HS, But.refl _ _, ?_⟩
    rw [← unhide HR]
    cases listF X.ks X.k f (X.k.body.drop nx) H d with
    | none => rfl
    | some p => rfl
  case round =>
    obtain ⟨m, f', t0, n0, hm, hg, hff, hfm, hown, hnd, hnl0, hbs, hbt, hRe⟩ := hrel
    rename World => wr
    obtain ⟨f1, rfl⟩ : ∃ g, f' = g + 1 := ⟨f' - 1, by omega⟩
    have HG := hide hg
    have HFM := hide hfm
    have HOW := hide hown
    have HND := hide hnd
    have HBS := hide hbs
    have HBT := hide hbt
    have HRE := hide hRe
    obtain ⟨b0, b1, b2, b3, p0, p1, p2, c1, c4, c6⟩ := hbs.cells (unhide HE)
    rw [unhide HBA] at c6
    obtain ⟨la, lc, hlv⟩ := hown.slice
    subst hlv
    have hn0 : n0.length ≤ 30000 := by omega
    clear hg hfm hown hnd hbs hbt hRe b2 b3 p1 p2 c1 c4
    by_cases hlt : m < X.k.body.length
    case neg =>
      have em : m = X.k.body.length := by omega
      subst em
      have e1 : decide ((X.k.body.length : Int) < (X.k.body.length : Int)) = false := decide_eq_false (by omega)
      have HRT : Hid (R = some (t0, [])) := by
        refine hide ?_
        rw [unhide HRE, List.drop_length]
        show some (t0.app .nil, []) = _
        rw [PL.app_nil]
      clear hlt
      go_wp2_with fail
      go_quiet ((fail))
      have HK1 : Hid (Below wr.heap.size wr (wr.drewN nq)) := below_dn _ _
      generalize wr.drewN nq = w1 at *
      go_wp2
      go_ret2
      rw [unhide HRT]
      exact ⟨_, n0, rfl, ⟨ifs_at ((unhide HOW).below (unhide HK1)) hn0, ((unhide HOW).below (unhide HK1)).lt⟩, NodesAt.mono (fun b h => ⟨h.1.1, Nat.lt_of_lt_of_le h.1.2 (unhide HK1).size⟩) _ _ (NodesAt.keptP (KeptP.of_below (unhide HK1)) _ _ (unhide HND)), by simpa using (unhide HBS).stays (unhide HK1), (unhide HBT).trans (But.of_below (unhide HK1)), by simp⟩
    have e1 : decide ((m : Int) < (X.k.body.length : Int)) = true := decide_eq_true (by omega)
    have hmI : (m : Int) < (X.k.body.length : Int) := by omega
    obtain ⟨sb, so0, ov, cv, av, ⟨bn, bc', hb'⟩, hSA⟩ := body_at (unhide HBD) m hlt
    have hbb := unhide HBA
    rw [hb'] at hbb
    simp only [Value.slice.injEq] at hbb
    obtain ⟨rfl, _, rfl⟩ := hbb
    have HSA := hide hSA
    have hdr : X.k.body.drop m = X.k.body[m] :: X.k.body.drop (m + 1) := List.drop_eq_getElem_cons hlt
    rw [hdr] at HRE
    have HDR := hide hdr
    generalize X.k.body[m] = s at *
    clear hSA hb' hdr
    go_wp2_with fail
    go_quiet ((fail))
    have HK1 : Hid (Below wr.heap.size wr (wr.drewN nq)) := below_dn _ _
    have HBS1 := hide ((unhide HBS).stays (unhide HK1))
    generalize wr.drewN nq = w1 at *
    obtain ⟨b0', b1', b2, b3, p0', p1, p2, c1, c4, c6'⟩ := (unhide HBS1).cells (unhide HE)
    rw [unhide HBA] at c6'
    clear b0 b1 p0 c6 b2 b3 p1 p2 c1 c4
    go_wp2_with fail
    go_quiet ((fail))
    have HK2 : Hid (Below wr.heap.size wr (w1.drewN nq)) := below_drewN (unhide HK1) _
    have HBS2 := hide ((unhide HBS).stays (unhide HK2))
    generalize w1.drewN nq = w2 at *
    have k0 := ((unhide HSA).stays rfl (unhide HBS2).old).c0
    clear b0' b1' p0' c6' HBS1 HK1
    by_cases h56 : s.kind = 5 ∨ s.kind = 6
    · have HRT : Hid (R = some (t0, s :: X.k.body.drop (m + 1))) := by
        refine hide ?_
        rw [unhide HRE, listF_stop _ _ _ _ _ _ _ h56]
        show some (t0.app .nil, _) = _
        rw [PL.app_nil]
      have hl : X.k.body.length - (s :: X.k.body.drop (m + 1)).length = m := by rw [List.length_cons, List.length_drop]; omega
      have HP : Hid (LsPost X H w R (.returned (.tuple #[.slice la n0.length lc, .bool true])) w2) := by
        refine hide ?_
        rw [unhide HRT]
        refine ⟨_, n0, rfl, ⟨ifs_at ((unhide HOW).below (unhide HK2)) hn0, ((unhide HOW).below (unhide HK2)).lt⟩, NodesAt.mono (fun b h => ⟨h.1.1, Nat.lt_of_lt_of_le h.1.2 (unhide HK2).size⟩) _ _ (NodesAt.keptP (KeptP.of_below (unhide HK2)) _ _ (unhide HND)), ?_, (unhide HBT).trans (But.of_below (unhide HK2)), ?_⟩
        · rw [hl]; exact unhide HBS2
        · rw [hl]; exact (unhide HDR).symm
      clear hl HRT
      rcases h56 with h5 | h6
      · rw [h5] at k0
        clear h5
        go_wp2
        go_ret2
        exact unhide HP
      · rw [h6] at k0
        clear h6
        go_wp2
        go_ret2
        exact unhide HP
    have e5 : (s.kind == 5) = false := by rw [beq_eq_false_iff_ne]; omega
    have e6 : (s.kind == 6) = false := by rw [beq_eq_false_iff_ne]; omega
    have HRO := hide ((unhide HRE).trans (by rw [listF_one _ _ _ _ _ _ _ h56]))
    obtain ⟨m1, m2, m3⟩ := (unhide HBS2).move (unhide HE) hlt
    have bz := (unhide HBS2).bl.free 1
    have b1 := ((unhide HBS2).cells (unhide HE)).b1
    have HSC := hide (unhide HST f1 (by omega) (m + 1) _ m1 m2 (by have := unhide HFM; omega) s sb (so0 + m * 6) ov cv av (unhide HSA))
    have HB3 : Hid (But (BSt X) wr (w2.setCell ⟨X.bb, 1, none⟩ (.int .i64 ((m : Int) + 1)))) := (But.of_below (unhide HK2)).trans m3
    have hmL : (m : Int) + 1 ≤ 30000 := by omega
    clear m1 m2 m3 h56 HRE
    generalize hst : stF X.ks X.k f1 s (X.k.body.drop (m + 1)) H d = o at *
    have HSL := hide hst
    clear hst
    go_wp2_with fail
    refine (unhide HSC).mono ?_
    cases o with
    | none =>
      rintro e w5 ⟨rfl, hb5⟩
      have HB5 := hide hb5
      have HRT : Hid (R = none) := unhide HRO
      clear hb5
      have hnn : ∀ w : World, (binOp .eql 175 .nilIface .nilIface).run Tryz.prog w = .ok (.bool true) w := fun _ => rfl
      go_wp2
      go_ret2
      rw [unhide HRT]
      exact ⟨rfl, unhide HB5⟩
    | some q =>
      obtain ⟨it, r⟩ := q
      rintro e w5 ⟨x, rfl, hx, hbs5, hbt5, hr5⟩
      have HRT : Hid (R = glue (t0.app it) (listF X.ks X.k f1 r H d)) := by
        refine hide ?_
        rw [← glue_app]
        exact unhide HRO
      have hrl : r.length ≤ X.k.body.length - (m + 1) := by
        have h9 := stF_len (unhide HSL)
        rwa [List.length_drop] at h9
      have hb35 : But (BSt X) wr w5 := (unhide HB3).trans hbt5
      have HO5 := hide ((unhide HOW).but hb35 (fun k hk => by have := ((unhide HE).inS k hk).2; have := unhide HLO; omega))
      have HX5 := hide hx
      have HW3 : Hid (wr.heap.size ≤ (w2.setCell ⟨X.bb, 1, none⟩ (.int .i64 ((m : Int) + 1))).heap.size) := (unhide HB3).size
      have HN5 := hide (NodesAt.keptP (hb35.keptP (fun k hk h => by have := ((unhide HE).inS k hk).2; have := h.1.1; have := unhide HLO; omega)) _ _ (unhide HND))
      have HBS5 := hide hbs5
      have HBT5 := hide ((unhide HBT).trans hb35)
      have HR5 := hide hr5
      have hnf : ∀ w : World, (binOp .eql 175 (.iface x.1 (.pointer (some ⟨x.2, 0, none⟩))) .nilIface).run Tryz.prog w = .ok (.bool false) w := fun _ => rfl
      have hbz : w.heap.size ≤ w5.heap.size := (unhide HBT5).size
      have hwr5 : wr.heap.size ≤ w5.heap.size := hb35.size
      have HA5 : Hid (Below w5.heap.size w5 (w5.alloc (.cells #[.iface x.1 (.pointer (some ⟨x.2, 0, none⟩))] 175))) := (Below.refl _ _).alloc (Nat.le_refl _) _
      have HO6 := hide ((unhide HO5).below (unhide HA5))
      clear hx hbs5 hbt5 hr5 hb35 HRO HO5
      go_wp2_with (at_builtin; go_must (refine wpList_append_oneN elIf _ rfl _ _ rfl w.heap.size _ n0 rfl (unhide HO6) w5.heap.size x rfl (fun j u hu => by rw [World.cell?_alloc_at _ _ _ _ rfl]; simpa [elIf] using hu) (by simp [elIf]; omega) (by simp; omega) ?_))
      intro v' w6 ho6 hg6 hn6
      have hlvw := (unhide HOW).lt
      have hblk : ∀ b, b < w5.heap.size → (Value.slice la n0.length lc).ownBlock ≠ some b → w6.heap[b]? = w5.heap[b]? := fun b hb hne => (hg6.block b (Nat.lt_of_lt_of_le hb (unhide HA5).size) (fun e => hne e.symm)).trans ((unhide HA5).block b hb)
      have hsz6 : w5.heap.size ≤ w6.heap.size := Nat.le_trans (unhide HA5).size hg6.size
      have hB6 : ∀ B, B ≤ w.heap.size → Below B w5 w6 := fun B hB => ⟨hg6.os.trans (unhide HA5).os, hg6.tape.trans (unhide HA5).tape, hg6.output.trans (unhide HA5).output, hsz6, fun k hk => hblk k (by omega) (fun e => by have := (hlvw k e).1; omega)⟩
      have HBS6 := hide ((unhide HBS5).low (unhide HE) (hB6 X.lo (unhide HLO)))
      have HBT6 : Hid (But (BSt X) w w6) := ⟨(hB6 _ (Nat.le_refl _)).os.trans (unhide HBT5).os, (hB6 _ (Nat.le_refl _)).tape.trans (unhide HBT5).tape, (hB6 _ (Nat.le_refl _)).output.trans (unhide HBT5).output, Nat.le_trans (unhide HBT5).size hsz6, fun k hk hn => ((hB6 _ (Nat.le_refl _)).block k hk).trans ((unhide HBT5).block k hk hn)⟩
      have hna : NodesAt X (fun b => New w.heap.size w6.heap.size b ∧ v'.ownBlock ≠ some b) w6 t0 n0 := by
        refine NodesAt.mono (fun b h => ⟨⟨h.1.1, by have := h.1.2; omega⟩, fun e => ?_⟩) _ _ (NodesAt.keptP ⟨hsz6, fun b h hb => hblk b hb h.2⟩ _ _ (unhide HN5))
        rcases hn6 b e with h9 | h9
        · exact h.2 h9
        · have := h.1.2
          omega
      have hnb : NodesAt X (fun b => New w.heap.size w6.heap.size b ∧ v'.ownBlock ≠ some b) w6 it [x] := by
        refine NodesAt.mono (fun b h => ⟨⟨by have := h.1; have := unhide HW3; have := (unhide HBT).size; omega, by have := h.2; omega⟩, fun e => ?_⟩) _ _ (NodesAt.keptP ⟨hsz6, fun b h hb => hblk b hb (fun e => by have := (hlvw b e).2; have := h.1; have := unhide HW3; omega)⟩ _ _ (unhide HX5))
        rcases hn6 b e with h9 | h9
        · have := (hlvw b h9).2
          have := h.1
          have := unhide HW3
          omega
        · have := h.2
          omega
      have HN6 := hide (NodesAt.app _ _ _ _ hna hnb)
      have HO7 := hide ho6
      obtain ⟨ga, gcap, hv'⟩ := ho6.slice
      subst hv'
      clear ho6 hg6 hn6 hlvw hblk hB6 hna hnb
      go_wp2
      go_roundg (X.k.body.length - (X.k.body.length - r.length))
      case measure => have := unhide HG; omega
      case rel => exact ⟨X.k.body.length - r.length, f1, t0.app it, n0 ++ [x], by omega, rfl, by omega, by have := unhide HFM; omega, unhide HO7, unhide HN6, by simp; omega, unhide HBS6, unhide HBT6, by rw [← unhide HR5]; exact unhide HRT⟩

theorem list_ok (X : BD) (hE : BE X) (hkb : ∀ x, x ∈ X.known → 0 ≤ x ∧ x ≤ 400001) (f : Nat) : ListDoes X f := by
  induction f using Nat.strongRecOn with
  | ind f ih => exact list_step X hE hkb f ih

end Go.Proofs.YtmglbkndjnflkaaGreatDoor
