import Derived.Test.YtlgeioedgaajoaaGreatDoorTI3
namespace Go.Proofs.YtlgeioedgaajoaaGreatDoor
open Go.RowKit
open Go.Shelf
set_option linter.unusedSimpArgs false
set_option linter.unusedVariables false

/-! ### The builder -/
/-- Behind what was given (w0) lies a builder at b that holds s. -/
structure St (w0 : World) (b : Nat) (s : ByteArray) (w : World) : Prop where
  old : Below w0.heap.size w0 w
  bld : Lib.IsBuilderF 51 5 w0.heap.size b (Lib.strCells s) w
abbrev BKeeps (b : Nat) (w w' : World) : Prop := Lib.OthersKept 5 (some b) w w'

theorem strCells_app (s t : ByteArray) : Lib.strCells (s ++ t) = Lib.strCells s ++ Lib.strCells t := by
  simp [Lib.strCells, ByteArray.data_append]
theorem kept_below {b : Nat} {w w' : World} (h : Below w.heap.size w w') : BKeeps b w w' := by
  intro k o hk _ _
  rw [h.block k (Array.getElem?_eq_some_iff.1 hk).1]
  exact hk
theorem bldAt_below {B b : Nat} {p : Value} {bs : List Value} {w w' : World} (h : Lib.BuilderAtF 51 5 B b p bs w) (hb : Below w.heap.size w w') : Lib.BuilderAtF 51 5 B b p bs w' := by
  have hk : ∀ k o, w.heap[k]? = some o → w'.heap[k]? = some o := fun k o ho => (hb.block k (Array.getElem?_eq_some_iff.1 ho).1).trans ho
  obtain ⟨h1, v, h2, ⟨h3, h4⟩, h5⟩ := h
  refine ⟨h1, v, hk _ _ h2, ⟨h3, ?_⟩, h5⟩
  rcases h4 with h4 | ⟨g, cap, cur, fz, q1, q2, q3, q4⟩
  · exact .inl h4
  · exact .inr ⟨g, cap, cur, fz, q1, q2, hk _ _ q3, q4⟩
theorem St.on {w0 w w' : World} {b : Nat} {s : ByteArray} (h : St w0 b s w) (hb : Below w.heap.size w w') : St w0 b s w' :=
  ⟨h.old.trans (hb.mono h.old.size), h.bld.elim (fun x => .inl (bldAt_below x hb)) (fun x => .inr (bldAt_below x hb))⟩
theorem St.blk {w0 w : World} {b : Nat} {s : ByteArray} (h : St w0 b s w) : ∃ p v, BlkAt w b 51 #[p, v] := by
  rcases h.bld with ⟨_, v, h2, _⟩ | ⟨_, v, h2, _⟩
  · exact ⟨_, v, h2⟩
  · exact ⟨_, v, h2⟩
theorem BlkAt.kept {w0 w w' : World} {b g : Nat} {s : ByteArray} {e : TypeId} {cs : Array Value} (h : BlkAt w g e cs) (hs : St w0 b s w) (hk : BKeeps b w w') (he : e ≠ 5 ∧ e ≠ 51) : BlkAt w' g e cs := by
  obtain ⟨p, v, hb⟩ := hs.blk
  refine hk g _ h (fun hgb => ?_) (fun c fz hc => ?_)
  · obtain rfl := Option.some.inj hgb
    unfold BlkAt at h hb
    rw [h] at hb
    injection hb with hb
    injection hb with _ hb _
    exact he.2 hb
  · injection hc with _ hc _
    exact he.1 hc

theorem writeString_ok {w0 w : World} {b : Nat} {s : ByteArray} (t : ByteArray) (h : St w0 b s w) (hlen : s.size + t.size ≤ 140737488355328) :
    Calls Tryz.prog 31 #[.pointer (some ⟨b, 0, none⟩), .string t] w fun e w' => e = .returned (.tuple #[.int .i64 t.size, .nilIface]) ∧ St w0 b (s ++ t) w' ∧ BKeeps b w w' := by
  refine Calls.mono (Any.Builder_WriteString_k { Tryz.lays156 with } Tryz.Builder_Extra_156 w0.heap.size b (Lib.strCells s) t w h.bld (by rw [Lib.strCells_length]; exact hlen) h.old.size) ?_
  rintro e w' ⟨rfl, h1, h2, h3⟩
  exact ⟨rfl, ⟨h.old.trans h2, .inr (by rw [strCells_app]; exact h1)⟩, h3⟩

/-! ### Parts -/
theorem weave_go (ts us : List ByteArray) (k : Nat) (hk : k < us.length) (ht : k < ts.length) : weave (ts.drop k) (us.drop k) = ts[k] ++ (us[k] ++ weave (ts.drop (k + 1)) (us.drop (k + 1))) := by
  rw [List.drop_eq_getElem_cons hk, List.drop_eq_getElem_cons ht]
  rfl
theorem weave_end (ts us : List ByteArray) (ht : ts.length = us.length + 1) : weave (ts.drop us.length) (us.drop us.length) = ts[us.length] := by
  rw [List.drop_eq_getElem_cons (show us.length < ts.length by omega), List.drop_length]
  rfl

theorem Begs.kept {w0 w w' : World} {b g : Nat} {s : ByteArray} {xs : List DItem} (h : Begs w g xs) (hs : St w0 b s w) (hk : BKeeps b w w') : Begs w' g xs := by
  obtain ⟨cs, h1, h2⟩ := h
  exact ⟨cs, h1.kept hs hk (by decide), h2⟩

theorem textsAt_cell {w : World} {g : Nat} {ts : List ByteArray} (h : TextsAt w g ts) (i : Nat) (hi : i < ts.length) : w.cell? ⟨g, i, none⟩ = some (.string ts[i]) := by
  unfold TextsAt at h
  simp [World.cell?, h, hi]

set_option maxRecDepth 20000 in
set_option maxHeartbeats 8000000 in
theorem writePart_ok (w0 : World) (b : Nat) (hE : Env w0) (xs : List DItem) (v : Value) (hv : SlAt 3 32 RItem 0 w0 v xs) (hit : ∀ t, t ∈ xs → itB t = true) (hl : xs.length ≤ 3000) (g : Nat) :
    ∀ (last : Nat) (b0 : Nat) (t : ByteArray) (w : World) (s : ByteArray), Ch xs b0 (last + 1) [t] → St w0 b s w → Begs w g xs → s.size + t.size ≤ 140737488355328 →
    Calls Tryz.prog 78 #[.pointer (some ⟨b, 0, none⟩), v, .slice (some ⟨g, 0, none⟩) xs.length xs.length, .int .i64 last] w fun e w' => e = .returned (.tuple #[]) ∧ St w0 b (s ++ t) w' ∧ BKeeps b w w' := by
  intro last
  induction last using Nat.strongRecOn with
  | _ last ih =>
    intro b0 t w s hch hst hbg hsz
    obtain ⟨hlt, us, hus, hul, htw⟩ := hch.last
    have HIH := hide ih
    have HV := hide hv
    obtain ⟨a, cap, rfl, _, hn, hx⟩ := hv
    unfold Len at hn
    obtain ⟨bb, oo, cs, rfl, _, hbb, hcs, hc0, hR⟩ := hx last hlt
    have hc : ∀ j (hj : j < cs.length), w.cell? ⟨bb, oo + last * 3 + j, none⟩ = some cs[j] := fun j hj => by rw [hst.old.cell (p := ⟨bb, _, none⟩) hbb]; exact hc0 j hj
    obtain ⟨rfl, hsn, ho, hvl⟩ := hR
    have c0 := hc 0 (by simp)
    have c1 := hc 1 (by simp)
    have c2 := hc 2 (by simp)
    simp only [Nat.mul_one, Nat.add_zero, List.getElem_cons_zero, List.getElem_cons_succ] at c0 c1 c2
    have hop := ((it_iff xs[last]).1 (hit _ (List.getElem_mem hlt))).1
    have hlenT := tsT_length xs[last] (by omega)
    have HC := hide (textsAround_ok xs[last] (hit _ (List.getElem_mem hlt)) w (hE.below hst.old hE.three))
    have hn3 : arN xs[last].op ≤ 3 := by have := ocI_bd xs[last].op; unfold arN; omega
    rw [← hul] at hlenT hn3
    unfold TextsOut at HC
    have HST := hide hst
    have HBG := hide hbg
    have HSZ := hide hsz
    have HUS := hide hus
    have HTW := hide htw
    have hw0 := hst.old.size
    clear hc hc0 hcs hsn ho hvl hx hch hst hbg hsz hus htw ih hop hul hit
    generalize htsd : tsT xs[last] = ts at *
    clear htsd
    generalize xs[last].op = op at *
    generalize xs[last].val = val at *
    generalize xs[last].name = nm at *
    go_enter Tryz.func78, Tryz.ntmps78
    go_wp2_with fail
    refine (unhide HC).mono ?_
    rintro e w1 ⟨g1, cap1, rfl, hg1, htx1, hb1⟩
    have HTX1 := hide htx1
    have HB1 := hide hb1
    have hs1 := hb1.size
    clear htx1 hb1 HC
    rw [hlenT]
    go_wp2_with (at_make; go_must (refine wpList_make_row w1 rfl _ _ 88 rfl 3 _ _ uInts iInt (by decide) _ us.length rfl rfl (by go_num) (by omega) ?_))
    intro w2 cs2 hrow2 hsz2 hb2
    have HR2 := hide hrow2
    have HS2 := hide hsz2
    have HB2 := hide hb2
    have hgw := (unhide HBG)
    obtain ⟨csb, hbg1, hbg2⟩ := unhide HBG
    have hglt := hbg1.lt
    have hne : g ≠ w1.heap.size := by omega
    have HG1 := hide hbg1
    have HG2 := hide hbg2
    have hg1lt : g1 < w1.heap.size := (Array.getElem?_eq_some_iff.1 (unhide HTX1)).1
    clear hrow2 hsz2 hb2 hbg1 hbg2 hgw
    go_wp2
    go_loopg [10, 11] us.length (fun gh en ii wr => ∃ (r m : Nat) (u1 u2 : List ByteArray), r ≤ us.length ∧ gh = r ∧ ii = .int .i64 ((r : Nat) - 1 : Int) ∧ en = .int .i64 ((m : Nat) - 1 : Int) ∧ us = u1 ++ u2 ∧ u1.length = r ∧ Ch xs b0 m u1 ∧ m ≤ last ∧ Below w1.heap.size w1 wr ∧
      ∃ cs, BlkAt wr w1.heap.size 3 cs ∧ cs.size = us.length ∧ ∀ p, r ≤ p → (hp : p < us.length) → ∃ q bq : Nat, cs[p]? = some (.int .i64 (q : Nat)) ∧ q < last ∧ Ch xs bq (q + 1) [us[p]])
    case atStart => exact ⟨us.length, last, us, [], Nat.le_refl _, rfl, by go_num, by go_num, by simp, rfl, unhide HUS, Nat.le_refl _, unhide HB2, cs2, unhide HR2, unhide HS2, fun p h1 h2 => by omega⟩
    case round =>
      obtain ⟨r, m, u1, u2, hr, hg, rfl, rfl, hsp, hu1, hch, hml, hbl, cs, hrow, hsz, hcs⟩ := hrel
      rename World => wN
      have HG := hide hg
      have HSP := hide hsp
      have HCH := hide hch
      have HBL := hide hbl
      have HROW := hide hrow
      have HCS := hide hcs
      clear hg hsp hch hbl hrow hcs
      have hw1N := (unhide HBL).size
      have HWN : Hid (Below w.heap.size w wN) := (unhide HB1).trans ((unhide HBL).mono hs1)
      by_cases hr0 : r = 0
      · subst hr0
        have e0 : u1 = [] := List.eq_nil_of_length_eq_zero hu1
        subst e0
        have HSTN := hide ((unhide HST).on (unhide HWN))
        have HTXN : Hid (TextsAt wN g1 ts) := ((unhide HBL).block g1 hg1lt).trans (unhide HTX1)
        have HGN := hide ((unhide HG1).below (unhide HWN) hglt)
        have HKN : Hid (BKeeps b w wN) := kept_below (unhide HWN)
        have HP0 : Hid (t = ByteArray.empty ++ weave (ts.drop 0) (us.drop 0)) := by
          show t = ByteArray.empty ++ weave (ts.drop 0) (us.drop 0)
          rw [ba_nil', List.drop_zero, List.drop_zero]
          exact unhide HTW
        clear hu1 HSP HCH HG
        go_wp2
        go_loopg [43] us.length (fun gh i wr => ∃ (k : Nat) (p : ByteArray), k ≤ us.length ∧ gh = us.length - k ∧ i = .int .i64 k ∧ t = p ++ weave (ts.drop k) (us.drop k) ∧ St w0 b (s ++ p) wr ∧ BKeeps b wN wr)
        case atStart => exact ⟨0, ByteArray.empty, Nat.zero_le _, by omega, rfl, unhide HP0, by rw [ba_nil]; exact unhide HSTN, Lib.OthersKept.refl _ _ _⟩
        case round =>
          obtain ⟨k, p, hk, hg, rfl, htp, hstk, hkp⟩ := hrel
          rename World => wK
          have HG := hide hg
          have HTP := hide htp
          have HSTK := hide hstk
          have HKP := hide hkp
          clear hg htp hstk hkp
          have HRK := hide ((unhide HROW).kept (unhide HSTN) (unhide HKP) (by decide))
          have HGK : Hid (Begs wK g xs) := ⟨csb, (unhide HGN).kept (unhide HSTN) (unhide HKP) (by decide), unhide HG2⟩
          have HTK : Hid (TextsAt wK g1 ts) := BlkAt.kept (w := wN) (unhide HTXN) (unhide HSTN) (unhide HKP) (by decide)
          have htk : k < ts.length := by omega
          have ct := textsAt_cell (unhide HTK) k htk
          by_cases hlt2 : k < us.length
          · obtain ⟨q, bq, hq1, hq2, hq3⟩ := unhide HCS k (Nat.zero_le _) hlt2
            have cq := (unhide HRK).cell hq1
            have HW := hide (weave_go ts us k hlt2 htk)
            have hz := congrArg ByteArray.size (unhide HTP)
            rw [unhide HW] at hz
            simp only [ba_size] at hz
            have hz0 := unhide HSZ
            have HC1 := hide (writeString_ok ts[k] (unhide HSTK) (by rw [ba_size]; omega))
            have HC2 : Hid (∀ w2, St w0 b (s ++ p ++ ts[k]) w2 → Begs w2 g xs → _) := fun w2 h1 h2 => unhide HIH q hq2 bq us[k] w2 (s ++ p ++ ts[k]) hq3 h1 h2 (by simp only [ba_size]; omega)
            have HT2 : Hid (t = (p ++ (ts[k] ++ us[k])) ++ weave (ts.drop (k + 1)) (us.drop (k + 1))) := by
              show t = (p ++ (ts[k] ++ us[k])) ++ weave (ts.drop (k + 1)) (us.drop (k + 1))
              rw [unhide HTP, unhide HW]
              simp only [ba_assoc]
            have HA : Hid (s ++ (p ++ (ts[k] ++ us[k])) = s ++ p ++ ts[k] ++ us[k]) := by
              show s ++ (p ++ (ts[k] ++ us[k])) = s ++ p ++ ts[k] ++ us[k]
              simp only [ba_assoc]
            clear hz hz0 HW hq1 hq3 HTP
            generalize hgt : ts[k] = tk at *
            generalize hgu : us[k] = uk at *
            clear hgt hgu
            go_wp2_with fail
            refine (unhide HC1).mono ?_
            rintro e w5 ⟨rfl, hst5, hk5⟩
            have HST5 := hide hst5
            have HK5 := hide hk5
            have HC3 := hide (unhide HC2 w5 hst5 ((unhide HGK).kept (unhide HSTK) hk5))
            clear hst5 hk5
            go_wp2_with fail
            refine (unhide HC3).mono ?_
            rintro e w6 ⟨rfl, hst6, hk6⟩
            have HST6 := hide hst6
            have HK6 := hide hk6
            clear hst6 hk6
            go_wp2
            go_roundg (us.length - (k + 1))
            case measure => have := unhide HG; omega
            case rel => exact ⟨k + 1, p ++ (tk ++ uk), by omega, rfl, by go_num, unhide HT2, by rw [unhide HA]; exact unhide HST6, ((unhide HKP).trans (unhide HK5)).trans (unhide HK6)⟩
          · have e : k = us.length := by omega
            subst e
            have HW := hide (weave_end ts us hlenT)
            have hz := congrArg ByteArray.size (unhide HTP)
            rw [unhide HW] at hz
            simp only [ba_size] at hz
            have hz0 := unhide HSZ
            have HC1 := hide (writeString_ok ts[us.length] (unhide HSTK) (by rw [ba_size]; omega))
            have HT2 : Hid (s ++ t = s ++ p ++ ts[us.length]) := by
              show s ++ t = s ++ p ++ ts[us.length]
              rw [unhide HTP, unhide HW]
              simp only [ba_assoc]
            clear hz hz0 HW HTP
            generalize hgt : ts[us.length] = tk at *
            clear hgt
            go_wp2_with fail
            refine (unhide HC1).mono ?_
            rintro e w5 ⟨rfl, hst5, hk5⟩
            have HST5 := hide hst5
            have HK5 := hide hk5
            clear hst5 hk5
            go_wp2
            go_end0
            exact ⟨rfl, by rw [unhide HT2]; exact unhide HST5, ((unhide HKN).trans (unhide HKP)).trans (unhide HK5)⟩
      · obtain ⟨p, rfl⟩ : ∃ p, r = p + 1 := ⟨r - 1, by omega⟩
        obtain ⟨m1, v1, v2, e1, hv2, d1, d2⟩ := (unhide HCH).split 1 (by omega)
        obtain ⟨_, q, _, _, _, hq, _, _, _, _, _⟩ := d2.snoc_inv (n := 0) hv2
        subst hq
        match v2, hv2 with
        | [x2], _ =>
          have hm1 := d2.le
          have HD1 := hide d1
          have HD2 := hide d2
          have hv1 : v1.length = p := by have := congrArg List.length e1; simp at this; omega
          obtain ⟨b2, s2, hbb2, hcell⟩ := unhide HG2 q (by omega)
          have hmm : b2 = m1 := (Ch.one _ _ _ _ _ hbb2 (unhide HD2) rfl).1
          subst hmm
          have HGN := hide ((unhide HG1).below (unhide HWN) hglt)
          have cq := (unhide HGN).cell hcell
          have hps : p < cs.size := by rw [hsz]; omega
          have cp := (unhide HROW).cell (i := p) (v := cs[p]) (by simp [hps])
          have fp := (unhide HROW).free p
          have hpu : p < us.length := by omega
          have HE1 : Hid (us = v1 ++ ([x2] ++ u2)) := by
            show us = v1 ++ ([x2] ++ u2)
            rw [unhide HSP, e1, List.append_assoc]
          have hxu : us[p] = x2 := by
            have : us[p]? = some x2 := by
              rw [unhide HE1, List.getElem?_append_right (by omega), hv1]
              simp
            simpa [hpu] using this
          have HCZ : Hid (∀ p', p ≤ p' → (hp : p' < us.length) → ∃ q' bq : Nat, (cs.setIfInBounds p (.int .i64 (q : Nat)))[p']? = some (.int .i64 (q' : Nat)) ∧ q' < last ∧ Ch xs bq (q' + 1) [us[p']]) := by
            show ∀ p', p ≤ p' → (hp : p' < us.length) → ∃ q' bq : Nat, (cs.setIfInBounds p (.int .i64 (q : Nat)))[p']? = some (.int .i64 (q' : Nat)) ∧ q' < last ∧ Ch xs bq (q' + 1) [us[p']]
            intro p' h1 h2
            by_cases hpp : p' = p
            · subst hpp
              exact ⟨q, b2, by simp [hps], by omega, by rw [hxu]; exact unhide HD2⟩
            · obtain ⟨q', bq, r1, r2, r3⟩ := unhide HCS p' (by omega) h2
              exact ⟨q', bq, by rw [Array.getElem?_setIfInBounds_ne (by omega)]; exact r1, r2, r3⟩
          have HSS : Hid ((cs.setIfInBounds p (.int .i64 (q : Nat))).size = us.length) := by
            show (cs.setIfInBounds p (.int .i64 (q : Nat))).size = us.length
            rw [Array.size_setIfInBounds]
            exact hsz
          clear e1 d1 d2 hbb2 hcell hxu HCH HSP
          generalize cs[p] = old at *
          go_wp2
          go_roundg p
          case measure => have := unhide HG; omega
          case rel => exact ⟨p, b2, v1, [x2] ++ u2, by omega, rfl, by go_num, by go_num, unhide HE1, hv1, unhide HD1, by omega, (unhide HBL).setCell (Nat.le_refl _) _, _, (unhide HROW).set p _, unhide HSS, unhide HCZ⟩

end Go.Proofs.YtlgeioedgaajoaaGreatDoor
