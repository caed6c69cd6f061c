import Derived.Test.YtmglbkndjnflkaaGreatDoorPI1
namespace Go.Proofs.YtmglbkndjnflkaaGreatDoor
open Go.RowKit
open Go.Shelf
set_option linter.unusedSimpArgs false
set_option linter.unusedVariables false

/-! ### The builder -/
/-- Behind what was given (w0) lies a builder at b that holds s. -/
structure St (w0 : World) (b : Nat) (s : ByteArray) (w : World) : Prop where
  old : Below w0.heap.size w0 w
  bld : Lib.IsBuilderF 53 5 w0.heap.size b (Lib.strCells s) w
abbrev BKeeps (b : Nat) (w w' : World) : Prop := Lib.OthersKept 5 (some b) w w'
theorem kept_below {b : Nat} {w w' : World} (h : Below w.heap.size w w') : BKeeps b w w' := by
  intro k o hk _ _
  rw [h.block k (Array.getElem?_eq_some_iff.1 hk).1]
  exact hk
theorem bldAt_below {B b : Nat} {p : Value} {bs : List Value} {w w' : World} (h : Lib.BuilderAtF 53 5 B b p bs w) (hb : Below w.heap.size w w') : Lib.BuilderAtF 53 5 B b p bs w' := by
  have hk : ∀ k o, w.heap[k]? = some o → w'.heap[k]? = some o := fun k o ho => (hb.block k (Array.getElem?_eq_some_iff.1 ho).1).trans ho
  obtain ⟨h1, v, h2, ⟨h3, h4⟩, h5⟩ := h
  refine ⟨h1, v, hk _ _ h2, ⟨h3, ?_⟩, h5⟩
  rcases h4 with h4 | ⟨g, cap, cur, fz, q1, q2, q3, q4⟩
  · exact .inl h4
  · exact .inr ⟨g, cap, cur, fz, q1, q2, hk _ _ q3, q4⟩
theorem St.on {w0 w w' : World} {b : Nat} {s : ByteArray} (h : St w0 b s w) (hb : Below w.heap.size w w') : St w0 b s w' :=
  ⟨h.old.trans (hb.mono h.old.size), h.bld.elim (fun x => .inl (bldAt_below x hb)) (fun x => .inr (bldAt_below x hb))⟩
theorem St.blk {w0 w : World} {b : Nat} {s : ByteArray} (h : St w0 b s w) : ∃ p v, BlkAt w b 53 #[p, v] := by
  rcases h.bld with ⟨_, v, h2, _⟩ | ⟨_, v, h2, _⟩
  · exact ⟨_, v, h2⟩
  · exact ⟨_, v, h2⟩
theorem BlkAt.kept {w0 w w' : World} {b g : Nat} {s : ByteArray} {e : TypeId} {cs : Array Value} (h : BlkAt w g e cs) (hs : St w0 b s w) (hk : BKeeps b w w') (he : e ≠ 5 ∧ e ≠ 53) : BlkAt w' g e cs := by
  obtain ⟨p, v, hb⟩ := hs.blk
  refine hk g _ h (fun hgb => ?_) (fun c fz hc => ?_)
  · obtain rfl := Option.some.inj hgb
    unfold BlkAt at h hb
    rw [h] at hb
    injection hb with hb
    injection hb with _ hb _
    exact he.2 hb
  · injection hc with _ hc _
    exact he.1 hc
theorem OwnV.keptB {w0 w w' : World} {b base : Nat} {s : ByteArray} {v : Value} {ps : List ByteArray} (h : OwnV elStr w base v ps) (hs : St w0 b s w) (hk : BKeeps b w w') : OwnV elStr w' base v ps := by
  obtain ⟨h1, h2⟩ := h
  refine ⟨h1, ?_⟩
  rcases h2 with h2 | ⟨g, cap, cur, rfl, hb, hh, r⟩
  · exact Or.inl h2
  · have h9 : BlkAt w g elStr.T cur := hh
    exact Or.inr ⟨g, cap, cur, rfl, hb, h9.kept hs hk (by decide), r⟩
theorem writeString_ok {w0 w : World} {b : Nat} {s : ByteArray} (t : ByteArray) (h : St w0 b s w) (hlen : s.size + t.size ≤ 140737488355328) :
    Calls Tryz.prog 52 #[.pointer (some ⟨b, 0, none⟩), .string t] w fun e w' => e = .returned (.tuple #[.int .i64 t.size, .nilIface]) ∧ St w0 b (s ++ t) w' ∧ BKeeps b w w' := by
  refine Calls.mono (Any.Builder_WriteString_k Tryz.lays166 Tryz.pmExtra w0.heap.size b (Lib.strCells s) t w h.bld (by rw [Lib.strCells_length]; exact hlen) h.old.size) ?_
  rintro e w' ⟨rfl, h1, h2, h3⟩
  exact ⟨rfl, ⟨h.old.trans h2, .inr (by rw [strCells_appP]; exact h1)⟩, h3⟩
theorem writeByte_ok {w0 w : World} {b : Nat} {s : ByteArray} (t : ByteArray) (c : Int) (hc : Lib.strCells t = [.int .u8 c]) (h : St w0 b s w) (hlen : s.size + 1 ≤ 140737488355328) :
    Calls Tryz.prog 51 #[.pointer (some ⟨b, 0, none⟩), .int .u8 c] w fun e w' => e = .returned .nilIface ∧ St w0 b (s ++ t) w' ∧ BKeeps b w w' := by
  refine Calls.mono (Any.Builder_WriteByte_k Tryz.lays167 Tryz.pmExtra w0.heap.size b (Lib.strCells s) c w h.bld (by rw [Lib.strCells_length]; exact hlen) h.old.size) ?_
  rintro e w' ⟨rfl, h1, h2, h3⟩
  exact ⟨rfl, ⟨h.old.trans h2, .inr (by rw [strCells_appP, hc]; exact h1)⟩, h3⟩

theorem jn_take (ps : List ByteArray) (q : Nat) (h : q < ps.length) : jnT Lsp (ps.take (q + 1)) = jnT Lsp (ps.take q) ++ ((if q = 0 then ByteArray.empty else Lsp) ++ ps[q]) := by
  by_cases e : q = 0
  · subst e
    rw [List.take_succ_eq_append_getElem h, List.take_zero, List.nil_append, jnT_one, jnT_nil, if_pos rfl, ba_nil', ba_nil']
  · rw [jnT_step _ _ _ h (by omega), if_neg e, ba_assoc]
theorem jn_tsz (ps : List ByteArray) (q : Nat) : (jnT Lsp (ps.take q)).size ≤ lsz ps := by
  have h1 := lnP_sz (ps.take q)
  unfold lnP at h1
  have h2 : lsz ps = lsz (ps.take q) + lsz (ps.drop q) := by rw [← lsz_app, List.take_append_drop]
  omega
def WrPost (w0 : World) (b : Nat) (s : ByteArray) (w : World) (e : Ending) (w' : World) : Prop := e = .returned (.tuple #[]) ∧ St w0 b s w' ∧ BKeeps b w w'

set_option maxHeartbeats 2000000 in
theorem writeLine_ok (w0 : World) (b base : Nat) (ps : List ByteArray) (v : Value) (w : World) (s : ByteArray) (hst : St w0 b s w) (ho : OwnV elStr w base v ps) (hs : s.size ≤ 1000000000) (hp : lsz ps ≤ 200000000) :
    Calls Tryz.prog 27 #[.pointer (some ⟨b, 0, none⟩), v] w (WrPost w0 b (s ++ (lnP ps ++ Wnl)) w) := by
  have HLN : Hid (lnP ps = jnT Lsp (ps.take ps.length)) := by
    refine hide ?_
    rw [List.take_length]
    rfl
  have HTK := hide (jn_take ps)
  have HTZ := hide (jn_tsz ps)
  have HMEM := hide (lsz_mem ps)
  have hpl := lsz_len ps
  have HST := hide hst
  have HOW := hide ho
  obtain ⟨va, vc, rfl⟩ := ho.slice
  generalize lnP ps = ln at *
  clear hst ho
  go_enter Tryz.func27, Tryz.ntmps27
  go_wp2
  go_loopg [8] ps.length (fun gh ix wr => ∃ (q : Nat) (t : ByteArray), q ≤ ps.length ∧ gh = ps.length - q ∧ ix = .int .i64 q ∧ Hid (t = s ++ jnT Lsp (ps.take q)) ∧ Hid (St w0 b t wr) ∧ Hid (BKeeps b w wr) ∧ Hid (OwnV elStr wr base (.slice va ps.length vc) ps))
  case atStart => exact ⟨0, s, Nat.zero_le _, by omega, rfl, (by refine hide ?_; rw [List.take_zero, jnT_nil, ba_nil]), HST, Lib.OthersKept.refl _ _ _, HOW⟩
  case round =>
    obtain ⟨q, t, hq, hg, rfl, HT, HS, HK, HO⟩ := hrel
    have HG := hide hg
    have htz : t.size ≤ 1200000000 := by
      have h1 := unhide HTZ q
      rw [unhide HT, ba_size]
      omega
    clear hg
    by_cases hlt : q < ps.length
    · have hsl := ps_at (unhide HO) hp
      obtain ⟨_, _, hve, _, _, hex⟩ := hsl
      simp only [Value.slice.injEq] at hve
      obtain ⟨rfl, _, rfl⟩ := hve
      obtain ⟨pb, po, cs, rfl, _, hb, hcs, hc, ⟨rfl, _⟩⟩ := hex q hlt
      have z0 : wr.cell? ⟨pb, po + q, none⟩ = some (.string ps[q]) := by
        have h0 := hc 0 (by simp)
        rw [Nat.mul_one, Nat.add_zero] at h0
        exact h0
      have hpz := unhide HMEM ps[q] (List.getElem_mem hlt)
      have hltI : (q : Int) < (ps.length : Int) := by omega
      have HTQ : Hid (s ++ jnT Lsp (ps.take (q + 1)) = t ++ ((if q = 0 then ByteArray.empty else Lsp) ++ ps[q])) := by
        refine hide ?_
        rw [unhide HTK q hlt, unhide HT, ba_assoc]
      clear hex hc hcs
      generalize ps[q] = x at *
      by_cases hq0 : q = 0
      · rw [if_pos hq0, ba_nil'] at HTQ
        have f1 : decide (0 < (q : Int)) = false := decide_eq_false (by omega)
        have f2 : decide (0 < q) = false := decide_eq_false (by omega)
        have HC := hide (writeString_ok x (unhide HS) (by omega))
        have HQ0 := hide hq0
        clear hq0
        go_wp2_with fail
        refine (unhide HC).mono ?_
        rintro e w2 ⟨rfl, hst2, hk2⟩
        have HO2 := hide ((unhide HO).keptB (unhide HS) hk2)
        have HS2 := hide hst2
        have HK2 := hide ((unhide HK).trans hk2)
        clear hst2 hk2
        go_wp2
        go_roundg (ps.length - (q + 1))
        case measure => have := unhide HG; omega
        case rel => exact ⟨q + 1, t ++ x, by omega, rfl, by go_num, hide (unhide HTQ).symm, HS2, HK2, HO2⟩
      · rw [if_neg hq0] at HTQ
        have f1 : decide (0 < (q : Int)) = true := decide_eq_true (by omega)
        have f2 : decide (0 < q) = true := decide_eq_true (by omega)
        have HC := hide (writeByte_ok Lsp 32 rfl (unhide HS) (by omega))
        have HQ0 := hide hq0
        clear hq0
        go_wp2_with fail
        refine (unhide HC).mono ?_
        rintro e w2 ⟨rfl, hst2, hk2⟩
        have HO2 := hide ((unhide HO).keptB (unhide HS) hk2)
        have HS2 := hide hst2
        have HK2 := hide ((unhide HK).trans hk2)
        have HC2 := hide (writeString_ok x hst2 (by rw [ba_size]; have : Lsp.size = 1 := rfl; omega))
        clear hst2 hk2
        go_wp2_with fail
        refine (unhide HC2).mono ?_
        rintro e w3 ⟨rfl, hst3, hk3⟩
        have HO3 := hide ((unhide HO2).keptB (unhide HS2) hk3)
        have HS3 := hide hst3
        have HK3 := hide ((unhide HK2).trans hk3)
        clear hst3 hk3
        go_wp2
        go_roundg (ps.length - (q + 1))
        case measure => have := unhide HG; omega
        case rel => exact ⟨q + 1, t ++ Lsp ++ x, by omega, rfl, by go_num, (by refine hide ?_; rw [unhide HTQ, ba_assoc]), HS3, HK3, HO3⟩
    · have e : q = ps.length := by omega
      have HTE : Hid (t ++ Wnl = s ++ (ln ++ Wnl)) := by
        refine hide ?_
        rw [unhide HT, unhide HLN, e, ba_assoc]
      have HC := hide (writeByte_ok Wnl 10 rfl (unhide HS) (by omega))
      clear e
      go_wp2_with fail
      refine (unhide HC).mono ?_
      rintro e w2 ⟨rfl, hst2, hk2⟩
      rw [unhide HTE] at hst2
      have HS2 := hide hst2
      have HK2 := hide ((unhide HK).trans hk2)
      clear hst2 hk2
      go_wp2
      go_end0
      exact ⟨rfl, unhide HS2, unhide HK2⟩

end Go.Proofs.YtmglbkndjnflkaaGreatDoor
namespace Go.Proofs.YtmglbkndjnflkaaGreatDoor
open Go.RowKit
open Go.Shelf
set_option linter.unusedSimpArgs false
set_option linter.unusedVariables false

/-- Lines written so far, beside a class in its box. -/
structure CI (w0 w : World) (b cb : Nat) (cells : Array Value) (s : ByteArray) (wr : World) (ls : List ByteArray) : Prop where
  st : St w0 b (s ++ txL ls) wr
  blk : BlkAt wr cb 40 cells
  kp : BKeeps b w wr
theorem CI.on {w0 w wr w1 : World} {b cb : Nat} {cells : Array Value} {s : ByteArray} {ls : List ByteArray} (h : CI w0 w b cb cells s wr ls) (hb : Below wr.heap.size wr w1) : CI w0 w b cb cells s w1 ls :=
  ⟨h.st.on hb, h.blk.below hb h.blk.lt, h.kp.trans (kept_below hb)⟩
theorem CI.app {w0 w wr w2 : World} {b cb : Nat} {cells : Array Value} {s ln : ByteArray} {ls : List ByteArray} (h : CI w0 w b cb cells s wr ls) (hs : St w0 b (s ++ txL ls ++ (ln ++ Wnl)) w2) (hk : BKeeps b wr w2) : CI w0 w b cb cells s w2 (ls ++ [ln]) := by
  refine ⟨?_, h.blk.kept h.st hk (by decide), h.kp.trans hk⟩
  rw [txL_app, txL_one, ← ba_assoc]
  exact hs
theorem lsz_mtake {α : Type} (f : α → ByteArray) (A : List ByteArray) (xs : List α) (q : Nat) : lsz (A ++ (xs.take q).map f) ≤ lsz A + lsz (xs.map f) := by
  have h2 : lsz (xs.map f) = lsz ((xs.take q).map f) + lsz ((xs.drop q).map f) := by rw [← lsz_app, ← List.map_append, List.take_append_drop]
  rw [lsz_app]
  omega
theorem st_sz (s : ByteArray) (ls : List ByteArray) : (s ++ txL ls).size = s.size + lsz ls := by rw [ba_size, txL_size]

theorem cls_le (ks : List DClass) (k : DClass) (h : k ∈ ks) : lsz (clsL ks k) ≤ lsz (machL ks) := by
  have : ∀ l : List DClass, k ∈ l → lsz (clsL ks k) ≤ lsz (l.flatMap (clsL ks)) := by
    intro l hl
    induction l with
    | nil => cases hl
    | cons y l ih =>
      rw [List.flatMap_cons, lsz_app]
      rcases List.mem_cons.1 hl with rfl | hl
      · omega
      · have := ih hl
        omega
  exact this ks h

set_option maxRecDepth 20000 in
set_option maxHeartbeats 16000000 in
theorem writeClass_ok (w0 : World) (b : Nat) (hE : Env w0) (ks : List DClass) (k : DClass) (allv : Value) (hall : SlAt 7 160 RClass 0 w0 allv ks) (hkm : k ∈ ks) (hpr : PrOK ks) (hwst : ∀ s, s ∈ k.body → wStm s ≤ 1048576) (cs0 : List Value) (hR0 : RClass 0 w0 cs0 k) (w : World) (s : ByteArray) (hst : St w0 b s w) (hs : s.size ≤ 300000000) :
    Calls Tryz.prog 16 #[.pointer (some ⟨b, 0, none⟩), .agg cs0.toArray, allv] w (WrPost w0 b (s ++ txL (clsL ks k)) w) := by
  have hcl := hpr.cls _ hkm
  have hln := hpr.ln _ hkm
  have hnm := hpr.nm _ hkm
  have hlen := hpr.len _ hkm
  have hfew := hcl.few
  have htot : lsz (clsL ks k) ≤ 200000000 := Nat.le_trans (cls_le ks k hkm) hpr.all
  have HEN : Hid (∀ w1, Below w0.heap.size w0 w1 → Env w1) := fun w1 hb => hE.below hb hE.three
  obtain ⟨nm, ins, outs, locs, mems, insts, body⟩ := k
  obtain ⟨f1, f2, f3, f4, f5, f6, rfl, hnl, q1, q2, q3, q4, q5, q6⟩ := hR0
  simp only at hnl q1 q2 q3 q4 q5 q6 hwst
  obtain ⟨b1, c1, rfl⟩ := q1.shape
  obtain ⟨b2, c2, rfl⟩ := q2.shape
  obtain ⟨b3, c3, rfl⟩ := q3.shape
  obtain ⟨b4, c4, rfl⟩ := q4.shape
  obtain ⟨b5, c5, rfl⟩ := q5.shape
  obtain ⟨b6, c6, rfl⟩ := q6.shape
  obtain ⟨aa, ac, rfl⟩ := hall.shape
  have hkl : ks.length ≤ 140737488355328 := by
    obtain ⟨_, _, _, _, h, _⟩ := hall
    exact h
  obtain ⟨_, _, hve, _, _, hx⟩ := hall
  simp only [Value.slice.injEq] at hve
  obtain ⟨rfl, _, rfl⟩ := hve
  have HX := hide hx
  have HS1 := hide q1
  have HS2 := hide q2
  have HS3 := hide q3
  have HS4 := hide q4
  have HS5 := hide q5
  have HS6 := hide q6
  have HNM1 := hide hnm.2.1
  have HNM2 := hide hnm.2.2.1
  have HNM3 := hide hnm.2.2.2
  have HTYS1 := hide hcl.ty.1
  have HTYS2 := hide hcl.ty.2
  have HCL := hide hcl
  have HLNS := hide hln
  have HWST := hide hwst
  have hnz := hnm.1
  simp only at hnz hlen hfew
  obtain ⟨hl1, hl2, hl3, hl6⟩ := hlen
  obtain ⟨hl4, hl5⟩ := hfew
  have HB0 : Hid (CI w0 w b w.heap.size #[.string nm, .slice b1 ins.length c1, .slice b2 outs.length c2, .slice b3 locs.length c3, .slice b4 mems.length c4, .slice b5 insts.length c5, .slice b6 body.length c6] s ((w.alloc (.cells #[.string nm, .slice b1 ins.length c1, .slice b2 outs.length c2, .slice b3 locs.length c3, .slice b4 mems.length c4, .slice b5 insts.length c5, .slice b6 body.length c6] 40)).alloc (.cells #[.string ⟨#[99, 108, 97, 115, 115]⟩, .string nm] 9)) ([])) := by
    have hb8 := ((Below.refl w.heap.size w).alloc (Nat.le_refl _) (.cells #[.string nm, .slice b1 ins.length c1, .slice b2 outs.length c2, .slice b3 locs.length c3, .slice b4 mems.length c4, .slice b5 insts.length c5, .slice b6 body.length c6] 40)).alloc (by simp) (.cells #[.string ⟨#[99, 108, 97, 115, 115]⟩, .string nm] 9)
    refine hide ⟨?_, ?_, kept_below hb8⟩
    · rw [txL, ba_nil]
      exact hst.on hb8
    · exact (blk_box w #[.string nm, .slice b1 ins.length c1, .slice b2 outs.length c2, .slice b3 locs.length c3, .slice b4 mems.length c4, .slice b5 insts.length c5, .slice b6 body.length c6] 40).below ((Below.refl (w.heap.size + 1) _).alloc (by simp) _) (Nat.lt_succ_self _)
  have HM := own_made (w.alloc (.cells #[.string nm, .slice b1 ins.length c1, .slice b2 outs.length c2, .slice b3 locs.length c3, .slice b4 mems.length c4, .slice b5 insts.length c5, .slice b6 body.length c6] 40)) 0 [⟨#[99, 108, 97, 115, 115]⟩, nm] _ 2 (Nat.zero_le _) rfl rfl (by simp)
  rw [World.size_alloc] at HM
  have HC := hide (writeLine_ok w0 b 0 [⟨#[99, 108, 97, 115, 115]⟩, nm] _ _ _ (unhide HB0).st HM (by rw [st_sz]; have z0 : lsz [] = 0 := rfl; omega) (by simp only [lsz_cons]; have z0 : lsz [] = 0 := rfl; have z9 : (⟨#[99, 108, 97, 115, 115]⟩ : ByteArray).size = 5 := rfl; omega))
  have HNALL : Hid (lsz ([] ++ [lnP [⟨#[99, 108, 97, 115, 115]⟩, nm]]) + lsz (ins.map (fun s : DSlot => lnP [Win, s.name, tyT s.type])) + lsz (outs.map (fun s : DSlot => lnP [Wout, s.name, tyT s.type])) + lsz (locs.map (fun x : ByteArray => lnP [Wloc, x])) + lsz (mems.map (fun v : Int => lnP [Wmem, dcT v])) + lsz (insts.map (fun g : Int => lnP [Wuse, nmAt ks g])) + lsz (body.map (fun s : DStm => lnP (stmP s))) ≤ 200000000) := by
    refine hide ?_
    unfold clsL at htot
    simp only [lsz_app] at htot ⊢
    have z0 : lsz [] = 0 := rfl
    rw [z0, Nat.zero_add]
    have e9 : lsz [lnP [⟨#[99, 108, 97, 115, 115]⟩, nm]] = lsz [lnP [Wclass, nm]] := rfl
    omega
  obtain ⟨TX, hTX⟩ : ∃ TX, TX = txL (clsL ks ⟨nm, ins, outs, locs, mems, insts, body⟩) := ⟨_, rfl⟩
  have HTX := hide hTX.symm
  rw [← hTX]
  clear q1 q2 q3 q4 q5 q6 hx hcl hln hnl hst HM htot hkm hpr hnm hE hwst hTX
  go_enter Tryz.func16, Tryz.ntmps16
  go_wp2_with fail
  refine (unhide HC).mono ?_
  rintro e w2 ⟨rfl, hst2, hk2⟩
  have HLa := hide ((unhide HB0).app hst2 hk2)
  obtain ⟨A1, hA1⟩ : ∃ A1, A1 = [] ++ [lnP [⟨#[99, 108, 97, 115, 115]⟩, nm]] := ⟨_, rfl⟩
  rw [← hA1] at HLa HNALL
  have HA1 := hide hA1
  have HLn := HLa
  have HN1 : Hid (lsz A1 + lsz (ins.map (fun s : DSlot => lnP [Win, s.name, tyT s.type])) ≤ 200000000) := by
    refine hide ?_
    have h1 := unhide HNALL
    omega
  have k1 : w2.cell? ⟨w.heap.size, 1, none⟩ = some (.slice b1 ins.length c1) := (unhide HLn).blk.cell (v := .slice b1 ins.length c1) rfl
  clear hst2 hk2 hA1 HC HB0
  go_wp2
  go_loopg [26] ins.length (fun gh ix wr => ∃ (q : Nat), q ≤ ins.length ∧ gh = ins.length - q ∧ ix = .int .i64 q ∧ Hid (CI w0 w b w.heap.size #[.string nm, .slice b1 ins.length c1, .slice b2 outs.length c2, .slice b3 locs.length c3, .slice b4 mems.length c4, .slice b5 insts.length c5, .slice b6 body.length c6] s wr (A1 ++ (ins.take q).map (fun s : DSlot => lnP [Win, s.name, tyT s.type]))))
  case atStart => exact ⟨0, Nat.zero_le _, by omega, rfl, (by rw [List.take_zero, List.map_nil, List.append_nil]; exact HLn)⟩
  case round =>
    obtain ⟨q, hq, hg, rfl, HL⟩ := hrel
    have HG := hide hg
    clear hg
    by_cases hlt : q < ins.length
    · have hbw := (unhide HL).st.old
      obtain ⟨_, _, hve, _, _, hex⟩ := unhide HS1
      simp only [Value.slice.injEq] at hve
      obtain ⟨rfl, _, rfl⟩ := hve
      obtain ⟨b', o, cs, rfl, _, hb, hcs, hc, hR⟩ := hex q hlt
      have hc : ∀ j (hj : j < cs.length), wr.cell? ⟨b', o + q * 2 + j, none⟩ = some cs[j] := fun j hj => by rw [hbw.cell (p := ⟨b', _, none⟩) hb]; exact hc j hj
      obtain ⟨rfl, hsn, hty⟩ := hR
      have z0 := hc 0 (by simp)
      have z1 := hc 1 (by simp)
      simp only [Nat.mul_one, Nat.add_zero, List.getElem_cons_zero, List.getElem_cons_succ] at z0 z1
      have hltI : (q : Int) < (ins.length : Int) := by omega
      have HT := hide (map_take (fun s : DSlot => lnP [Win, s.name, tyT s.type]) (A1) ins q hlt)
      have HLZ : Hid (lsz (A1 ++ (ins.take q).map (fun s : DSlot => lnP [Win, s.name, tyT s.type])) ≤ 200000000) := by
        refine hide ?_
        have h8 := lsz_mtake (fun s : DSlot => lnP [Win, s.name, tyT s.type]) (A1) ins q
        have := unhide HN1
        omega
      have hmem := List.getElem_mem hlt
      clear hc hcs hex
      generalize A1 ++ (ins.take q).map (fun s : DSlot => lnP [Win, s.name, tyT s.type]) = pre at HL HT HLZ
      have HNS := hide (unhide HNM1 _ hmem)
      have hty2 := unhide HTYS1 _ hmem
      have hzt := tyT_sz ins[q].type
      have HTY := hide (typeText_ok ins[q].type · hty2)
      generalize tyT ins[q].type = tx at *
      generalize ins[q] = sl at *
      obtain ⟨sn, sty⟩ := sl
      simp only at *
      have hsn2 := unhide HNS
      have hbA : Below wr.heap.size wr ((wr.alloc (.cells #[.string sn, .int .i64 sty] 42)).alloc (.cells #[.string ⟨#[105, 110]⟩, .string sn, .string tx] 9)).drew := (((Below.refl wr.heap.size wr).alloc (Nat.le_refl _) (.cells #[.string sn, .int .i64 sty] 42)).alloc (by simp) (.cells #[.string ⟨#[105, 110]⟩, .string sn, .string tx] 9)).drew
      have HL1 := hide ((unhide HL).on hbA)
      have HSB : Hid (BlkAt ((wr.alloc (.cells #[.string sn, .int .i64 sty] 42)).alloc (.cells #[.string ⟨#[105, 110]⟩, .string sn, .string tx] 9)).drew wr.heap.size 42 #[.string sn, .int .i64 sty]) := (blk_box wr #[.string sn, .int .i64 sty] 42).below (((Below.refl (wr.heap.size + 1) _).alloc (by simp) _).drew) (Nat.lt_succ_self _)
      have HM := own_made (wr.alloc (.cells #[.string sn, .int .i64 sty] 42)) 0 [⟨#[105, 110]⟩, sn, tx] _ 3 (Nat.zero_le _) rfl rfl (by simp)
      rw [World.size_alloc] at HM
      have HC := hide (writeLine_ok w0 b 0 [⟨#[105, 110]⟩, sn, tx] (.slice (some ⟨wr.heap.size + 1, 0, none⟩) 3 3) ((wr.alloc (.cells #[.string sn, .int .i64 sty] 42)).alloc (.cells #[.string ⟨#[105, 110]⟩, .string sn, .string tx] 9)).drew _ (unhide HL1).st (HM.below (Below.refl _ _).drew) (by have h9 := unhide HLZ; rw [st_sz]; omega) (by simp only [lsz_cons]; have z0 : lsz [] = 0 := rfl; have z9 : (⟨#[105, 110]⟩ : ByteArray).size ≤ 8 := (by decide); omega))
      have k0 : (wr.alloc (.cells #[.string sn, .int .i64 sty] 42)).drew.cell? ⟨wr.heap.size, 0, none⟩ = some (.string sn) := by
        show (wr.alloc (.cells #[.string sn, .int .i64 sty] 42)).cell? _ = _
        rw [World.cell?_alloc_at _ _ _ _ rfl]
        rfl
      have k1 : (wr.alloc (.cells #[.string sn, .int .i64 sty] 42)).drew.cell? ⟨wr.heap.size, 1, none⟩ = some (.int .i64 sty) := by
        show (wr.alloc (.cells #[.string sn, .int .i64 sty] 42)).cell? _ = _
        rw [World.cell?_alloc_at _ _ _ _ rfl]
        rfl
      clear hmem hsn hty hbA HM hty2
      go_wp2_with fail
      go_region_held3 (fun w' => w'.cell? ⟨wr.heap.size, 0, none⟩ = some (.string sn) ∧ w'.cell? ⟨wr.heap.size, 1, none⟩ = some (.int .i64 sty)) (go_keep) (first | (go_at_call 28; refine (unhide HTY _).mono ?_; rintro e wj ⟨rfl, rfl⟩) | (go_at_call 27; refine (unhide HC).mono ?_; rintro e w2 ⟨rfl, hst2, hk2⟩; have HL2 := hide ((unhide HL1).app hst2 hk2); have HSB2 := hide ((unhide HSB).kept (unhide HL1).st hk2 (by decide)); have k0 : w2.cell? ⟨wr.heap.size, 0, none⟩ = some (.string sn) := BlkAt.cell (unhide HSB2) (v := .string sn) rfl; have k1 : w2.cell? ⟨wr.heap.size, 1, none⟩ = some (.int .i64 sty) := BlkAt.cell (unhide HSB2) (v := .int .i64 sty) rfl; clear hst2 hk2))
      go_wp2
      go_roundg (ins.length - (q + 1))
      case measure => have := unhide HG; omega
      case rel => exact ⟨q + 1, by omega, rfl, by go_num, (by rw [unhide HT]; exact HL2)⟩
    · have e : q = ins.length := by omega
      have HLn : Hid (CI w0 w b w.heap.size #[.string nm, .slice b1 ins.length c1, .slice b2 outs.length c2, .slice b3 locs.length c3, .slice b4 mems.length c4, .slice b5 insts.length c5, .slice b6 body.length c6] s wr (A1 ++ ins.map (fun s : DSlot => lnP [Win, s.name, tyT s.type]))) := by
        have h8 := unhide HL
        rw [e, List.take_length] at h8
        exact h8
      clear e HL HG
      obtain ⟨A2, hA2⟩ : ∃ A, A = A1 ++ ins.map (fun s : DSlot => lnP [Win, s.name, tyT s.type]) := ⟨_, rfl⟩
      rw [← hA2] at HLn
      have HA2 := hide hA2
      have HQ2 : Hid (lsz A2 = lsz A1 + lsz (ins.map (fun s : DSlot => lnP [Win, s.name, tyT s.type]))) := by
        refine hide ?_
        rw [hA2, lsz_app]
      clear hA2
      have HN2 : Hid (lsz A2 + lsz (outs.map (fun s : DSlot => lnP [Wout, s.name, tyT s.type])) ≤ 200000000) := by
        refine hide ?_
        have h1 := unhide HNALL
        have e2 := unhide HQ2
        omega
      have k2 : wr.cell? ⟨w.heap.size, 2, none⟩ = some (.slice b2 outs.length c2) := (unhide HLn).blk.cell (v := .slice b2 outs.length c2) rfl
      go_wp2
      go_loopg [42] outs.length (fun gh ix wr => ∃ (q : Nat), q ≤ outs.length ∧ gh = outs.length - q ∧ ix = .int .i64 q ∧ Hid (CI w0 w b w.heap.size #[.string nm, .slice b1 ins.length c1, .slice b2 outs.length c2, .slice b3 locs.length c3, .slice b4 mems.length c4, .slice b5 insts.length c5, .slice b6 body.length c6] s wr (A2 ++ (outs.take q).map (fun s : DSlot => lnP [Wout, s.name, tyT s.type]))))
      case atStart => exact ⟨0, Nat.zero_le _, by omega, rfl, (by rw [List.take_zero, List.map_nil, List.append_nil]; exact HLn)⟩
      case round =>
        obtain ⟨q, hq, hg, rfl, HL⟩ := hrel
        have HG := hide hg
        clear hg
        by_cases hlt : q < outs.length
        · have hbw := (unhide HL).st.old
          obtain ⟨_, _, hve, _, _, hex⟩ := unhide HS2
          simp only [Value.slice.injEq] at hve
          obtain ⟨rfl, _, rfl⟩ := hve
          obtain ⟨b', o, cs, rfl, _, hb, hcs, hc, hR⟩ := hex q hlt
          have hc : ∀ j (hj : j < cs.length), wr.cell? ⟨b', o + q * 2 + j, none⟩ = some cs[j] := fun j hj => by rw [hbw.cell (p := ⟨b', _, none⟩) hb]; exact hc j hj
          obtain ⟨rfl, hsn, hty⟩ := hR
          have z0 := hc 0 (by simp)
          have z1 := hc 1 (by simp)
          simp only [Nat.mul_one, Nat.add_zero, List.getElem_cons_zero, List.getElem_cons_succ] at z0 z1
          have hltI : (q : Int) < (outs.length : Int) := by omega
          have HT := hide (map_take (fun s : DSlot => lnP [Wout, s.name, tyT s.type]) (A2) outs q hlt)
          have HLZ : Hid (lsz (A2 ++ (outs.take q).map (fun s : DSlot => lnP [Wout, s.name, tyT s.type])) ≤ 200000000) := by
            refine hide ?_
            have h8 := lsz_mtake (fun s : DSlot => lnP [Wout, s.name, tyT s.type]) (A2) outs q
            have := unhide HN2
            omega
          have hmem := List.getElem_mem hlt
          clear hc hcs hex
          generalize A2 ++ (outs.take q).map (fun s : DSlot => lnP [Wout, s.name, tyT s.type]) = pre at HL HT HLZ
          have HNS := hide (unhide HNM2 _ hmem)
          have hty2 := unhide HTYS2 _ hmem
          have hzt := tyT_sz outs[q].type
          have HTY := hide (typeText_ok outs[q].type · hty2)
          generalize tyT outs[q].type = tx at *
          generalize outs[q] = sl at *
          obtain ⟨sn, sty⟩ := sl
          simp only at *
          have hsn2 := unhide HNS
          have hbA : Below wr.heap.size wr ((wr.alloc (.cells #[.string sn, .int .i64 sty] 42)).alloc (.cells #[.string ⟨#[111, 117, 116]⟩, .string sn, .string tx] 9)).drew := (((Below.refl wr.heap.size wr).alloc (Nat.le_refl _) (.cells #[.string sn, .int .i64 sty] 42)).alloc (by simp) (.cells #[.string ⟨#[111, 117, 116]⟩, .string sn, .string tx] 9)).drew
          have HL1 := hide ((unhide HL).on hbA)
          have HSB : Hid (BlkAt ((wr.alloc (.cells #[.string sn, .int .i64 sty] 42)).alloc (.cells #[.string ⟨#[111, 117, 116]⟩, .string sn, .string tx] 9)).drew wr.heap.size 42 #[.string sn, .int .i64 sty]) := (blk_box wr #[.string sn, .int .i64 sty] 42).below (((Below.refl (wr.heap.size + 1) _).alloc (by simp) _).drew) (Nat.lt_succ_self _)
          have HM := own_made (wr.alloc (.cells #[.string sn, .int .i64 sty] 42)) 0 [⟨#[111, 117, 116]⟩, sn, tx] _ 3 (Nat.zero_le _) rfl rfl (by simp)
          rw [World.size_alloc] at HM
          have HC := hide (writeLine_ok w0 b 0 [⟨#[111, 117, 116]⟩, sn, tx] (.slice (some ⟨wr.heap.size + 1, 0, none⟩) 3 3) ((wr.alloc (.cells #[.string sn, .int .i64 sty] 42)).alloc (.cells #[.string ⟨#[111, 117, 116]⟩, .string sn, .string tx] 9)).drew _ (unhide HL1).st (HM.below (Below.refl _ _).drew) (by have h9 := unhide HLZ; rw [st_sz]; omega) (by simp only [lsz_cons]; have z0 : lsz [] = 0 := rfl; have z9 : (⟨#[111, 117, 116]⟩ : ByteArray).size ≤ 8 := (by decide); omega))
          have k0 : (wr.alloc (.cells #[.string sn, .int .i64 sty] 42)).drew.cell? ⟨wr.heap.size, 0, none⟩ = some (.string sn) := by
            show (wr.alloc (.cells #[.string sn, .int .i64 sty] 42)).cell? _ = _
            rw [World.cell?_alloc_at _ _ _ _ rfl]
            rfl
          have k1 : (wr.alloc (.cells #[.string sn, .int .i64 sty] 42)).drew.cell? ⟨wr.heap.size, 1, none⟩ = some (.int .i64 sty) := by
            show (wr.alloc (.cells #[.string sn, .int .i64 sty] 42)).cell? _ = _
            rw [World.cell?_alloc_at _ _ _ _ rfl]
            rfl
          clear hmem hsn hty hbA HM hty2
          go_wp2_with fail
          go_region_held3 (fun w' => w'.cell? ⟨wr.heap.size, 0, none⟩ = some (.string sn) ∧ w'.cell? ⟨wr.heap.size, 1, none⟩ = some (.int .i64 sty)) (go_keep) (first | (go_at_call 28; refine (unhide HTY _).mono ?_; rintro e wj ⟨rfl, rfl⟩) | (go_at_call 27; refine (unhide HC).mono ?_; rintro e w2 ⟨rfl, hst2, hk2⟩; have HL2 := hide ((unhide HL1).app hst2 hk2); have HSB2 := hide ((unhide HSB).kept (unhide HL1).st hk2 (by decide)); have k0 : w2.cell? ⟨wr.heap.size, 0, none⟩ = some (.string sn) := BlkAt.cell (unhide HSB2) (v := .string sn) rfl; have k1 : w2.cell? ⟨wr.heap.size, 1, none⟩ = some (.int .i64 sty) := BlkAt.cell (unhide HSB2) (v := .int .i64 sty) rfl; clear hst2 hk2))
          go_wp2
          go_roundg (outs.length - (q + 1))
          case measure => have := unhide HG; omega
          case rel => exact ⟨q + 1, by omega, rfl, by go_num, (by rw [unhide HT]; exact HL2)⟩
        · have e : q = outs.length := by omega
          have HLn : Hid (CI w0 w b w.heap.size #[.string nm, .slice b1 ins.length c1, .slice b2 outs.length c2, .slice b3 locs.length c3, .slice b4 mems.length c4, .slice b5 insts.length c5, .slice b6 body.length c6] s wr (A2 ++ outs.map (fun s : DSlot => lnP [Wout, s.name, tyT s.type]))) := by
            have h8 := unhide HL
            rw [e, List.take_length] at h8
            exact h8
          clear e HL HG
          obtain ⟨A3, hA3⟩ : ∃ A, A = A2 ++ outs.map (fun s : DSlot => lnP [Wout, s.name, tyT s.type]) := ⟨_, rfl⟩
          rw [← hA3] at HLn
          have HA3 := hide hA3
          have HQ3 : Hid (lsz A3 = lsz A2 + lsz (outs.map (fun s : DSlot => lnP [Wout, s.name, tyT s.type]))) := by
            refine hide ?_
            rw [hA3, lsz_app]
          clear hA3
          have HN3 : Hid (lsz A3 + lsz (locs.map (fun x : ByteArray => lnP [Wloc, x])) ≤ 200000000) := by
            refine hide ?_
            have h1 := unhide HNALL
            have e2 := unhide HQ2
            have e3 := unhide HQ3
            omega
          have k3 : wr.cell? ⟨w.heap.size, 3, none⟩ = some (.slice b3 locs.length c3) := (unhide HLn).blk.cell (v := .slice b3 locs.length c3) rfl
          go_wp2
          go_loopg [58] locs.length (fun gh ix wr => ∃ (q : Nat), q ≤ locs.length ∧ gh = locs.length - q ∧ ix = .int .i64 q ∧ Hid (CI w0 w b w.heap.size #[.string nm, .slice b1 ins.length c1, .slice b2 outs.length c2, .slice b3 locs.length c3, .slice b4 mems.length c4, .slice b5 insts.length c5, .slice b6 body.length c6] s wr (A3 ++ (locs.take q).map (fun x : ByteArray => lnP [Wloc, x]))))
          case atStart => exact ⟨0, Nat.zero_le _, by omega, rfl, (by rw [List.take_zero, List.map_nil, List.append_nil]; exact HLn)⟩
          case round =>
            obtain ⟨q, hq, hg, rfl, HL⟩ := hrel
            have HG := hide hg
            clear hg
            by_cases hlt : q < locs.length
            · have hbw := (unhide HL).st.old
              obtain ⟨_, _, hve, _, _, hex⟩ := unhide HS3
              simp only [Value.slice.injEq] at hve
              obtain ⟨rfl, _, rfl⟩ := hve
              obtain ⟨b', o, cs, rfl, _, hb, hcs, hc, hR⟩ := hex q hlt
              have hc : ∀ j (hj : j < cs.length), wr.cell? ⟨b', o + q * 1 + j, none⟩ = some cs[j] := fun j hj => by rw [hbw.cell (p := ⟨b', _, none⟩) hb]; exact hc j hj
              obtain ⟨rfl, hsn⟩ := hR
              have z0 := hc 0 (by simp)
              simp only [Nat.mul_one, Nat.add_zero, List.getElem_cons_zero, List.getElem_cons_succ] at z0
              have hltI : (q : Int) < (locs.length : Int) := by omega
              have HT := hide (map_take (fun x : ByteArray => lnP [Wloc, x]) (A3) locs q hlt)
              have HLZ : Hid (lsz (A3 ++ (locs.take q).map (fun x : ByteArray => lnP [Wloc, x])) ≤ 200000000) := by
                refine hide ?_
                have h8 := lsz_mtake (fun x : ByteArray => lnP [Wloc, x]) (A3) locs q
                have := unhide HN3
                omega
              have hmem := List.getElem_mem hlt
              clear hc hcs hex
              generalize A3 ++ (locs.take q).map (fun x : ByteArray => lnP [Wloc, x]) = pre at HL HT HLZ
              have HNS := hide (unhide HNM3 _ hmem)
              generalize locs[q] = x at *
              have hsn2 := unhide HNS
              have HL1 := hide ((unhide HL).on ((Below.refl wr.heap.size wr).alloc (Nat.le_refl _) (.cells #[.string ⟨#[108, 111, 99]⟩, .string x] 9)))
              clear hmem hsn
              have HC := hide (writeLine_ok w0 b 0 [⟨#[108, 111, 99]⟩, x] (.slice (some ⟨wr.heap.size, 0, none⟩) 2 2) (wr.alloc (.cells #[.string ⟨#[108, 111, 99]⟩, .string x] 9)) _ (unhide HL1).st (own_made wr 0 [⟨#[108, 111, 99]⟩, x] _ 2 (Nat.zero_le _) rfl rfl (by simp)) (by have h9 := unhide HLZ; rw [st_sz]; omega) (by simp only [lsz_cons]; have z0 : lsz [] = 0 := rfl; have z9 : (⟨#[108, 111, 99]⟩ : ByteArray).size = 3 := rfl; omega))
              go_wp2_with fail
              refine (unhide HC).mono ?_
              rintro e w2 ⟨rfl, hst2, hk2⟩
              have HL2 := hide ((unhide HL1).app hst2 hk2)
              clear hst2 hk2
              go_wp2
              go_roundg (locs.length - (q + 1))
              case measure => have := unhide HG; omega
              case rel => exact ⟨q + 1, by omega, rfl, by go_num, (by rw [unhide HT]; exact HL2)⟩
            · have e : q = locs.length := by omega
              have HLn : Hid (CI w0 w b w.heap.size #[.string nm, .slice b1 ins.length c1, .slice b2 outs.length c2, .slice b3 locs.length c3, .slice b4 mems.length c4, .slice b5 insts.length c5, .slice b6 body.length c6] s wr (A3 ++ locs.map (fun x : ByteArray => lnP [Wloc, x]))) := by
                have h8 := unhide HL
                rw [e, List.take_length] at h8
                exact h8
              clear e HL HG
              obtain ⟨A4, hA4⟩ : ∃ A, A = A3 ++ locs.map (fun x : ByteArray => lnP [Wloc, x]) := ⟨_, rfl⟩
              rw [← hA4] at HLn
              have HA4 := hide hA4
              have HQ4 : Hid (lsz A4 = lsz A3 + lsz (locs.map (fun x : ByteArray => lnP [Wloc, x]))) := by
                refine hide ?_
                rw [hA4, lsz_app]
              clear hA4
              have HN4 : Hid (lsz A4 + lsz (mems.map (fun v : Int => lnP [Wmem, dcT v])) ≤ 200000000) := by
                refine hide ?_
                have h1 := unhide HNALL
                have e2 := unhide HQ2
                have e3 := unhide HQ3
                have e4 := unhide HQ4
                omega
              have k4 : wr.cell? ⟨w.heap.size, 4, none⟩ = some (.slice b4 mems.length c4) := (unhide HLn).blk.cell (v := .slice b4 mems.length c4) rfl
              go_wp2
              go_loopg [70] mems.length (fun gh ix wr => ∃ (q : Nat), q ≤ mems.length ∧ gh = mems.length - q ∧ ix = .int .i64 q ∧ Hid (CI w0 w b w.heap.size #[.string nm, .slice b1 ins.length c1, .slice b2 outs.length c2, .slice b3 locs.length c3, .slice b4 mems.length c4, .slice b5 insts.length c5, .slice b6 body.length c6] s wr (A4 ++ (mems.take q).map (fun v : Int => lnP [Wmem, dcT v]))))
              case atStart => exact ⟨0, Nat.zero_le _, by omega, rfl, (by rw [List.take_zero, List.map_nil, List.append_nil]; exact HLn)⟩
              case round =>
                obtain ⟨q, hq, hg, rfl, HL⟩ := hrel
                have HG := hide hg
                clear hg
                by_cases hlt : q < mems.length
                · have hbw := (unhide HL).st.old
                  obtain ⟨_, _, hve, _, _, hex⟩ := unhide HS4
                  simp only [Value.slice.injEq] at hve
                  obtain ⟨rfl, _, rfl⟩ := hve
                  obtain ⟨b', o, cs, rfl, _, hb, hcs, hc, hR⟩ := hex q hlt
                  have hc : ∀ j (hj : j < cs.length), wr.cell? ⟨b', o + q * 1 + j, none⟩ = some cs[j] := fun j hj => by rw [hbw.cell (p := ⟨b', _, none⟩) hb]; exact hc j hj
                  obtain ⟨rfl, hsn⟩ := hR
                  have z0 := hc 0 (by simp)
                  simp only [Nat.mul_one, Nat.add_zero, List.getElem_cons_zero, List.getElem_cons_succ] at z0
                  have hltI : (q : Int) < (mems.length : Int) := by omega
                  have HT := hide (map_take (fun v : Int => lnP [Wmem, dcT v]) (A4) mems q hlt)
                  have HLZ : Hid (lsz (A4 ++ (mems.take q).map (fun v : Int => lnP [Wmem, dcT v])) ≤ 200000000) := by
                    refine hide ?_
                    have h8 := lsz_mtake (fun v : Int => lnP [Wmem, dcT v]) (A4) mems q
                    have := unhide HN4
                    omega
                  have hmem := List.getElem_mem hlt
                  clear hc hcs hex
                  generalize A4 ++ (mems.take q).map (fun v : Int => lnP [Wmem, dcT v]) = pre at HL HT HLZ
                  have hv32 := (unhide HCL).mems _ hmem
                  have HDC := hide (itoa_ok mems[q] hv32 wr (unhide HEN _ hbw))
                  have hdz := dcT_sz mems[q] hv32
                  generalize dcT mems[q] = dv at *
                  generalize mems[q] = x at *
                  clear hmem hsn hv32
                  go_wp2_with fail
                  refine (unhide HDC).mono ?_
                  rintro e w9 ⟨rfl, hb9⟩
                  have HL1 := hide ((unhide HL).on (hb9.alloc hb9.size (.cells #[.string ⟨#[109, 101, 109]⟩, .string dv] 9)))
                  clear hb9
                  have HC := hide (writeLine_ok w0 b 0 [⟨#[109, 101, 109]⟩, dv] (.slice (some ⟨w9.heap.size, 0, none⟩) 2 2) (w9.alloc (.cells #[.string ⟨#[109, 101, 109]⟩, .string dv] 9)) _ (unhide HL1).st (own_made w9 0 [⟨#[109, 101, 109]⟩, dv] _ 2 (Nat.zero_le _) rfl rfl (by simp)) (by have h9 := unhide HLZ; rw [st_sz]; omega) (by simp only [lsz_cons]; have z0 : lsz [] = 0 := rfl; have z9 : (⟨#[109, 101, 109]⟩ : ByteArray).size = 3 := rfl; omega))
                  go_wp2_with fail
                  refine (unhide HC).mono ?_
                  rintro e w2 ⟨rfl, hst2, hk2⟩
                  have HL2 := hide ((unhide HL1).app hst2 hk2)
                  clear hst2 hk2
                  go_wp2
                  go_roundg (mems.length - (q + 1))
                  case measure => have := unhide HG; omega
                  case rel => exact ⟨q + 1, by omega, rfl, by go_num, (by rw [unhide HT]; exact HL2)⟩
                · have e : q = mems.length := by omega
                  have HLn : Hid (CI w0 w b w.heap.size #[.string nm, .slice b1 ins.length c1, .slice b2 outs.length c2, .slice b3 locs.length c3, .slice b4 mems.length c4, .slice b5 insts.length c5, .slice b6 body.length c6] s wr (A4 ++ mems.map (fun v : Int => lnP [Wmem, dcT v]))) := by
                    have h8 := unhide HL
                    rw [e, List.take_length] at h8
                    exact h8
                  clear e HL HG
                  obtain ⟨A5, hA5⟩ : ∃ A, A = A4 ++ mems.map (fun v : Int => lnP [Wmem, dcT v]) := ⟨_, rfl⟩
                  rw [← hA5] at HLn
                  have HA5 := hide hA5
                  have HQ5 : Hid (lsz A5 = lsz A4 + lsz (mems.map (fun v : Int => lnP [Wmem, dcT v]))) := by
                    refine hide ?_
                    rw [hA5, lsz_app]
                  clear hA5
                  have HN5 : Hid (lsz A5 + lsz (insts.map (fun g : Int => lnP [Wuse, nmAt ks g])) ≤ 200000000) := by
                    refine hide ?_
                    have h1 := unhide HNALL
                    have e2 := unhide HQ2
                    have e3 := unhide HQ3
                    have e4 := unhide HQ4
                    have e5 := unhide HQ5
                    omega
                  have k5 : wr.cell? ⟨w.heap.size, 5, none⟩ = some (.slice b5 insts.length c5) := (unhide HLn).blk.cell (v := .slice b5 insts.length c5) rfl
                  go_wp2
                  go_loopg [83] insts.length (fun gh ix wr => ∃ (q : Nat), q ≤ insts.length ∧ gh = insts.length - q ∧ ix = .int .i64 q ∧ Hid (CI w0 w b w.heap.size #[.string nm, .slice b1 ins.length c1, .slice b2 outs.length c2, .slice b3 locs.length c3, .slice b4 mems.length c4, .slice b5 insts.length c5, .slice b6 body.length c6] s wr (A5 ++ (insts.take q).map (fun g : Int => lnP [Wuse, nmAt ks g]))))
                  case atStart => exact ⟨0, Nat.zero_le _, by omega, rfl, (by rw [List.take_zero, List.map_nil, List.append_nil]; exact HLn)⟩
                  case round =>
                    obtain ⟨q, hq, hg, rfl, HL⟩ := hrel
                    have HG := hide hg
                    clear hg
                    by_cases hlt : q < insts.length
                    · have hbw := (unhide HL).st.old
                      obtain ⟨_, _, hve, _, _, hex⟩ := unhide HS5
                      simp only [Value.slice.injEq] at hve
                      obtain ⟨rfl, _, rfl⟩ := hve
                      obtain ⟨b', o, cs, rfl, _, hb, hcs, hc, hR⟩ := hex q hlt
                      have hc : ∀ j (hj : j < cs.length), wr.cell? ⟨b', o + q * 1 + j, none⟩ = some cs[j] := fun j hj => by rw [hbw.cell (p := ⟨b', _, none⟩) hb]; exact hc j hj
                      obtain ⟨rfl, hsn⟩ := hR
                      have z0 := hc 0 (by simp)
                      simp only [Nat.mul_one, Nat.add_zero, List.getElem_cons_zero, List.getElem_cons_succ] at z0
                      have hltI : (q : Int) < (insts.length : Int) := by omega
                      have HT := hide (map_take (fun g : Int => lnP [Wuse, nmAt ks g]) (A5) insts q hlt)
                      have HLZ : Hid (lsz (A5 ++ (insts.take q).map (fun g : Int => lnP [Wuse, nmAt ks g])) ≤ 200000000) := by
                        refine hide ?_
                        have h8 := lsz_mtake (fun g : Int => lnP [Wuse, nmAt ks g]) (A5) insts q
                        have := unhide HN5
                        omega
                      have hmem := List.getElem_mem hlt
                      clear hc hcs hex
                      generalize A5 ++ (insts.take q).map (fun g : Int => lnP [Wuse, nmAt ks g]) = pre at HL HT HLZ
                      obtain ⟨hg0, hg1⟩ := (unhide HCL).ins _ hmem
                      have hgn := (unhide HCL).nm _ hmem
                      obtain ⟨gi, hgi⟩ := Int.eq_ofNat_of_zero_le hg0
                      have hgk : gi < ks.length := by omega
                      have hnmg : nmAt ks insts[q] = ks[gi].name := by
                        unfold nmAt
                        rw [hgi]
                        show (match ks[gi]? with | some k => k.name | none => ByteArray.empty) = _
                        rw [List.getElem?_eq_getElem hgk]
                      rw [hnmg] at HT hgn
                      obtain ⟨gb, go, gcs, hgbo, _, hgb, hgcs, hgc, hgR⟩ := unhide HX gi hgk
                      subst hgbo
                      have g0 : wr.cell? ⟨gb, go + gi * 7, none⟩ = some (.string ks[gi].name) := by
                        rw [hbw.cell (p := ⟨gb, _, none⟩) hgb]
                        obtain ⟨_, _, _, _, _, _, rfl, _⟩ := hgR
                        exact hgc 0 (by simp)
                      have hgkI : (gi : Int) < (ks.length : Int) := by omega
                      rw [hgi] at z0
                      generalize ks[gi].name = x at *
                      have HL1 := hide ((unhide HL).on ((Below.refl wr.heap.size wr).alloc (Nat.le_refl _) (.cells #[.string ⟨#[117, 115, 101]⟩, .string x] 9)))
                      clear hmem hsn hg0 hg1 hgi hnmg hgcs hgc hgR
                      have HC := hide (writeLine_ok w0 b 0 [⟨#[117, 115, 101]⟩, x] (.slice (some ⟨wr.heap.size, 0, none⟩) 2 2) (wr.alloc (.cells #[.string ⟨#[117, 115, 101]⟩, .string x] 9)) _ (unhide HL1).st (own_made wr 0 [⟨#[117, 115, 101]⟩, x] _ 2 (Nat.zero_le _) rfl rfl (by simp)) (by have h9 := unhide HLZ; rw [st_sz]; omega) (by simp only [lsz_cons]; have z0 : lsz [] = 0 := rfl; have z9 : (⟨#[117, 115, 101]⟩ : ByteArray).size = 3 := rfl; omega))
                      go_wp2_with fail
                      refine (unhide HC).mono ?_
                      rintro e w2 ⟨rfl, hst2, hk2⟩
                      have HL2 := hide ((unhide HL1).app hst2 hk2)
                      clear hst2 hk2
                      go_wp2
                      go_roundg (insts.length - (q + 1))
                      case measure => have := unhide HG; omega
                      case rel => exact ⟨q + 1, by omega, rfl, by go_num, (by rw [unhide HT]; exact HL2)⟩
                    · have e : q = insts.length := by omega
                      have HLn : Hid (CI w0 w b w.heap.size #[.string nm, .slice b1 ins.length c1, .slice b2 outs.length c2, .slice b3 locs.length c3, .slice b4 mems.length c4, .slice b5 insts.length c5, .slice b6 body.length c6] s wr (A5 ++ insts.map (fun g : Int => lnP [Wuse, nmAt ks g]))) := by
                        have h8 := unhide HL
                        rw [e, List.take_length] at h8
                        exact h8
                      clear e HL HG
                      obtain ⟨A6, hA6⟩ : ∃ A, A = A5 ++ insts.map (fun g : Int => lnP [Wuse, nmAt ks g]) := ⟨_, rfl⟩
                      rw [← hA6] at HLn
                      have HA6 := hide hA6
                      have HQ6 : Hid (lsz A6 = lsz A5 + lsz (insts.map (fun g : Int => lnP [Wuse, nmAt ks g]))) := by
                        refine hide ?_
                        rw [hA6, lsz_app]
                      clear hA6
                      have HN6 : Hid (lsz A6 + lsz (body.map (fun s : DStm => lnP (stmP s))) ≤ 200000000) := by
                        refine hide ?_
                        have h1 := unhide HNALL
                        have e2 := unhide HQ2
                        have e3 := unhide HQ3
                        have e4 := unhide HQ4
                        have e5 := unhide HQ5
                        have e6 := unhide HQ6
                        omega
                      have k6 : wr.cell? ⟨w.heap.size, 6, none⟩ = some (.slice b6 body.length c6) := (unhide HLn).blk.cell (v := .slice b6 body.length c6) rfl
                      go_wp2
                      go_loopg [99] body.length (fun gh ix wr => ∃ (q : Nat), q ≤ body.length ∧ gh = body.length - q ∧ ix = .int .i64 q ∧ Hid (CI w0 w b w.heap.size #[.string nm, .slice b1 ins.length c1, .slice b2 outs.length c2, .slice b3 locs.length c3, .slice b4 mems.length c4, .slice b5 insts.length c5, .slice b6 body.length c6] s wr (A6 ++ (body.take q).map (fun s : DStm => lnP (stmP s)))))
                      case atStart => exact ⟨0, Nat.zero_le _, by omega, rfl, (by rw [List.take_zero, List.map_nil, List.append_nil]; exact HLn)⟩
                      case round =>
                        obtain ⟨q, hq, hg, rfl, HL⟩ := hrel
                        have HG := hide hg
                        clear hg
                        by_cases hlt : q < body.length
                        · have hbw := (unhide HL).st.old
                          obtain ⟨_, _, hve, _, _, hex⟩ := unhide HS6
                          simp only [Value.slice.injEq] at hve
                          obtain ⟨rfl, _, rfl⟩ := hve
                          obtain ⟨b', o, cs, rfl, _, hb, hcs, hc, hR⟩ := hex q hlt
                          have hc : ∀ j (hj : j < cs.length), wr.cell? ⟨b', o + q * 6 + j, none⟩ = some cs[j] := fun j hj => by rw [hbw.cell (p := ⟨b', _, none⟩) hb]; exact hc j hj
                          obtain ⟨s1, s2, s3, rfl, hsn, hk1, hk2, g1, g2, g3⟩ := hR
                          have z0 := hc 0 (by simp)
                          have z1 := hc 1 (by simp)
                          have z2 := hc 2 (by simp)
                          have z3 := hc 3 (by simp)
                          have z4 := hc 4 (by simp)
                          have z5 := hc 5 (by simp)
                          simp only [Nat.mul_one, Nat.add_zero, List.getElem_cons_zero, List.getElem_cons_succ] at z0 z1 z2 z3 z4 z5
                          have hltI : (q : Int) < (body.length : Int) := by omega
                          have HT := hide (map_take (fun s : DStm => lnP (stmP s)) (A6) body q hlt)
                          have HLZ : Hid (lsz (A6 ++ (body.take q).map (fun s : DStm => lnP (stmP s))) ≤ 200000000) := by
                            refine hide ?_
                            have h8 := lsz_mtake (fun s : DStm => lnP (stmP s)) (A6) body q
                            have := unhide HN6
                            omega
                          have hmem := List.getElem_mem hlt
                          clear hc hcs hex
                          generalize A6 ++ (body.take q).map (fun s : DStm => lnP (stmP s)) = pre at HL HT HLZ
                          have hlnq := unhide HLNS _ hmem
                          have hlsz : lsz (stmP body[q]) ≤ 200000000 := by
                            have h8 := stmP_sz _ hlnq.st
                            have h9 := unhide HWST _ hmem
                            omega
                          have hA9 : Below wr.heap.size wr (wr.alloc (.cells #[.int .i64 body[q].kind, .string body[q].name, .int .i64 body[q].at_, s1, s2, s3] 47)) := (Below.refl _ _).alloc (Nat.le_refl _) _
                          have hbw9 := hbw.trans (hA9.mono hbw.size)
                          have HLQ := hide (stmParts_ok body[q] s1 s2 s3 (wr.alloc (.cells #[.int .i64 body[q].kind, .string body[q].name, .int .i64 body[q].at_, s1, s2, s3] 47)) (unhide HEN _ hbw9) hlnq (g1.stays RStr_kept hbw9) (g2.stays RItem_kept hbw9) (g3.stays RItems_kept hbw9) hlsz)
                          have P1 := hide hA9
                          have HLSZ := hide hlsz
                          generalize stmP body[q] = ps at *
                          generalize body[q] = st at *
                          obtain ⟨oa, oc, rfl⟩ := g1.shape
                          obtain ⟨ca, cc, rfl⟩ := g2.shape
                          obtain ⟨aa, ac, rfl⟩ := g3.shape
                          obtain ⟨kd, snm, at0, souts, code, args⟩ := st
                          simp only at *
                          clear hmem hlnq g1 g2 g3 hk1 hk2 hsn hA9 hbw9 hlsz
                          go_wp2_with fail
                          refine (unhide HLQ).mono ?_
                          rintro e w9 ⟨v9, ba9, rfl, hO9, hb9⟩
                          have Q1 : Hid (Below wr.heap.size wr w9) := (unhide P1).trans (hb9.mono (unhide P1).size)
                          have HL1 := hide ((unhide HL).on (unhide Q1))
                          have HC := hide (writeLine_ok w0 b ba9 ps v9 w9 _ (unhide HL1).st hO9 (by have h9 := unhide HLZ; rw [st_sz]; omega) (unhide HLSZ))
                          clear hb9 hO9
                          go_wp2_with fail
                          refine (unhide HC).mono ?_
                          rintro e w2 ⟨rfl, hst2, hk2⟩
                          have HL2 := hide ((unhide HL1).app hst2 hk2)
                          clear hst2 hk2
                          go_wp2
                          go_roundg (body.length - (q + 1))
                          case measure => have := unhide HG; omega
                          case rel => exact ⟨q + 1, by omega, rfl, by go_num, (by rw [unhide HT]; exact HL2)⟩
                        · have e : q = body.length := by omega
                          have HLn : Hid (CI w0 w b w.heap.size #[.string nm, .slice b1 ins.length c1, .slice b2 outs.length c2, .slice b3 locs.length c3, .slice b4 mems.length c4, .slice b5 insts.length c5, .slice b6 body.length c6] s wr (A6 ++ body.map (fun s : DStm => lnP (stmP s)))) := by
                            have h8 := unhide HL
                            rw [e, List.take_length] at h8
                            exact h8
                          clear e HL HG
                          obtain ⟨A7, hA7⟩ : ∃ A, A = A6 ++ body.map (fun s : DStm => lnP (stmP s)) := ⟨_, rfl⟩
                          rw [← hA7] at HLn
                          have HA7 := hide hA7
                          have HQ7 : Hid (lsz A7 = lsz A6 + lsz (body.map (fun s : DStm => lnP (stmP s)))) := by
                            refine hide ?_
                            rw [hA7, lsz_app]
                          clear hA7
                          have HL1 := hide ((unhide HLn).on ((Below.refl wr.heap.size wr).alloc (Nat.le_refl _) (.cells #[.string ⟨#[101, 110, 100, 99, 108, 97, 115, 115]⟩] 9)))
                          have HLZ : Hid (lsz A7 ≤ 200000000) := by
                            refine hide ?_
                            have h1 := unhide HNALL
                            have e2 := unhide HQ2
                            have e3 := unhide HQ3
                            have e4 := unhide HQ4
                            have e5 := unhide HQ5
                            have e6 := unhide HQ6
                            have e7 := unhide HQ7
                            omega
                          have HC := hide (writeLine_ok w0 b 0 [⟨#[101, 110, 100, 99, 108, 97, 115, 115]⟩] (.slice (some ⟨wr.heap.size, 0, none⟩) 1 1) (wr.alloc (.cells #[.string ⟨#[101, 110, 100, 99, 108, 97, 115, 115]⟩] 9)) _ (unhide HL1).st (own_made wr 0 [⟨#[101, 110, 100, 99, 108, 97, 115, 115]⟩] _ 1 (Nat.zero_le _) rfl rfl (by simp)) (by have h9 := unhide HLZ; rw [st_sz]; omega) (by simp only [lsz_cons]; have z0 : lsz [] = 0 := rfl; have z9 : (⟨#[101, 110, 100, 99, 108, 97, 115, 115]⟩ : ByteArray).size = 8 := rfl; omega))
                          go_wp2_with fail
                          refine (unhide HC).mono ?_
                          rintro e w2 ⟨rfl, hst2, hk2⟩
                          have HL2 := hide ((unhide HL1).app hst2 hk2)
                          clear hst2 hk2
                          have HFIN : Hid (A7 ++ [lnP [⟨#[101, 110, 100, 99, 108, 97, 115, 115]⟩]] = clsL ks ⟨nm, ins, outs, locs, mems, insts, body⟩) := by
                            refine hide ?_
                            rw [unhide HA7, unhide HA6, unhide HA5, unhide HA4, unhide HA3, unhide HA2, unhide HA1]
                            rfl
                          have HS9 : Hid (St w0 b (s ++ TX) w2) := by
                            have h8 := (unhide HL2).st
                            rw [unhide HFIN, unhide HTX] at h8
                            exact h8
                          have HK9 := hide (unhide HL2).kp
                          clear HL2 HFIN
                          go_wp2
                          go_end0
                          exact ⟨rfl, unhide HS9, unhide HK9⟩

end Go.Proofs.YtmglbkndjnflkaaGreatDoor
