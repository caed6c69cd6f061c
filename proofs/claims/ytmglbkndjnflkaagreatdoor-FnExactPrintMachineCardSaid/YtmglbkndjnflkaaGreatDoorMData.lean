import Derived.Test.YtmglbkndjnflkaaGreatDoorData
import Derived.Test.YtmglbkndjnflkaaGreatDoorFill
import Derived.Test.YtmglbkndjnflkaaGreatDoorCode
import Derived.Deep.RegionWith
import Derived.RegionTactic
namespace Go.Proofs.YtmglbkndjnflkaaGreatDoor
open Go.RowKit

structure DSlot where
  name : ByteArray
  type : Int
structure DStm where
  kind : Int
  name : ByteArray
  at_ : Int
  outs : List ByteArray
  code : List DItem
  args : List (List DItem)
structure DClass where
  name : ByteArray
  ins : List DSlot
  outs : List DSlot
  locs : List ByteArray
  mems : List Int
  insts : List Int
  body : List DStm

def RSlot (_ : Nat) (_ : World) (cs : List Value) (t : DSlot) : Prop := cs = [.string t.name, .int .i64 t.type] ∧ Len t.name.size ∧ I64 t.type
def RStm (lo : Nat) (w : World) (cs : List Value) (t : DStm) : Prop := ∃ o c a, cs = [.int .i64 t.kind, .string t.name, .int .i64 t.at_, o, c, a] ∧ Len t.name.size ∧ I64 t.kind ∧ I64 t.at_ ∧ SlAt 1 16 RStr lo w o t.outs ∧ SlAt 3 32 RItem lo w c t.code ∧ SlAt 1 24 RItems lo w a t.args
def RClass (lo : Nat) (w : World) (cs : List Value) (k : DClass) : Prop := ∃ i o l m n b, cs = [.string k.name, i, o, l, m, n, b] ∧ Len k.name.size ∧ SlAt 2 24 RSlot lo w i k.ins ∧ SlAt 2 24 RSlot lo w o k.outs ∧ SlAt 1 16 RStr lo w l k.locs ∧ SlAt 1 8 RInt lo w m k.mems ∧ SlAt 1 8 RInt lo w n k.insts ∧ SlAt 6 104 RStm lo w b k.body

theorem RSlot_kept : KeptBy RSlot := fun _ _ _ _ _ _ h => h
theorem RSlot_lowers : Lowers RSlot := fun _ _ _ _ _ _ h => h
theorem RStm_kept : KeptBy RStm := fun _ _ _ _ _ hb ⟨o, c, a, h1, h2, h3, h4, h5, h6, h7⟩ => ⟨o, c, a, h1, h2, h3, h4, h5.kept RStr_kept hb, h6.kept RItem_kept hb, h7.kept RItems_kept hb⟩
theorem RStm_lowers : Lowers RStm := fun _ _ _ _ _ hb ⟨o, c, a, h1, h2, h3, h4, h5, h6, h7⟩ => ⟨o, c, a, h1, h2, h3, h4, h5.lower RStr_lowers hb, h6.lower RItem_lowers hb, h7.lower RItems_lowers hb⟩
theorem RClass_kept : KeptBy RClass := fun _ _ _ _ _ hb ⟨i, o, l, m, n, b, h1, h2, h3, h4, h5, h6, h7, h8⟩ => ⟨i, o, l, m, n, b, h1, h2, h3.kept RSlot_kept hb, h4.kept RSlot_kept hb, h5.kept RStr_kept hb, h6.kept RInt_kept hb, h7.kept RInt_kept hb, h8.kept RStm_kept hb⟩
theorem RClass_lowers : Lowers RClass := fun _ _ _ _ _ hb ⟨i, o, l, m, n, b, h1, h2, h3, h4, h5, h6, h7, h8⟩ => ⟨i, o, l, m, n, b, h1, h2, h3.lower RSlot_lowers hb, h4.lower RSlot_lowers hb, h5.lower RStr_lowers hb, h6.lower RInt_lowers hb, h7.lower RInt_lowers hb, h8.lower RStm_lowers hb⟩

def wSlot (t : DSlot) : Nat := t.name.size
def wStm (t : DStm) : Nat := t.name.size + wSum wStr t.outs + wSum wItem t.code + wSum (wSum wItem) t.args
def wClass (k : DClass) : Nat := k.name.size + wSum wSlot k.ins + wSum wSlot k.outs + wSum wStr k.locs + k.mems.length + k.insts.length + wSum wStm k.body

end Go.Proofs.YtmglbkndjnflkaaGreatDoor
namespace Go.Proofs.YtmglbkndjnflkaaGreatDoor
open Go.RowKit
set_option linter.unusedSimpArgs false
set_option linter.unusedVariables false

def placeI (l : List ByteArray) (s : ByteArray) : Int := match l.findIdx? (fun x => x.toList == s.toList) with
  | some i => i
  | none => -1
theorem place_hit (l : List ByteArray) (k : Nat) (s : ByteArray) (hn : k < l.length) (h : (l[k].toList == s.toList) = true) (hb : ∀ j (hj : j < l.length), j < k → (l[j].toList == s.toList) = false) : placeI l s = k := by
  unfold placeI
  have : l.findIdx? (fun x => x.toList == s.toList) = some k := by
    rw [List.findIdx?_eq_some_iff_getElem]
    refine ⟨hn, h, fun j hj => ?_⟩
    simp [hb j (by omega) hj]
  rw [this]
theorem place_miss (l : List ByteArray) (s : ByteArray) (hb : ∀ j (hj : j < l.length), (l[j].toList == s.toList) = false) : placeI l s = -1 := by
  unfold placeI
  have : l.findIdx? (fun x => x.toList == s.toList) = none := by
    rw [List.findIdx?_eq_none_iff]
    intro x hx
    obtain ⟨j, hj, rfl⟩ := List.getElem_of_mem hx
    exact hb j hj
  rw [this]
theorem place_bd (l : List ByteArray) (s : ByteArray) : -1 ≤ placeI l s ∧ placeI l s < l.length := by
  unfold placeI
  cases h : l.findIdx? (fun x => x.toList == s.toList) with
  | none => simp only; omega
  | some i =>
    rw [List.findIdx?_eq_some_iff_getElem] at h
    obtain ⟨hi, _⟩ := h
    simp only
    omega

set_option maxHeartbeats 400000 in
theorem l3Place_ok (l : List ByteArray) (v : Value) (s : ByteArray) (w : World) (hv : SlAt 1 16 RStr 0 w v l) :
    Calls Tryz.prog 38 #[v, .string s] w fun e w' => e = .returned (.int .i64 (placeI l s)) ∧ w' = w := by
  obtain ⟨a, cap, rfl, _, hn, hx⟩ := hv
  unfold Len at hn
  have HX := hide hx
  clear hx
  go_enter Tryz.func38, Tryz.ntmps38
  go_wp2
  go_loopg [9] l.length (fun g i wr => ∃ (k : Nat), k ≤ l.length ∧ g = l.length - k ∧ i = .int .i64 k ∧ wr = w ∧ ∀ j (h : j < l.length), j < k → (l[j].toList == s.toList) = false)
  case atStart => exact ⟨0, by omega, by omega, rfl, rfl, fun j _ h2 => by omega⟩
  case round =>
    obtain ⟨k, hk, hg, rfl, rfl, hall⟩ := hrel
    have HG := hide hg
    have HA := hide hall
    clear hg hall
    by_cases hlt : k < l.length
    · obtain ⟨b, o, cs, rfl, _, hb, hcs, hc, hR⟩ := unhide HX k hlt
      obtain ⟨rfl, hsn⟩ := hR
      have c0 := hc 0 (by simp)
      simp only [Nat.mul_one, Nat.add_zero, List.getElem_cons_zero, List.getElem_cons_succ] at c0
      clear hc hcs
      cases he : (l[k].toList == s.toList)
      · have A' : ∀ j (h : j < l.length), j < k + 1 → (l[j].toList == s.toList) = false := by
          intro j h h1
          by_cases e : j = k
          · subst e; exact he
          · exact unhide HA j h (by omega)
        have HA' := hide A'
        clear A'
        go_wp2
        go_roundg (l.length - (k + 1))
        case measure => have := unhide HG; omega
        case rel => exact ⟨k + 1, by omega, rfl, by go_num, rfl, unhide HA'⟩
      · have HF := hide (place_hit l k s hlt he (unhide HA))
        go_wp2
        go_ret
        exact ⟨ret_int (unhide HF).symm, rfl⟩
    · have HF := hide (place_miss l s (fun j hj => unhide HA j hj (by omega)))
      go_wp2
      go_ret
      exact ⟨ret_int (unhide HF).symm, rfl⟩

def varsOf (k : DClass) : List ByteArray := k.ins.map DSlot.name ++ k.outs.map DSlot.name ++ k.locs

theorem slot_len {w : World} {v : Value} {xs : List DSlot} (h : SlAt 2 24 RSlot 0 w v xs) : ∀ x, x ∈ xs.map DSlot.name → Len x.size := by
  intro x hx
  obtain ⟨t, ht, rfl⟩ := List.mem_map.1 hx
  obtain ⟨j, hj, rfl⟩ := List.getElem_of_mem ht
  obtain ⟨_, _, _, _, _, hel⟩ := h
  obtain ⟨_, _, _, _, _, _, _, _, hR⟩ := hel j hj
  exact hR.2.1
theorem str_len {w : World} {v : Value} {xs : List ByteArray} (h : SlAt 1 16 RStr 0 w v xs) : ∀ x, x ∈ xs → Len x.size := by
  intro x hx
  obtain ⟨j, hj, rfl⟩ := List.getElem_of_mem hx
  obtain ⟨_, _, _, _, _, hel⟩ := h
  obtain ⟨_, _, _, _, _, _, _, _, hR⟩ := hel j hj
  exact hR.2

/-- What is gathered after k slots. -/
def namesTo (pre : List ByteArray) (l : List DSlot) (k : Nat) : List ByteArray := pre ++ (l.take k).map DSlot.name
theorem namesTo_zero (pre : List ByteArray) (l : List DSlot) : namesTo pre l 0 = pre := by simp [namesTo]
theorem namesTo_all (pre : List ByteArray) (l : List DSlot) : namesTo pre l l.length = pre ++ l.map DSlot.name := by simp [namesTo]
theorem namesTo_succ (pre : List ByteArray) (l : List DSlot) (k : Nat) (h : k < l.length) : namesTo pre l (k + 1) = namesTo pre l k ++ [l[k].name] := by
  unfold namesTo
  rw [List.take_succ_eq_append_getElem h, List.map_append, List.append_assoc]
  rfl
theorem namesTo_length (pre : List ByteArray) (l : List DSlot) (k : Nat) (h : k ≤ l.length) : (namesTo pre l k).length = pre.length + k := by
  unfold namesTo
  rw [List.length_append, List.length_map, List.length_take]
  omega

set_option maxHeartbeats 2000000 in
theorem l3Vars_ok (x : DClass) (a1 a2 a3 a4 a5 a6 : Value) (w : World) (h1 : SlAt 2 24 RSlot 0 w a1 x.ins) (h2 : SlAt 2 24 RSlot 0 w a2 x.outs) (h3 : SlAt 1 16 RStr 0 w a3 x.locs) (hsum : x.ins.length + x.outs.length + x.locs.length ≤ 1048576) :
    Calls Tryz.prog 37 #[.agg #[.string x.name, a1, a2, a3, a4, a5, a6]] w fun e w' => ∃ v, e = .returned v ∧ SlAt 1 16 RStr 0 w' v (varsOf x) ∧ Below w.heap.size w w' := by
  obtain ⟨s, ins, outs, locs, mems, insts, body⟩ := x
  simp only [varsOf] at *
  have H1 := hide h1
  have H2 := hide h2
  have H3 := hide h3
  obtain ⟨p1, c1, rfl, _, _, hx1⟩ := h1
  obtain ⟨p2, c2, rfl, _, _, hx2⟩ := h2
  have HX1 := hide hx1
  have HX2 := hide hx2
  clear h3 hx1 hx2
  have P0 := hide ((Below.refl w.heap.size w).alloc (Nat.le_refl _) (.cells #[.string s, .slice p1 ins.length c1, .slice p2 outs.length c2, a3, a4, a5, a6] 40))
  have O0 : Hid (OwnStrs ((w.alloc (.cells #[.string s, .slice p1 ins.length c1, .slice p2 outs.length c2, a3, a4, a5, a6] 40)).alloc (.cells #[] 9)) (w.heap.size + 1) (w.heap.size + 1) 0 []) := by
    have := OwnStrs.start (w.alloc (.cells #[.string s, .slice p1 ins.length c1, .slice p2 outs.length c2, a3, a4, a5, a6] 40)) (w.heap.size + 1) (by simp)
    show OwnStrs _ _ _ _ _
    simpa using this
  go_enter Tryz.func37, Tryz.ntmps37
  go_wp2
  go_loopg [3, 12] ins.length (fun gh vv i wr => ∃ (k g cap : Nat), k ≤ ins.length ∧ gh = ins.length - k ∧ i = .int .i64 k ∧ vv = .slice (some ⟨g, 0, none⟩) k cap ∧ OwnStrs wr (w.heap.size + 1) g cap (namesTo [] ins k) ∧ Below (w.heap.size + 1) (w.alloc (.cells #[.string s, .slice p1 ins.length c1, .slice p2 outs.length c2, a3, a4, a5, a6] 40)) wr)
  case atStart => exact ⟨0, w.heap.size + 1, 0, Nat.zero_le _, by omega, rfl, rfl, by rw [namesTo_zero]; exact unhide O0, (Below.refl _ _).alloc (by simp) _⟩
  case round =>
    obtain ⟨k, g, cap, hk, hg, rfl, rfl, hown, hbl⟩ := hrel
    rename World => wN
    have HG := hide hg
    have HOW := hide hown
    have HBN := hide hbl
    have BN : Hid (Below w.heap.size w wN) := (unhide P0).trans (hbl.mono (Nat.le_succ _))
    have hgb := hown.base
    have hNs : w.heap.size + 1 ≤ wN.heap.size := by have := hbl.size; simpa using this
    have hpl := namesTo_length [] ins k hk
    have HLEN : Hid ((namesTo [] ins k).length = k) := by
      show (namesTo [] ins k).length = k
      rw [hpl]
      simp
    clear hg hown hbl hpl
    by_cases hlt : k < ins.length
    · obtain ⟨b, o, cs, hbo, _, hb, hcs, hc, hR⟩ := unhide HX1 k hlt
      subst hbo
      have hc : ∀ j (hj : j < cs.length), wN.cell? ⟨b, o + k * 2 + j, none⟩ = some cs[j] := fun j hj => by rw [(unhide BN).cell (p := ⟨b, _, none⟩) hb]; exact hc j hj
      obtain ⟨rfl, hsn, hty⟩ := hR
      have c0 := hc 0 (by simp)
      have c1 := hc 1 (by simp)
      simp only [Nat.mul_one, Nat.add_zero, List.getElem_cons_zero, List.getElem_cons_succ] at c0 c1
      have HT := hide (namesTo_succ [] ins k hlt)
      clear hc hcs hty
      generalize namesTo [] ins k = xs at *
      generalize ins[k] = sl at *
      obtain ⟨nm, ty⟩ := sl
      simp only at c0 c1 HT
      have HO2 : Hid (OwnStrs ((wN.alloc (.cells #[.string nm, .int .i64 ty] 42)).alloc (.cells #[.string nm] 9)) (w.heap.size + 1) g cap xs) := (unhide HOW).below (((Below.refl _ _).alloc (Nat.le_refl _) _).alloc (by simp) _)
      have HQ2 : Hid (Below (w.heap.size + 1) _ ((wN.alloc (.cells #[.string nm, .int .i64 ty] 42)).alloc (.cells #[.string nm] 9))) := (unhide HBN).trans (((Below.refl _ _).alloc hNs _).alloc (by simp; omega) _)
      go_wp2_with (at_builtin; go_must (refine wpList_append_oneStrs _ rfl _ _ rfl (w.heap.size + 1) g cap xs (by rw [unhide HLEN]; rfl) (unhide HO2) (wN.heap.size + 1) nm rfl (by rw [World.cell?_alloc_at _ _ _ _ (by simp)]; rfl) (by rw [unhide HLEN]; omega) (by simp; omega) ?_))
      intro g' cap' w7 hown7 hgr7
      have B7 := grow_below (unhide HQ2) hgr7 (by simp; omega) hgb
      rw [← unhide HT] at hown7
      have HO7 := hide hown7
      have HB7 := hide B7
      rw [unhide HLEN]
      clear hown7 hgr7 B7
      go_wp2
      go_roundg (ins.length - (k + 1))
      case measure => have := unhide HG; omega
      case rel => exact ⟨k + 1, g', cap', by omega, rfl, by go_num, rfl, unhide HO7, unhide HB7⟩
    · have e : k = ins.length := by omega
      have HOE : Hid (OwnStrs wN (w.heap.size + 1) g cap ([] ++ ins.map DSlot.name)) := by
        have := unhide HOW
        rw [e, namesTo_all] at this
        exact this
      have kb2 : wN.cell? ⟨w.heap.size, 2, none⟩ = some (.slice p2 outs.length c2) := by rw [box_cell (B := 0) (unhide HBN) 2]; rfl
      have kb3 : wN.cell? ⟨w.heap.size, 3, none⟩ = some a3 := by rw [box_cell (B := 0) (unhide HBN) 3]; rfl
      subst e
      clear HOW HLEN HG
      clear kb3
      go_wp2
      go_loopg [3, 25] outs.length (fun gh vv i wr => ∃ (k g cap : Nat), k ≤ outs.length ∧ gh = outs.length - k ∧ i = .int .i64 k ∧ vv = .slice (some ⟨g, 0, none⟩) (ins.length + k) cap ∧ OwnStrs wr (w.heap.size + 1) g cap (namesTo ([] ++ ins.map DSlot.name) outs k) ∧ Below (w.heap.size + 1) (w.alloc (.cells #[.string s, .slice p1 ins.length c1, .slice p2 outs.length c2, a3, a4, a5, a6] 40)) wr)
      case atStart => exact ⟨0, g, cap, Nat.zero_le _, by omega, rfl, rfl, by rw [namesTo_zero]; exact unhide HOE, unhide HBN⟩
      case round =>
        obtain ⟨k, g, cap, hk, hg, rfl, rfl, hown, hbl⟩ := hrel
        rename World => wN
        have HG := hide hg
        have HOW := hide hown
        have HBN := hide hbl
        have BN : Hid (Below w.heap.size w wN) := (unhide P0).trans (hbl.mono (Nat.le_succ _))
        have hgb := hown.base
        have hNs : w.heap.size + 1 ≤ wN.heap.size := by have := hbl.size; simpa using this
        have hpl := namesTo_length ([] ++ ins.map DSlot.name) outs k hk
        have HLEN : Hid ((namesTo ([] ++ ins.map DSlot.name) outs k).length = (ins.length + k)) := by
          show (namesTo ([] ++ ins.map DSlot.name) outs k).length = (ins.length + k)
          rw [hpl]
          simp
        clear hg hown hbl hpl
        by_cases hlt : k < outs.length
        · obtain ⟨b, o, cs, hbo, _, hb, hcs, hc, hR⟩ := unhide HX2 k hlt
          subst hbo
          have hc : ∀ j (hj : j < cs.length), wN.cell? ⟨b, o + k * 2 + j, none⟩ = some cs[j] := fun j hj => by rw [(unhide BN).cell (p := ⟨b, _, none⟩) hb]; exact hc j hj
          obtain ⟨rfl, hsn, hty⟩ := hR
          have c0 := hc 0 (by simp)
          have c1 := hc 1 (by simp)
          simp only [Nat.mul_one, Nat.add_zero, List.getElem_cons_zero, List.getElem_cons_succ] at c0 c1
          have HT := hide (namesTo_succ ([] ++ ins.map DSlot.name) outs k hlt)
          clear hc hcs hty
          generalize namesTo ([] ++ ins.map DSlot.name) outs k = xs at *
          generalize outs[k] = sl at *
          obtain ⟨nm, ty⟩ := sl
          simp only at c0 c1 HT
          have HO2 : Hid (OwnStrs ((wN.alloc (.cells #[.string nm, .int .i64 ty] 42)).alloc (.cells #[.string nm] 9)) (w.heap.size + 1) g cap xs) := (unhide HOW).below (((Below.refl _ _).alloc (Nat.le_refl _) _).alloc (by simp) _)
          have HQ2 : Hid (Below (w.heap.size + 1) _ ((wN.alloc (.cells #[.string nm, .int .i64 ty] 42)).alloc (.cells #[.string nm] 9))) := (unhide HBN).trans (((Below.refl _ _).alloc hNs _).alloc (by simp; omega) _)
          go_wp2_with (at_builtin; go_must (refine wpList_append_oneStrs _ rfl _ _ rfl (w.heap.size + 1) g cap xs (by rw [unhide HLEN]; rfl) (unhide HO2) (wN.heap.size + 1) nm rfl (by rw [World.cell?_alloc_at _ _ _ _ (by simp)]; rfl) (by rw [unhide HLEN]; omega) (by simp; omega) ?_))
          intro g' cap' w7 hown7 hgr7
          have B7 := grow_below (unhide HQ2) hgr7 (by simp; omega) hgb
          rw [← unhide HT] at hown7
          have HO7 := hide hown7
          have HB7 := hide B7
          rw [unhide HLEN]
          clear hown7 hgr7 B7
          go_wp2
          go_roundg (outs.length - (k + 1))
          case measure => have := unhide HG; omega
          case rel => exact ⟨k + 1, g', cap', by omega, rfl, by go_num, by rw [Nat.add_assoc], unhide HO7, unhide HB7⟩
        · have e : k = outs.length := by omega
          have HOE : Hid (OwnStrs wN (w.heap.size + 1) g cap (([] ++ ins.map DSlot.name) ++ outs.map DSlot.name)) := by
            have := unhide HOW
            rw [e, namesTo_all] at this
            exact this
          have kb2 : wN.cell? ⟨w.heap.size, 2, none⟩ = some (.slice p2 outs.length c2) := by rw [box_cell (B := 0) (unhide HBN) 2]; rfl
          have kb3 : wN.cell? ⟨w.heap.size, 3, none⟩ = some a3 := by rw [box_cell (B := 0) (unhide HBN) 3]; rfl
          subst e
          clear HOW HLEN HG
          have hll : ([] ++ ins.map DSlot.name ++ outs.map DSlot.name).length = ins.length + outs.length := by simp
          have HLL := hide hll
          have HL3 := hide ((unhide H3).stays RStr_kept (unhide BN))
          have HLN : Hid (∀ x, x ∈ ([] ++ ins.map DSlot.name ++ outs.map DSlot.name) ++ locs → Len x.size) := by
            intro x hx
            rcases List.mem_append.1 hx with hx | hx
            · rcases List.mem_append.1 hx with hx | hx
              · exact slot_len (unhide H1) x (by simpa using hx)
              · exact slot_len (unhide H2) x hx
            · exact str_len (unhide H3) x hx
          have HEQ : Hid (([] ++ ins.map DSlot.name ++ outs.map DSlot.name) ++ locs = ins.map DSlot.name ++ outs.map DSlot.name ++ locs) := by
            show ([] ++ ins.map DSlot.name ++ outs.map DSlot.name) ++ locs = _
            rw [List.nil_append]
          clear hll
          generalize [] ++ ins.map DSlot.name ++ outs.map DSlot.name = xs at *
          go_wp2_with (at_builtin; go_must (refine wpList_append_allStrs _ rfl _ _ rfl (w.heap.size + 1) g cap xs (by rw [unhide HLL]; rfl) (unhide HOE) _ rfl locs (unhide HL3) (by rw [unhide HLL]; omega) (by omega) ?_))
          intro g' cap' w7 hown7 hgr7
          have B7 := grow_below (unhide HBN) hgr7 (by omega) hgb
          have Q7 : Below w.heap.size w w7 := (unhide P0).trans (B7.mono (Nat.le_succ _))
          have D7 := hown7.at (fun x hx => ⟨rfl, unhide HLN x hx⟩) (by rw [List.length_append, unhide HLL]; omega)
          have HD7 := hide D7
          have HQ7 := hide Q7
          rw [List.length_append] at HD7
          rw [unhide HEQ] at HD7
          clear hown7 hgr7 B7 D7 Q7
          go_wp2
          go_ret
          exact ⟨_, rfl, unhide HD7, unhide HQ7⟩

end Go.Proofs.YtmglbkndjnflkaaGreatDoor
namespace Go.Proofs.YtmglbkndjnflkaaGreatDoor
open Go.RowKit
set_option linter.unusedSimpArgs false
set_option linter.unusedVariables false

def setB (k : DClass) (x : ByteArray) : Bool := decide ((k.ins.length : Int) ≤ placeI (varsOf k) x)

/-- A class as it is handed on by value: the cells and what they tell; its variables are not too many. -/
structure ClassIn (w : World) (k : DClass) (a1 a2 a3 a4 a5 a6 : Value) : Prop where
  ins : SlAt 2 24 RSlot 0 w a1 k.ins
  outs : SlAt 2 24 RSlot 0 w a2 k.outs
  locs : SlAt 1 16 RStr 0 w a3 k.locs
  mems : SlAt 1 8 RInt 0 w a4 k.mems
  insts : SlAt 1 8 RInt 0 w a5 k.insts
  body : SlAt 6 104 RStm 0 w a6 k.body
  name : Len k.name.size
  sum : k.ins.length + k.outs.length + k.locs.length ≤ 1048576
theorem ClassIn.stays {w w' : World} {k : DClass} {a1 a2 a3 a4 a5 a6 : Value} (h : ClassIn w k a1 a2 a3 a4 a5 a6) (hb : Below w.heap.size w w') : ClassIn w' k a1 a2 a3 a4 a5 a6 :=
  ⟨h.ins.stays RSlot_kept hb, h.outs.stays RSlot_kept hb, h.locs.stays RStr_kept hb, h.mems.stays RInt_kept hb, h.insts.stays RInt_kept hb, h.body.stays RStm_kept hb, h.name, h.sum⟩

set_option maxHeartbeats 1000000 in
theorem l3Settable_ok (k : DClass) (x : ByteArray) (a1 a2 a3 a4 a5 a6 : Value) (w : World) (h : ClassIn w k a1 a2 a3 a4 a5 a6) :
    Calls Tryz.prog 64 #[.agg #[.string k.name, a1, a2, a3, a4, a5, a6], .string x] w (Ans (.bool (setB k x)) w) := by
  have HI := hide h
  obtain ⟨b1, c1, rfl⟩ := h.ins.shape
  have hl : k.ins.length ≤ 1048576 := by have := h.sum; omega
  obtain ⟨b2, c2, rfl⟩ := h.outs.shape
  obtain ⟨b3, c3, rfl⟩ := h.locs.shape
  obtain ⟨b4, c4, rfl⟩ := h.mems.shape
  obtain ⟨b5, c5, rfl⟩ := h.insts.shape
  obtain ⟨b6, c6, rfl⟩ := h.body.shape
  clear h
  have B0 := hide ((Below.refl w.heap.size w).alloc (Nat.le_refl _) (.cells #[.string k.name, .slice b1 k.ins.length c1, .slice b2 k.outs.length c2, .slice b3 k.locs.length c3, .slice b4 k.mems.length c4, .slice b5 k.insts.length c5, .slice b6 k.body.length c6] 40))
  have HS : Hid (setB k x = decide ((k.ins.length : Int) ≤ placeI (varsOf k) x)) := rfl
  have HV := hide (fun w' (hb : Below w.heap.size w w') => l3Vars_ok k _ _ _ (.slice b4 k.mems.length c4) (.slice b5 k.insts.length c5) (.slice b6 k.body.length c6) w' ((unhide HI).stays hb).ins ((unhide HI).stays hb).outs ((unhide HI).stays hb).locs (unhide HI).sum)
  have hpb := place_bd (varsOf k) x
  generalize setB k x = sb at *
  generalize k.name = s at *
  generalize k.ins.length = n1 at *
  generalize k.outs.length = n2 at *
  generalize k.locs.length = n3 at *
  generalize k.mems.length = n4 at *
  generalize k.insts.length = n5 at *
  generalize k.body.length = n6 at *
  go_enter Tryz.func64, Tryz.ntmps64
  go_wp2_with fail
  have B0d : Hid (Below w.heap.size w (w.alloc (.cells #[.string s, .slice b1 n1 c1, .slice b2 n2 c2, .slice b3 n3 c3, .slice b4 n4 c4, .slice b5 n5 c5, .slice b6 n6 c6] 40)).drew) := (unhide B0).drew
  have HCV := hide (unhide HV _ (unhide B0d))
  go_region_with (first | (go_at_call 37; refine (unhide HCV).mono ?_; rintro e w1 ⟨vv, rfl, hVS, hb1⟩; have k1 : w1.cell? ⟨w.heap.size, 1, none⟩ = some (.slice b1 n1 c1) := (hb1.cell (p := ⟨w.heap.size, 1, none⟩) (by simp)).trans (by simp [World.cell?_alloc_at]); have HB1 := hide ((unhide B0d).trans (hb1.mono (unhide B0d).size)); have HPL := hide (l3Place_ok (varsOf k) _ x w1 hVS); clear hVS hb1) | (go_at_call 38; refine (unhide HPL).mono ?_; rintro e w2 ⟨rfl, rfl⟩))
  all_goals
    go_wp2
    go_ret
    refine ⟨ret_bool ?_, unhide HB1⟩
    rw [unhide HS]

end Go.Proofs.YtmglbkndjnflkaaGreatDoor
