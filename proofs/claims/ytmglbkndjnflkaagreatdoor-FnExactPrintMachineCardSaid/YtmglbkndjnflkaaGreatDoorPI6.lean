import Derived.Test.YtmglbkndjnflkaaGreatDoorPI4
import Derived.Test.YtmglbkndjnflkaaGreatDoorMI24
import Derived.Test.YtmglbkndjnflkaaGreatDoorMI22
import Derived.Test.YtmglbkndjnflkaaGreatDoorM15
namespace Go.Proofs.YtmglbkndjnflkaaGreatDoor
open Go.RowKit
open Go.Shelf
set_option linter.unusedSimpArgs false
set_option linter.unusedVariables false

theorem st_start (w : World) : St w w.heap.size ByteArray.empty (w.alloc (.cells #[.pointer none, .slice none 0 0] 53)) := by
  refine ⟨(Below.refl _ _).alloc (Nat.le_refl _) _, .inl ⟨Nat.le_refl _, .slice none 0 0, blk_box _ _ _, ⟨rfl, .inl ⟨rfl, rfl⟩⟩, ?_⟩⟩
  intro h
  cases h
theorem prior_tsz (ks : List DClass) (i : Nat) : (txL (prior ks i)).size ≤ lsz (machL ks) := by
  rw [txL_size]
  have h2 : lsz (machL ks) = lsz (prior ks i) + lsz ((ks.drop i).flatMap (clsL ks)) := by
    rw [← lsz_app]
    unfold prior machL
    rw [← List.flatMap_append, List.take_append_drop]
  omega

set_option maxRecDepth 20000 in
set_option maxHeartbeats 4000000 in
theorem implPrint_of (ks : List DClass) (v : Value) (w : World) (hE : Env w) (hv : SlAt 7 160 RClass 0 w v ks) (mb : Bool) (hmk : ∀ v w, SlAt 7 160 RClass 0 w v ks → Calls Tryz.prog 15 #[.agg #[v]] w (Ans (.bool mb) w)) (hp : mb = true → PrOK ks ∧ ∀ k, k ∈ ks → ∀ s, s ∈ k.body → wStm s ≤ 1048576) :
    Calls Tryz.prog 7 #[.agg #[v]] w (Ans (.string (if mb = true then txL (machL ks) else ByteArray.empty)) w) := by
  have HV := hide hv
  obtain ⟨a, cap, rfl⟩ := hv.shape
  have hn : ks.length ≤ 140737488355328 := by
    obtain ⟨_, _, _, _, h, _⟩ := hv
    exact h
  have P0 := hide ((Below.refl w.heap.size w).alloc (Nat.le_refl _) (.cells #[.slice a ks.length cap] 29))
  have HC1 := hide (hmk _ (w.alloc (.cells #[.slice a ks.length cap] 29)) (hv.stays RClass_kept (unhide P0)))
  have HE := hide hE
  clear hv hE hmk
  cases mb
  · rw [if_neg (by simp)]
    go_enter Tryz.func7, Tryz.ntmps7
    go_wp2_with fail
    refine (unhide HC1).mono ?_
    rintro e w1 ⟨rfl, hb1⟩
    have HB1 : Hid (Below w.heap.size w w1) := (unhide P0).trans (hb1.mono (unhide P0).size)
    clear hb1 HC1
    go_wp2
    go_ret
    exact ⟨rfl, unhide HB1⟩
  rw [if_pos rfl]
  obtain ⟨hpr, hws⟩ := hp rfl
  have HPR := hide hpr
  have HWS := hide hws
  have HALL := hide hpr.all
  have HPZ := hide (prior_tsz ks)
  have HPE : Hid (txL (prior ks ks.length) = txL (machL ks)) := by
    refine hide ?_
    unfold prior machL
    rw [List.take_length]
  generalize txL (machL ks) = TX at *
  clear hp hpr hws
  go_enter Tryz.func7, Tryz.ntmps7
  go_wp2_with fail
  refine (unhide HC1).mono ?_
  rintro e w1 ⟨rfl, hb1⟩
  have kp : w1.cell? ⟨w.heap.size, 0, none⟩ = some (.slice a ks.length cap) := by rw [box_cell (B := 0) (box_of hb1) 0]; rfl
  have HB1 : Hid (Below w.heap.size w w1) := (unhide P0).trans (hb1.mono (unhide P0).size)
  have hs1 : w.heap.size < w1.heap.size := by have := (box_of hb1).size; simp at this; omega
  have HV1 := hide ((unhide HV).stays RClass_kept (unhide HB1))
  have HE1 := hide ((unhide HE).below (unhide HB1) (unhide HE).three)
  have HST1 := hide (st_start w1)
  have HKP := hide kp
  clear hb1 HC1
  go_wp2
  go_loopg [12] ks.length (fun g i wr => ∃ (k : Nat), k ≤ ks.length ∧ g = ks.length - k ∧ i = .int .i64 k ∧ Hid (St w1 w1.heap.size (txL (prior ks k)) wr))
  case atStart => exact ⟨0, Nat.zero_le _, by omega, rfl, HST1⟩
  case round =>
    obtain ⟨k, hk, hg, rfl, HST⟩ := hrel
    have HG := hide hg
    clear hg kp
    have hpz := unhide HPZ k
    have hall := unhide HALL
    by_cases hlt : k < ks.length
    · obtain ⟨_, _, hve, _, _, hex⟩ := unhide HV1
      simp only [Value.slice.injEq] at hve
      obtain ⟨rfl, _, rfl⟩ := hve
      obtain ⟨b, o, cs, rfl, _, hb, hcs, hc0, hR⟩ := hex k hlt
      have hold := (unhide HST).old
      have hc : ∀ j (hj : j < cs.length), wr.cell? ⟨b, o + k * 7 + j, none⟩ = some cs[j] := fun j hj => by rw [hold.cell (p := ⟨b, _, none⟩) hb]; exact hc0 j hj
      have km : wr.cell? ⟨w.heap.size, 0, none⟩ = some (.slice (some ⟨b, o, none⟩) ks.length cap) := (hold.cell (p := ⟨w.heap.size, 0, none⟩) hs1).trans (unhide HKP)
      have hzw : w.heap.size < wr.heap.size := Nat.lt_of_lt_of_le hs1 hold.size
      have HC2 : Hid (∀ w', St w1 w1.heap.size (txL (prior ks k)) w' → Calls Tryz.prog 16 #[.pointer (some ⟨w1.heap.size, 0, none⟩), .agg cs.toArray, .slice (some ⟨b, o, none⟩) ks.length cap] w' (WrPost w1 w1.heap.size (txL (prior ks k) ++ txL (clsL ks ks[k])) w')) := fun w' h => writeClass_ok w1 w1.heap.size (unhide HE1) ks ks[k] _ (unhide HV1) (List.getElem_mem hlt) (unhide HPR) (unhide HWS _ (List.getElem_mem hlt)) cs hR w' _ h (by omega)
      obtain ⟨f1, f2, f3, f4, f5, f6, rfl, hnl, q1, q2, q3, q4, q5, q6⟩ := hR
      have c0 := hc 0 (by simp)
      have c1 := hc 1 (by simp)
      have c2 := hc 2 (by simp)
      have c3 := hc 3 (by simp)
      have c4 := hc 4 (by simp)
      have c5 := hc 5 (by simp)
      have c6 := hc 6 (by simp)
      simp only [Nat.mul_one, Nat.add_zero, List.getElem_cons_zero, List.getElem_cons_succ] at c0 c1 c2 c3 c4 c5 c6
      have HT : Hid (txL (prior ks (k + 1)) = txL (prior ks k) ++ txL (clsL ks ks[k])) := by
        refine hide ?_
        rw [prior_succ ks k hlt, txL_app]
      obtain ⟨b1, d1, rfl⟩ := q1.shape
      obtain ⟨b2, d2, rfl⟩ := q2.shape
      obtain ⟨b3, d3, rfl⟩ := q3.shape
      obtain ⟨b4, d4, rfl⟩ := q4.shape
      obtain ⟨b5, d5, rfl⟩ := q5.shape
      obtain ⟨b6, d6, rfl⟩ := q6.shape
      have hltI : (k : Int) < (ks.length : Int) := by omega
      have P1 := hide ((Below.refl wr.heap.size wr).alloc (Nat.le_refl _) (.cells #[.string ks[k].name, .slice b1 ks[k].ins.length d1, .slice b2 ks[k].outs.length d2, .slice b3 ks[k].locs.length d3, .slice b4 ks[k].mems.length d4, .slice b5 ks[k].insts.length d5, .slice b6 ks[k].body.length d6] 40))
      have HC3 := hide (unhide HC2 _ ((unhide HST).on (unhide P1)))
      clear hc hc0 hcs HC2 hnl q1 q2 q3 q4 q5 q6 hex hold
      generalize txL (prior ks k) = tk at *
      generalize txL (clsL ks ks[k]) = tn at *
      generalize ks[k].ins.length = n1 at *
      generalize ks[k].outs.length = n2 at *
      generalize ks[k].locs.length = n3 at *
      generalize ks[k].mems.length = n4 at *
      generalize ks[k].insts.length = n5 at *
      generalize ks[k].body.length = n6 at *
      generalize ks[k].name = nm at *
      go_wp2_with fail
      refine (unhide HC3).mono ?_
      rintro e w3 ⟨rfl, hst3, hk3⟩
      have HS3 := hide hst3
      clear hst3 hk3
      go_wp2
      go_roundg (ks.length - (k + 1))
      case measure => have := unhide HG; omega
      case rel => exact ⟨k + 1, by omega, rfl, by go_num, (by rw [unhide HT]; exact HS3)⟩
    · have e : k = ks.length := by omega
      have hst9 : St w1 w1.heap.size TX wr := by
        have h8 := unhide HST
        rw [e, unhide HPE] at h8
        exact h8
      have hold := hst9.old
      have HC4 := hide (Any.Builder_String_any_k Tryz.lays169 Tryz.pmExtra w1.heap.size w1.heap.size TX.data.toList wr hst9.bld hold.size)
      have HO := hide hold
      clear hold hst9 e
      go_wp2_with fail
      refine (unhide HC4).mono ?_
      rintro e w3 ⟨rfl, _, hb3, _⟩
      have HF := hide ((unhide HB1).trans (((unhide HO).trans hb3).mono (by omega)))
      clear hb3
      go_wp2
      go_ret
      exact ⟨rfl, unhide HF⟩

end Go.Proofs.YtmglbkndjnflkaaGreatDoor
namespace Go.Proofs.YtmglbkndjnflkaaGreatDoor
open Go.RowKit
set_option linter.unusedSimpArgs false
set_option linter.unusedVariables false

theorem mc_items (k : DClass) (c : List DItem) (hm : k.mems.length ≤ 1000) (h : mcB k c = true) : (c ≠ [] ∧ c.length ≤ 6000) ∧ ∀ t, t ∈ c → PtOK t := by
  unfold mcB scM at h
  simp only [Bool.and_eq_true, List.all_eq_true] at h
  obtain ⟨⟨⟨h1, _⟩, h2⟩, h3⟩ := h
  have h1 := of_decide_eq_true h1
  refine ⟨⟨fun e => by rw [e] at h1; simp at h1, by omega⟩, fun t ht => ?_⟩
  have a1 := (sit_iff t).1 (h2 t ht)
  have a2 := h3 t ht
  unfold mItB at a2
  simp only [Bool.and_eq_true, Bool.or_eq_true] at a2
  refine ⟨fun ho => ?_, fun ho => ?_⟩
  · unfold N32
    rcases ho with ho | ho
    · rcases a1.2 with h9 | h9
      · omega
      · have h9 := of_decide_eq_true h9
        unfold loI hiI at h9
        simp [ho] at h9
        omega
    · rcases a2.2 with h9 | h9
      · rw [ho] at h9
        simp at h9
      · have h9 := of_decide_eq_true h9
        omega
  · rcases a1.2 with h9 | h9
    · omega
    · have h9 := of_decide_eq_true h9
      unfold loI hiI at h9
      simp [ho] at h9
      omega
theorem wSum_mem {α : Type} (g : α → Nat) (xs : List α) (x : α) (h : x ∈ xs) : g x + xs.length ≤ wSum g xs := by
  unfold wSum
  have : g x ≤ (xs.map g).sum := by
    induction xs with
    | nil => cases h
    | cons y xs ih =>
      simp only [List.map_cons, List.sum_cons]
      rcases List.mem_cons.1 h with rfl | h
      · omega
      · have := ih h
        omega
  omega
theorem cd_nil : CdOK [] := ⟨fun t h => (by cases h), fun t h => (by cases h), Nat.zero_le _, (by simp [wSum])⟩
theorem cd_of (k : DClass) (c : List DItem) (hm : k.mems.length ≤ 1000) (h : mcB k c = true) (hw : wSum wItem c ≤ 1048576) : CdOK c := by
  obtain ⟨⟨_, h2⟩, h3⟩ := mc_items k c hm h
  refine ⟨h3, fun t ht => ?_, h2, hw⟩
  have h4 := wSum_mem wItem c t ht
  unfold wItem at h4 hw
  omega
theorem len_zero {α : Type} {l : List α} (h : ¬ l.length ≠ 0) : l = [] := List.eq_nil_of_length_eq_zero (by omega)
theorem ln_of (ks : List DClass) (k : DClass) (s : DStm) (hm : k.mems.length ≤ 1000 ∧ k.insts.length ≤ 1000) (ho : ∀ g, g ∈ ks → 1 ≤ g.outs.length ∧ g.outs.length ≤ 1000 ∧ g.ins.length ≤ 1000) (h : stmB ks k s = true) (hw : wStm s ≤ 1048576) : LnOK s := by
  have w1 : wSum wStr s.outs + wSum wItem s.code + wSum (wSum wItem) s.args + s.name.size ≤ 1048576 := by unfold wStm at hw; omega
  have hnm : s.name.size ≤ 1048576 := by omega
  have hou : ∀ x, x ∈ s.outs → x.size ≤ 1048576 := fun x hx => by
    have := wSum_mem wStr s.outs x hx
    unfold wStr at this w1
    omega
  have har : ∀ c, c ∈ s.args → wSum wItem c ≤ 1048576 := fun c hc => by
    have := wSum_mem (wSum wItem) s.args c hc
    omega
  unfold stmB at h
  split at h
  · cases h
  split at h
  · cases h
  rename_i hA
  split at h
  · cases h
  rename_i hB
  split at h
  · cases h
  rename_i hC
  have hatz : s.kind ≠ 2 → s.kind ≠ 3 → s.at_ = 0 := fun a b => by
    apply Classical.byContradiction
    intro c
    exact hA ⟨a, b, c⟩
  have hoz : s.kind ≠ 3 → s.outs = [] ∧ s.args = [] := fun a => by
    refine ⟨len_zero (fun c => hB ⟨a, Or.inl c⟩), len_zero (fun c => hB ⟨a, Or.inr c⟩)⟩
  have hcz : s.kind ≠ 1 → s.kind ≠ 2 → s.code = [] := fun a b => len_zero (fun c => hC ⟨a, b, c⟩)
  split at h
  · rename_i e1
    rw [Bool.and_eq_true] at h
    obtain ⟨⟨hne, _⟩, hpt⟩ := mc_items k s.code hm.1 h.2
    obtain ⟨z1, z2⟩ := hoz (by omega)
    have z3 := hatz (by omega) (by omega)
    refine ⟨⟨(by unfold N32; omega), hpt, (by rw [z2]; intro c hc; cases hc), fun _ => hne, fun h9 => (by omega), by omega⟩, hnm, (by rw [z1]; exact ⟨by simp, fun x hx => (by cases hx)⟩), cd_of k _ hm.1 h.2 (by omega), (by rw [z2]; exact ⟨by simp, fun c hc => (by cases hc)⟩)⟩
  split at h
  · rename_i e1 e2
    rw [Bool.and_eq_true] at h
    obtain ⟨⟨hne, _⟩, hpt⟩ := mc_items k s.code hm.1 h.2
    obtain ⟨z1, z2⟩ := hoz (by omega)
    have z3 := of_decide_eq_true h.1
    refine ⟨⟨(by unfold N32; omega), hpt, (by rw [z2]; intro c hc; cases hc), fun _ => hne, fun h9 => (by omega), by omega⟩, hnm, (by rw [z1]; exact ⟨by simp, fun x hx => (by cases hx)⟩), cd_of k _ hm.1 h.2 (by omega), (by rw [z2]; exact ⟨by simp, fun c hc => (by cases hc)⟩)⟩
  split at h
  · rename_i e1 e2 e4
    obtain ⟨z1, z2⟩ := hoz (by omega)
    have z3 := hatz (by omega) (by omega)
    have z4 := hcz (by omega) (by omega)
    refine ⟨⟨(by unfold N32; omega), (by rw [z4]; intro t ht; cases ht), (by rw [z2]; intro c hc; cases hc), fun h9 => (by omega), fun h9 => (by omega), by omega⟩, hnm, (by rw [z1]; exact ⟨by simp, fun x hx => (by cases hx)⟩), (by rw [z4]; exact cd_nil), (by rw [z2]; exact ⟨by simp, fun c hc => (by cases hc)⟩)⟩
  split at h
  · rename_i e1 e2 e4 e5
    obtain ⟨z1, z2⟩ := hoz (by omega)
    have z3 := hatz (by omega) (by omega)
    have z4 := hcz (by omega) (by omega)
    refine ⟨⟨(by unfold N32; omega), (by rw [z4]; intro t ht; cases ht), (by rw [z2]; intro c hc; cases hc), fun h9 => (by omega), fun h9 => (by omega), by omega⟩, hnm, (by rw [z1]; exact ⟨by simp, fun x hx => (by cases hx)⟩), (by rw [z4]; exact cd_nil), (by rw [z2]; exact ⟨by simp, fun c hc => (by cases hc)⟩)⟩
  split at h
  · rename_i e1 e2 e4 e5 e3
    have z4 := hcz (by omega) (by omega)
    unfold callB at h
    split at h
    · cases h
    rename_i hat
    split at h
    · cases h
    rename_i g hg
    simp only [Bool.and_eq_true, List.all_eq_true] at h
    obtain ⟨⟨h1, _⟩, h3⟩ := h
    have h1 := of_decide_eq_true h1
    have hgo := ho g (List.mem_of_getElem? hg)
    refine ⟨⟨(by unfold N32; omega), (by rw [z4]; intro t ht; cases ht), fun c hc => (mc_items k c hm.1 (h3 c hc)).2, fun h9 => (by omega), fun _ => ⟨fun e => by rw [e] at h1; simp at h1; omega, fun c hc => (mc_items k c hm.1 (h3 c hc)).1.1⟩, by omega⟩, hnm, ⟨by omega, hou⟩, (by rw [z4]; exact cd_nil), ⟨by omega, fun c hc => cd_of k c hm.1 (h3 c hc) (har c hc)⟩⟩
  · cases h
theorem mem_N32 (v : Int) (h : memB v = true) : N32 v := by
  rw [mem_val] at h
  have h := of_decide_eq_true h
  unfold N32
  omega
theorem pr_of (ks : List DClass) (h : machB ks = true) (hw : wSum wClass ks ≤ 1048576) : ks ≠ [] ∧ PrOK ks ∧ ∀ k, k ∈ ks → ∀ s, s ∈ k.body → wStm s ≤ 1048576 := by
  unfold machB at h
  simp only [Bool.and_eq_true, List.all_eq_true] at h
  obtain ⟨h0, h1, _, _⟩ := h
  have h0 := of_decide_eq_true h0
  have hk : ∀ k, k ∈ ks → ∃ i, ∃ hi : i < ks.length, ks[i] = k ∧ classB ks i = true := fun k hm => by
    obtain ⟨i, hi, e⟩ := List.getElem_of_mem hm
    exact ⟨i, hi, e, h1 i (List.mem_range.2 hi)⟩
  have hc : ∀ k, k ∈ ks → (nameB k.name = true ∧ 1 ≤ k.outs.length ∧ k.mems.length ≤ 1000 ∧ k.insts.length ≤ 1000) ∧ (varsOf k).length ≤ 1000 ∧ (∀ t, t ∈ k.ins ++ k.outs → t.type = 1 ∨ t.type = 2) ∧ (∀ v, v ∈ k.mems → memB v = true) ∧ (∀ g, g ∈ k.insts → 0 ≤ g ∧ g < (ks.length : Int)) ∧ ∀ s, s ∈ k.body → stmB ks k s = true := fun k hm => by
    obtain ⟨i, hi, e, hcb⟩ := hk k hm
    unfold classB at hcb
    rw [List.getElem?_eq_getElem hi] at hcb
    simp only [Bool.and_eq_true, List.all_eq_true] at hcb
    rw [e] at hcb
    obtain ⟨⟨⟨⟨⟨b1, b2⟩, b3⟩, b4⟩, _⟩, _, b5, _, b6, b7, b8, b9, _⟩ := hcb
    refine ⟨⟨b1, of_decide_eq_true b2, of_decide_eq_true b3, of_decide_eq_true b4⟩, of_decide_eq_true b5, fun t ht => ?_, b7, fun g hg => ?_, b9⟩
    · have := of_decide_eq_true (b6 t ht)
      omega
    · have := of_decide_eq_true (b8 g hg)
      omega
  have hvl : ∀ k, (varsOf k).length = k.ins.length + k.outs.length + k.locs.length := fun k => by simp [varsOf]; try omega
  have hwk : ∀ k, k ∈ ks → wClass k ≤ 1048576 := fun k hm => by
    have := wSum_mem wClass ks k hm
    omega
  have hws : ∀ k, k ∈ ks → ∀ s, s ∈ k.body → wStm s ≤ 1048576 := fun k hm s hs => by
    have h2 := hwk k hm
    have h3 := wSum_mem wStm k.body s hs
    unfold wClass at h2
    omega
  have hou : ∀ g, g ∈ ks → 1 ≤ g.outs.length ∧ g.outs.length ≤ 1000 ∧ g.ins.length ≤ 1000 := fun g hg => by
    obtain ⟨⟨_, a2, _, _⟩, a5, _⟩ := hc g hg
    have := hvl g
    omega
  have hcl : ∀ k, k ∈ ks → ClOK ks k := fun k hm => by
    obtain ⟨⟨a1, a2, a3, a4⟩, a5, a6, a7, a8, a9⟩ := hc k hm
    refine ⟨fun s hs => (ln_of ks k s ⟨a3, a4⟩ hou (a9 s hs) (hws k hm s hs)).st, fun v hv => mem_N32 v (a7 v hv), a8, ⟨a3, a4⟩, fun g hg => ?_, ⟨fun s hs => a6 s (List.mem_append.2 (Or.inl hs)), fun s hs => a6 s (List.mem_append.2 (Or.inr hs))⟩⟩
    obtain ⟨g0, g1⟩ := a8 g hg
    unfold nmAt
    rw [List.getElem?_eq_getElem (show g.toNat < ks.length by omega)]
    exact name_size _ (hc _ (List.getElem_mem _)).1.1
  refine ⟨fun e => by rw [e] at h0; simp at h0, ⟨hcl, fun k hm s hs => ?_, fun k hm => ?_, fun k hm => ?_, ?_⟩, hws⟩
  · obtain ⟨⟨a1, a2, a3, a4⟩, a5, a6, a7, a8, a9⟩ := hc k hm
    exact ln_of ks k s ⟨a3, a4⟩ hou (a9 s hs) (hws k hm s hs)
  · have h2 := hwk k hm
    unfold wClass at h2
    refine ⟨by omega, fun s hs => ?_, fun s hs => ?_, fun x hx => ?_⟩
    · have := wSum_mem wSlot k.ins s hs
      unfold wSlot at this h2
      omega
    · have := wSum_mem wSlot k.outs s hs
      unfold wSlot at this h2
      omega
    · have := wSum_mem wStr k.locs x hx
      unfold wStr at this h2
      omega
  · have h2 := hwk k hm
    unfold wClass wSum at h2
    omega
  · have := mach_sz ks ks hcl
    unfold machL
    omega

end Go.Proofs.YtmglbkndjnflkaaGreatDoor
