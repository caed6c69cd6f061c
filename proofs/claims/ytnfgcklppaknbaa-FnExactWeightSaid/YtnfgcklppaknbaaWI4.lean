import Derived.Test.YtnfgcklppaknbaaWI3
namespace Go.Proofs.Ytnfgcklppaknbaa
open Go.RowKit
set_option linter.unusedSimpArgs false
set_option linter.unusedVariables false

theorem name_eq (a s : ByteArray) : (a.toList == s.toList) = true ↔ s = a := by
  rw [beq_iff_eq, ByteArray.toList_eq, ByteArray.toList_eq]
  exact ⟨fun h => (bytes_eq h).symm, fun h => by rw [h]⟩

theorem find_old (ns : List DNode) (k i : Nat) (s : ByteArray) (hk : k < ns.length) (h : findI ns k s = i) : findI ns (k + 1) s = i := by
  unfold findI at *
  rw [List.take_succ_eq_append_getElem hk, List.findIdx?_append]
  cases hx : (ns.take k).findIdx? (fun x => x.name.toList == s.toList) with
  | none => rw [hx] at h; simp at h
  | some j => rw [hx] at h; simpa using h
theorem find_new (ns : List DNode) (k : Nat) (hk : k < ns.length) (h : findI ns k ns[k].name < 0) : findI ns (k + 1) ns[k].name = k := by
  unfold findI at *
  rw [List.take_succ_eq_append_getElem hk, List.findIdx?_append]
  cases hx : (ns.take k).findIdx? (fun x => x.name.toList == ns[k].name.toList) with
  | some j => rw [hx] at h; simp at h; omega
  | none =>
    have : min k ns.length = k := by omega
    simp [List.findIdx?_cons, this]
theorem find_other (ns : List DNode) (k : Nat) (s : ByteArray) (hk : k < ns.length) (h : findI ns k s < 0) (hs : s ≠ ns[k].name) : findI ns (k + 1) s < 0 := by
  have hne : (ns[k].name.toList == s.toList) = false := by
    cases hb : (ns[k].name.toList == s.toList)
    · rfl
    · exact absurd ((name_eq _ _).1 hb) hs
  unfold findI at *
  rw [List.take_succ_eq_append_getElem hk, List.findIdx?_append]
  cases hx : (ns.take k).findIdx? (fun x => x.name.toList == s.toList) with
  | some j => rw [hx] at h; simp at h; omega
  | none => simp [List.findIdx?_cons, hne]
theorem find_back (ns : List DNode) (k i : Nat) (s : ByteArray) (hk : k < ns.length) (h : findI ns (k + 1) s = i) : findI ns k s = i ∨ (findI ns k s < 0 ∧ s = ns[k].name ∧ i = k) := by
  by_cases hf : findI ns k s < 0
  · by_cases hs : s = ns[k].name
    · subst hs
      have := find_new ns k hk hf
      exact Or.inr ⟨hf, rfl, by omega⟩
    · have := find_other ns k s hk hf hs
      omega
  · obtain ⟨j, hj⟩ := Int.eq_ofNat_of_zero_le (show 0 ≤ findI ns k s by omega)
    have := find_old ns k j s hk hj
    refine Or.inl ?_
    rw [hj]
    omega

theorem ws_succ (ns : List DNode) (k : Nat) : wsTo ns (k + 1) = wsTo ns k ++ [match ns[k]? with | some n => ((wNodeTo ns k (wsTo ns k) n.eqs n.eqs.length : Nat) : Int) | none => 0] := rfl
theorem ws_old (ns : List DNode) (k i : Nat) (hi : i < k) : (wsTo ns (k + 1)).getD i 0 = (wsTo ns k).getD i 0 := by
  rw [ws_succ, List.getD_eq_getElem?_getD, List.getD_eq_getElem?_getD, List.getElem?_append_left (by rw [wsTo_length]; exact hi)]
theorem ws_new (ns : List DNode) (k : Nat) (hk : k < ns.length) : (wsTo ns (k + 1)).getD k 0 = ((wNodeTo ns k (wsTo ns k) ns[k].eqs ns[k].eqs.length : Nat) : Int) := by
  rw [ws_succ, List.getD_eq_getElem?_getD, List.getElem?_append_right (by rw [wsTo_length]; omega), wsTo_length, List.getElem?_eq_getElem hk]
  simp

/-- A node whose name is there already changes nothing. -/
theorem LibAt.same {w : World} {B b o : Nat} {ns : List DNode} {k : Nat} (h : LibAt w B b o ns k) (hk : k < ns.length) (hf : ¬ findI ns k ns[k].name < 0) : LibAt w B b o ns (k + 1) := by
  obtain ⟨f, h1, h2, h3⟩ := h
  refine ⟨f, h1.mono (Nat.le_succ _), fun s hs => ?_, fun s i hi => ?_⟩
  · by_cases hk2 : findI ns k s < 0
    · exact h2 s hk2
    · obtain ⟨j, hj⟩ := Int.eq_ofNat_of_zero_le (show 0 ≤ findI ns k s by omega)
      have := find_old ns k j s hk hj
      omega
  · rcases find_back ns k i s hk hi with hi | ⟨h4, rfl, _⟩
    · have hb := find_bd ns k s
      obtain ⟨m, a1, a2, a3, a4, a5⟩ := h3 s i hi
      exact ⟨m, a1, a2, a3, a4, by rw [ws_old ns k i (by omega)]; exact a5⟩
    · exact absurd h4 hf

/-- A new name. -/
theorem LibAt.more {w w1 w2 : World} {B b o : Nat} {ns : List DNode} {k : Nat} (h : LibAt w1 B b o ns k) (hk : k < ns.length) (hf : findI ns k ns[k].name < 0) (hk2 : k < maxLen) (hs : ns[k].name.size ≤ maxLen) (T : TypeId)
    (hw : w = w1.alloc (.cells #[.pointer (some ⟨b, o + k * 5, none⟩), .int .i64 ((wNodeTo ns k (wsTo ns k) ns[k].eqs ns[k].eqs.length : Nat) : Int)] T)) :
    ∃ w2, (Instr.mapUpdate 60 (.map (some B)) (.string ns[k].name) (.pointer (some ⟨w1.heap.size, 0, none⟩))).run Try.prog w = .ok () w2 ∧ LibAt w2 B b o ns (k + 1) ∧ Below B w1 w2 ∧ ∀ m j, m < w1.heap.size → m ≠ B → w2.cell? ⟨m, j, none⟩ = w1.cell? ⟨m, j, none⟩ := by
  obtain ⟨f, h1, h2, h3⟩ := h
  have hB := h1.lt
  have hbl : Below w1.heap.size w1 w := by rw [hw]; exact (Below.refl _ _).alloc (Nat.le_refl _) _
  obtain ⟨w2, f', hrun, hM, hfs, hfo, hg⟩ := (h1.below hbl).store (t := 60) Try.underlying9 Try.underlying60 hk2 hs (.pointer (some ⟨w1.heap.size, 0, none⟩))
  have hsz : w.heap.size = w1.heap.size + 1 := by rw [hw]; simp
  have hcell : ∀ m j, m < w.heap.size → m ≠ B → w2.cell? ⟨m, j, none⟩ = w.cell? ⟨m, j, none⟩ := fun m j hm hne => World.cell?_of_block (hg.block m hm (by simpa using hne))
  refine ⟨w2, hrun, ⟨f', hM, fun s hs => ?_, fun s i hi => ?_⟩, ⟨hg.os.trans hbl.os, hg.tape.trans hbl.tape, hg.output.trans hbl.output, Nat.le_trans hbl.size hg.size, fun j hj => ?_⟩, fun m j hm hne => by rw [hcell m j (by omega) hne]; exact hbl.cell (p := ⟨m, j, none⟩) hm⟩
  · have hne : s ≠ ns[k].name := fun e => by
      subst e
      have := find_new ns k hk hf
      omega
    rw [hfo s hne]
    by_cases hk2 : findI ns k s < 0
    · exact h2 s hk2
    · obtain ⟨j, hj⟩ := Int.eq_ofNat_of_zero_le (show 0 ≤ findI ns k s by omega)
      have := find_old ns k j s hk hj
      omega
  · rcases find_back ns k i s hk hi with hi | ⟨h4, rfl, rfl⟩
    · have hb := find_bd ns k s
      have hne : s ≠ ns[k].name := fun e => by
        subst e
        omega
      obtain ⟨m, a1, a2, a3, a4, a5⟩ := h3 s i hi
      refine ⟨m, by rw [hfo s hne]; exact a1, a2, by have := hg.size; omega, ?_, ?_⟩
      · rw [hcell m 0 (by omega) a2, hbl.cell (p := ⟨m, 0, none⟩) a3]; exact a4
      · rw [hcell m 1 (by omega) a2, hbl.cell (p := ⟨m, 1, none⟩) a3, ws_old ns k i (by omega)]; exact a5
    · refine ⟨w1.heap.size, hfs, by omega, by have := hg.size; omega, ?_, ?_⟩
      · rw [hcell _ 0 (by omega) (by omega), hw]; simp
      · rw [hcell _ 1 (by omega) (by omega), hw, ws_new ns _ hk]; simp
  · rw [hg.block j (by omega) (by simp; omega)]
    exact hbl.block j (by omega)

set_option maxHeartbeats 1000000 in
theorem add_ok (ns : List DNode) (k : Nat) (hk : k < ns.length) (B b o : Nat) (w : World) (h : At 5 RNode w b (o + k * 5) ns[k]) (hL : LibAt w B b o ns k) (hS : NSmall ns[k]) (hE : ∀ e, e ∈ ns[k].eqs → e.call.size = 0 → findI ns k e.call < 0) (hk2 : k ≤ 200) :
    Calls Try.prog 38 #[.map (some B), .pointer (some ⟨b, o + k * 5, none⟩)] w fun e w' => e = .returned (.tuple #[]) ∧ LibAt w' B b o ns (k + 1) ∧ Below B w w' := by
  have HA := hide h
  obtain ⟨hbl, cs, hl, hc, v1, v2, v3, v4, rfl, hs, _, _, _, h4⟩ := h
  have k0 := hc 0 (by simp)
  simp only [List.getElem_cons_zero, List.getElem_cons_succ, Nat.add_zero] at k0
  have hnm : ns[k].name.size ≤ maxLen := by unfold Len at hs; unfold maxLen; omega
  have HL := hide hL
  have HWT := hide (fun w' (hb : Below w.heap.size w w') => weigh_ok ns k ns[k] B b o b (o + k * 5) w' ((unhide HA).stays RNode_kept hb) (hL.below hb) hS hE)
  obtain ⟨f, hM, hM0, hM1⟩ := hL
  have hlk := hM.look (t := 60) Try.underlying9 Try.underlying60 (zeroMem _) hnm
  by_cases hf : findI ns k ns[k].name < 0
  · rw [hM0 _ hf] at hlk
    have HMORE := hide (fun w' (hb : Below w.heap.size w w') w'' e => ((unhide HL).below hb).more (w := w'') (w2 := w'') hk hf (by unfold maxLen; omega) hnm 86 e)
    have HX : Hid (∀ w', Below w.heap.size w w' → ∃ w2, (Instr.mapUpdate 60 (.map (some B)) (.string ns[k].name) (.pointer (some ⟨w'.heap.size, 0, none⟩))).run Try.prog (w'.alloc (.cells #[.pointer (some ⟨b, o + k * 5, none⟩), .int .i64 ((wNodeTo ns k (wsTo ns k) ns[k].eqs ns[k].eqs.length : Nat) : Int)] 86)) = .ok () w2 ∧ LibAt w2 B b o ns (k + 1) ∧ Below B w w2 ∧ w2.cell? ⟨b, o + k * 5, none⟩ = some (.string ns[k].name)) := fun w' hb => by
      obtain ⟨w2, r1, r2, r3, r4⟩ := unhide HMORE w' hb _ rfl
      have hne : b ≠ B := fun e => by
        subst e
        rw [hM.nocell] at k0
        cases k0
      exact ⟨w2, r1, r2, (hb.mono (Nat.le_of_lt hM.lt)).trans r3, by rw [r4 b _ (Nat.lt_of_lt_of_le hbl hb.size) hne, hb.cell (p := ⟨b, _, none⟩) hbl]; exact k0⟩
    have HW2 : Hid (Calls Try.prog 22 #[.map (some B), .pointer (some ⟨b, o + k * 5, none⟩)] w.drew fun e w' => e = .returned (.int .i64 ((wNodeTo ns k (wsTo ns k) ns[k].eqs ns[k].eqs.length : Nat) : Int)) ∧ Hid (Below w.heap.size w w') ∧ w'.cell? ⟨b, o + k * 5, none⟩ = some (.string ns[k].name)) := by
      refine (unhide HWT w.drew ((Below.refl _ w).drew)).mono ?_
      rintro e w' ⟨rfl, h9⟩
      have h8 : Below w.heap.size w w' := ((Below.refl _ w).drew).trans h9
      exact ⟨rfl, h8, by rw [h8.cell (p := ⟨b, _, none⟩) hbl]; exact k0⟩
    clear HMORE HWT hM hM0 hM1 HL HA hc hE hS
    generalize ns[k].name = nm at *
    generalize wNodeTo ns k (wsTo ns k) ns[k].eqs ns[k].eqs.length = wt at *
    go_enter Try.func38, Try.ntmps38
    go_wp2_with fail
    go_region_held3 (fun w' => w'.cell? ⟨b, o + k * 5, none⟩ = some (.string nm)) (go_keep) (first | (go_at_call 22; refine (unhide HW2).mono ?_; rintro e w6 ⟨rfl, HB6, q1⟩; obtain ⟨w2, hr2, hr3, hr4, hr5⟩ := unhide HX w6 (unhide HB6)))
    go_end0
    exact ⟨rfl, hr3, hr4⟩
  · have hfb := find_bd ns k ns[k].name
    obtain ⟨i, hi⟩ := Int.eq_ofNat_of_zero_le (show 0 ≤ findI ns k ns[k].name by omega)
    obtain ⟨m, g1, g2, g3, g4, g5⟩ := hM1 _ i hi
    rw [g1] at hlk
    have HS := hide ((unhide HL).same hk hf)
    clear HWT hM hM0 hM1 HL HA hc hE hS g1 g4 g5
    generalize ns[k].name = nm at *
    go_enter Try.func38, Try.ntmps38
    go_wp2
    go_end0
    exact ⟨rfl, unhide HS, Below.refl _ _⟩

end Go.Proofs.Ytnfgcklppaknbaa
