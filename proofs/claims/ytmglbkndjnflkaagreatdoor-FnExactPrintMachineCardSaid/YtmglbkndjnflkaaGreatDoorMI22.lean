import Derived.Test.YtmglbkndjnflkaaGreatDoorMI21
import Derived.Test.YtmglbkndjnflkaaGreatDoorM11
namespace Go.Proofs.YtmglbkndjnflkaaGreatDoor
open Go.RowKit
set_option linter.unusedSimpArgs false
set_option linter.unusedVariables false

def fTo (ks : List DClass) : Nat → List (List Int)
  | 0 => []
  | n + 1 => fTo ks n ++ [match ks[n]? with | some k => firstTo (fTo ks n) k.mems k.insts k.insts.length | none => []]
def rTo (ks : List DClass) : Nat → List Int
  | 0 => []
  | n + 1 => rTo ks n ++ [match ks[n]? with | some k => ((varsOf k).length : Int) + roomTo (rTo ks n) k.insts k.insts.length | none => 0]
def kTo (ks : List DClass) : Nat → List Int
  | 0 => []
  | n + 1 => kTo ks n ++ [match ks[n]? with | some k => costK ks k (kTo ks n) | none => 0]
theorem fTo_len (ks : List DClass) (n : Nat) : (fTo ks n).length = n := by
  induction n with
  | zero => rfl
  | succ n ih => rw [fTo, List.length_append, ih]; rfl
theorem rTo_len (ks : List DClass) (n : Nat) : (rTo ks n).length = n := by
  induction n with
  | zero => rfl
  | succ n ih => rw [rTo, List.length_append, ih]; rfl
theorem kTo_len (ks : List DClass) (n : Nat) : (kTo ks n).length = n := by
  induction n with
  | zero => rfl
  | succ n ih => rw [kTo, List.length_append, ih]; rfl
def newName (ks : List DClass) (i : Nat) : Bool := match ks[i]? with
  | some k => (List.range i).all (fun j => !(match ks[j]? with | some y => y.name.toList == k.name.toList | none => false))
  | none => false
def okAt (ks : List DClass) (i : Nat) : Bool := match ks[i]? with
  | some k => planB ks k (fTo ks i) (kTo ks i) && newName ks i
  | none => false
def plansB (ks : List DClass) : Bool := decide (ks.length ≤ 200) && (List.range ks.length).all (okAt ks)

theorem planB_gives (ks : List DClass) (k : DClass) (fs : List (List Int)) (known : List Int) (h : planB ks k fs known = true) : (declB k = true ∧ ownB fs k = true ∧ k.body.length ≤ 30000 ∧ buildB ks k known = true) ∧ (k.ins.length ≤ 1000 ∧ k.outs.length ≤ 1000) ∧ (costK ks k known ≤ 400000) := by
  unfold planB at h
  simp only [Bool.and_eq_true] at h
  obtain ⟨_, h2, h3, h4, h5⟩ := h
  have h6 := h2
  unfold declB at h6
  rw [Bool.and_eq_true] at h6
  have h7 := of_decide_eq_true h6.1
  refine ⟨⟨h2, h3, of_decide_eq_true h4, h5⟩, ⟨by omega, by omega⟩, ?_⟩
  unfold buildB at h5
  unfold costK
  split at h5
  · rename_i t heq
    rw [heq]
    exact of_decide_eq_true h5
  · cases h5
theorem zeroPlan (w : World) : (zeroValue 95).run Tryz.prog w = .ok (.pointer none) w := by kernel_rfl
theorem newName_iff (ks : List DClass) (i : Nat) (hi : i < ks.length) : newName ks i = true ↔ ∀ j (hj : j < ks.length), j < i → ks[j].name ≠ ks[i].name := by
  unfold newName
  rw [List.getElem?_eq_getElem hi]
  simp only
  rw [List.all_eq_true]
  constructor
  · intro h j hj hji e
    have h9 := h j (List.mem_range.2 hji)
    rw [List.getElem?_eq_getElem hj] at h9
    simp [e] at h9
  · intro h j hj
    rw [List.mem_range] at hj
    rw [List.getElem?_eq_getElem (by omega)]
    have := h j (by omega) hj
    simp only [bytes_toList]
    simpa using this
theorem costK_nn (ks : List DClass) (k : DClass) (known : List Int) (hk : ∀ x, x ∈ known → 0 ≤ x ∧ x ≤ 400000) : 0 ≤ costK ks k known := by
  unfold costK
  split
  · exact (cost_bd _ (fun s => by have := getD_bd known 400000 (by omega) hk (k.insts.getD s.at_.toNat 0).toNat; exact ⟨this.1, Int.le_trans this.2 (by omega)⟩) _ 0 (by omega) (by omega)).1
  · omega
/-- One plan more. -/
theorem EP.next {P : Nat → Prop} {w : World} {ks : List DClass} {b0 o0 : Nat} {pl : List Nat} {i : Nat} (h : EP P w ks b0 o0 pl (fTo ks i) (rTo ks i) (kTo ks i)) (hi : i < ks.length) (hpl : pl.length = i) (h200 : ks.length ≤ 200) (hr : ∀ x, x ∈ rTo ks i → x ≤ 1000 * i) (hok : planB ks ks[i] (fTo ks i) (kTo ks i) = true) {pb : Nat} (hp : PA P w b0 o0 i pb (firstTo (fTo ks i) ks[i].mems ks[i].insts ks[i].insts.length) (costK ks ks[i] (kTo ks i)) (((varsOf ks[i]).length : Int) + roomTo (rTo ks i) ks[i].insts ks[i].insts.length)) :
    EP P w ks b0 o0 (pl ++ [pb]) (fTo ks (i + 1)) (rTo ks (i + 1)) (kTo ks (i + 1)) ∧ ∀ x, x ∈ rTo ks (i + 1) → x ≤ 1000 * (i + 1) := by
  obtain ⟨⟨g1, g2, _, _⟩, g5, g6⟩ := planB_gives _ _ _ _ hok
  have ef : fTo ks (i + 1) = fTo ks i ++ [firstTo (fTo ks i) ks[i].mems ks[i].insts ks[i].insts.length] := by rw [fTo, List.getElem?_eq_getElem hi]
  have er : rTo ks (i + 1) = rTo ks i ++ [((varsOf ks[i]).length : Int) + roomTo (rTo ks i) ks[i].insts ks[i].insts.length] := by rw [rTo, List.getElem?_eq_getElem hi]
  have ek : kTo ks (i + 1) = kTo ks i ++ [costK ks ks[i] (kTo ks i)] := by rw [kTo, List.getElem?_eq_getElem hi]
  have hvl := declB_len _ g1
  have hrm : roomTo (rTo ks i) ks[i].insts ks[i].insts.length ≤ 1000 * i := by
    have : ∀ q, roomTo (rTo ks i) ks[i].insts q ≤ 1000 * i := fun q => by
      induction q with
      | zero => simp only [roomTo]; omega
      | succ q ih =>
        simp only [roomTo, maxS]
        split
        · rw [List.getD_eq_getElem?_getD]
          cases hx : (rTo ks i)[(ks[i].insts.getD q 0).toNat]? with
          | none => simp; omega
          | some x => exact hr x (List.mem_of_getElem? hx)
        · exact ih
    exact this _
  have hr0 := (room_bd (rTo ks i) ks[i].insts h.rb ks[i].insts.length).1
  constructor
  · refine ⟨by rw [fTo_len]; simp [hpl], by rw [rTo_len]; simp [hpl], by rw [kTo_len]; simp [hpl], by simp; omega, ?_, ?_, ?_, ?_, ?_⟩
    · intro j a b c d
      rw [List.length_append, List.length_singleton] at a
      simp only [ef, er, ek]
      by_cases e : j = i
      · subst e
        rw [List.getElem_append_right (by omega), List.getElem_append_right (by rw [fTo_len]; omega), List.getElem_append_right (by rw [kTo_len]; omega), List.getElem_append_right (by rw [rTo_len]; omega)]
        simpa using hp
      · rw [List.getElem_append_left (by omega), List.getElem_append_left (by rw [fTo_len]; omega), List.getElem_append_left (by rw [kTo_len]; omega), List.getElem_append_left (by rw [rTo_len]; omega)]
        exact h.pa j (by omega) (by rw [fTo_len]; omega) (by rw [kTo_len]; omega) (by rw [rTo_len]; omega)
    · intro x hx
      rw [ef] at hx
      rcases List.mem_append.1 hx with hx | hx
      · exact h.fb x hx
      · rw [List.mem_singleton] at hx
        subst hx
        exact ownB_len _ _ g2
    · intro x hx
      rw [er] at hx
      rcases List.mem_append.1 hx with hx | hx
      · exact h.rb x hx
      · rw [List.mem_singleton] at hx
        subst hx
        omega
    · intro x hx
      rw [ek] at hx
      rcases List.mem_append.1 hx with hx | hx
      · exact h.kb x hx
      · rw [List.mem_singleton] at hx
        subst hx
        exact ⟨costK_nn _ _ _ h.kb, g6⟩
    · intro j hj hjl
      rw [List.length_append, List.length_singleton] at hjl
      by_cases e : j = i
      · subst e; exact g5
      · exact h.gb j hj (by omega)
  · intro x hx
    rw [er] at hx
    rcases List.mem_append.1 hx with hx | hx
    · have := hr x hx; omega
    · rw [List.mem_singleton] at hx
      subst hx
      omega

/-- What a machine's plans are asked to answer. -/
def PsPost (ks : List DClass) (b0 o0 : Nat) (w : World) (R : Bool) (e : Ending) (w' : World) : Prop :=
  (R = false → e = .returned (.slice none 0 0)) ∧ (R = true → ∃ v pl, e = .returned v ∧ pl.length = ks.length ∧ SlAt 1 8 RPtr 0 w' v pl ∧ EP (fun _ => True) w' ks b0 o0 pl (fTo ks ks.length) (rTo ks ks.length) (kTo ks ks.length)) ∧ Below w.heap.size w w'

end Go.Proofs.YtmglbkndjnflkaaGreatDoor
/- The plans and the checks of the model: plain mathematics. -/
namespace Go.Proofs.YtmglbkndjnflkaaGreatDoor
open Go.RowKit
set_option linter.unusedSimpArgs false
set_option linter.unusedVariables false

def NM (L : List ByteArray) : Prop := ∀ j (h : j < L.length), nmOKB (L.take j) L[j] = true
theorem nm_var (L : List ByteArray) (j : Nat) (h : j < L.length) : nmOKB (L.take j) L[j] = !varBad L j := by
  unfold nmOKB varBad
  rw [List.getElem?_eq_getElem h]
  simp only
  rw [Bool.eq_iff_iff, Bool.and_eq_true, decide_eq_true_iff, place_neg]
  rw [Bool.not_eq_true', Bool.or_eq_false_iff, decide_eq_false_iff_not, place_first L j h, Bool.not_eq_false']
  rw [and_comm]
  refine and_congr_right (fun _ => ?_)
  constructor
  · rintro h1 ⟨i, hi, hij, e⟩
    exact h1 _ (by rw [List.mem_take_iff_getElem]; exact ⟨i, by omega, rfl⟩) e
  · intro h1 x hx e
    rw [List.mem_take_iff_getElem] at hx
    obtain ⟨i, hi, rfl⟩ := hx
    exact h1 ⟨i, by omega, by omega, e⟩
theorem NM_iff (L : List ByteArray) : NM L ↔ (List.range L.length).all (fun j => !varBad L j) = true := by
  rw [List.all_eq_true]
  constructor
  · intro h j hj
    rw [← nm_var L j (List.mem_range.1 hj)]
    exact h j _
  · intro h j hj
    rw [nm_var L j hj]
    exact h j (List.mem_range.2 hj)
theorem NM_app (A B : List ByteArray) : NM (A ++ B) ↔ NM A ∧ ∀ j (h : j < B.length), nmOKB (A ++ B.take j) B[j] = true := by
  constructor
  · intro h
    refine ⟨fun j hj => ?_, fun j hj => ?_⟩
    · have := h j (by rw [List.length_append]; omega)
      rwa [List.take_append_of_le_length (by omega), List.getElem_append_left hj] at this
    · have := h (A.length + j) (by rw [List.length_append]; omega)
      rw [List.getElem_append_right (by omega)] at this
      simp only [Nat.add_sub_cancel_left] at this
      rwa [List.take_length_add_append] at this
  · rintro ⟨h1, h2⟩ j hj
    rw [List.length_append] at hj
    by_cases e : j < A.length
    · rw [List.take_append_of_le_length (by omega), List.getElem_append_left e]
      exact h1 j e
    · rw [List.getElem_append_right (by omega)]
      obtain ⟨q, rfl⟩ : ∃ q, j = A.length + q := ⟨j - A.length, by omega⟩
      simp only [Nat.add_sub_cancel_left]
      rw [List.take_length_add_append]
      exact h2 q (by omega)
theorem qSlot_all (pre : List ByteArray) (xs : List DSlot) : (List.range xs.length).all (qSlot pre xs) = true ↔ (∀ t, t ∈ xs → t.type = 1 ∨ t.type = 2) ∧ ∀ j (h : j < (xs.map DSlot.name).length), nmOKB (pre ++ (xs.map DSlot.name).take j) (xs.map DSlot.name)[j] = true := by
  rw [List.all_eq_true]
  constructor
  · intro h
    have hh : ∀ j (hj : j < xs.length), (xs[j].type = 1 ∨ xs[j].type = 2) ∧ nmOKB (pre ++ (xs.map DSlot.name).take j) xs[j].name = true := fun j hj => by
      have h9 := h j (List.mem_range.2 hj)
      unfold qSlot slOKB at h9
      rw [List.getElem?_eq_getElem hj] at h9
      simp only [Bool.and_eq_true, decide_eq_true_iff] at h9
      rw [List.map_take] at h9
      exact h9
    refine ⟨fun t ht => ?_, fun j hj => ?_⟩
    · obtain ⟨j, hj, rfl⟩ := List.getElem_of_mem ht
      exact (hh j hj).1
    · rw [List.length_map] at hj
      rw [List.getElem_map]
      exact (hh j hj).2
  · rintro ⟨h1, h2⟩ j hj
    rw [List.mem_range] at hj
    unfold qSlot slOKB
    rw [List.getElem?_eq_getElem hj]
    simp only [Bool.and_eq_true, decide_eq_true_iff]
    have h9 := h2 j (by rw [List.length_map]; exact hj)
    rw [List.getElem_map] at h9
    rw [List.map_take]
    exact ⟨h1 _ (List.getElem_mem hj), h9⟩
theorem qName_all (pre : List ByteArray) (xs : List ByteArray) : (List.range xs.length).all (qName pre xs) = true ↔ ∀ j (h : j < xs.length), nmOKB (pre ++ xs.take j) xs[j] = true := by
  rw [List.all_eq_true]
  constructor
  · intro h j hj
    have h9 := h j (List.mem_range.2 hj)
    unfold qName at h9
    rw [List.getElem?_eq_getElem hj] at h9
    exact h9
  · intro h j hj
    rw [List.mem_range] at hj
    unfold qName
    rw [List.getElem?_eq_getElem hj]
    exact h j hj
theorem decl_iff (k : DClass) : declB k = true ↔ 1 ≤ k.outs.length ∧ (varsOf k).length ≤ 1000 ∧ (List.range (varsOf k).length).all (fun j => !varBad (varsOf k) j) = true ∧ (k.ins ++ k.outs).all (fun t => decide (1 ≤ t.type ∧ t.type ≤ 2)) = true := by
  unfold declB
  rw [Bool.and_eq_true, Bool.and_eq_true, Bool.and_eq_true, decide_eq_true_iff, qSlot_all, qSlot_all, qName_all, ← NM_iff]
  have hv : (varsOf k).length = k.ins.length + k.outs.length + k.locs.length := by unfold varsOf; simp; omega
  have e1 : NM (varsOf k) ↔ (NM (k.ins.map DSlot.name ++ k.outs.map DSlot.name) ∧ ∀ j (h : j < k.locs.length), nmOKB ((k.ins.map DSlot.name ++ k.outs.map DSlot.name) ++ k.locs.take j) k.locs[j] = true) := by unfold varsOf; exact NM_app _ _
  rw [e1, NM_app, hv]
  have e2 : NM (k.ins.map DSlot.name) ↔ ∀ j (h : j < (k.ins.map DSlot.name).length), nmOKB ([] ++ (k.ins.map DSlot.name).take j) (k.ins.map DSlot.name)[j] = true := by
    unfold NM
    simp only [List.nil_append]
  rw [← e2, List.all_append, Bool.and_eq_true, List.all_eq_true, List.all_eq_true]
  simp only [decide_eq_true_iff]
  have e3 : ∀ xs : List DSlot, (∀ t, t ∈ xs → t.type = 1 ∨ t.type = 2) ↔ ∀ t, t ∈ xs → 1 ≤ t.type ∧ t.type ≤ 2 := fun xs => ⟨fun h t ht => by have := h t ht; omega, fun h t ht => by have := h t ht; omega⟩
  rw [e3, e3]
  constructor
  · rintro ⟨⟨a1, a2⟩, ⟨⟨b1, b2⟩, c1, c2⟩, d⟩
    exact ⟨a1, a2, ⟨⟨b2, c2⟩, d⟩, b1, c1⟩
  · rintro ⟨a1, a2, ⟨⟨b2, c2⟩, d⟩, b1, c1⟩
    exact ⟨⟨a1, a2⟩, ⟨⟨b1, b2⟩, c1, c2⟩, d⟩

/-! ### Cells -/
theorem first_sum (fs : List (List Int)) (cs mems insts : List Int) (hc : ∀ j, cs.getD j 0 = ((fs.getD j []).length : Int)) (q : Nat) (hq : q ≤ insts.length) : ((firstTo fs mems insts q).length : Int) = cSum cs mems.length insts q := by
  induction q with
  | zero => rw [firstTo_zero]; rfl
  | succ q ih =>
    rw [firstTo_succ fs mems insts q (by omega), List.length_append, Int.natCast_add, ih (by omega), cSum, hc]
    rw [List.getD_eq_getElem?_getD (l := insts), List.getElem?_eq_getElem (by omega), Option.getD_some]
theorem first_mono (fs : List (List Int)) (mems insts : List Int) (q : Nat) (hq : q < insts.length) : (firstTo fs mems insts q).length ≤ (firstTo fs mems insts (q + 1)).length := by
  rw [firstTo_succ fs mems insts q hq, List.length_append]; omega
theorem first_all (fs : List (List Int)) (mems insts : List Int) (d : Nat) : ∀ q, q + d = insts.length → (firstTo fs mems insts q).length ≤ (firstTo fs mems insts insts.length).length := by
  induction d with
  | zero => intro q h; rw [← h]; exact Nat.le_refl _
  | succ d ih => intro q h; exact Nat.le_trans (first_mono fs mems insts q (by omega)) (ih (q + 1) (by omega))
theorem own_iff (fs : List (List Int)) (k : DClass) : ownB fs k = true ↔ (k.mems.length ≤ 1000 ∧ k.insts.length ≤ 1000) ∧ k.mems.all memB = true ∧ k.insts.all (fun g => decide (0 ≤ g ∧ g < (fs.length : Int))) = true ∧ (firstTo fs k.mems k.insts k.insts.length).length ≤ 20000 := by
  have hm : k.mems.all memB = k.mems.all valB := by congr 1; funext v; exact mem_val v
  rw [hm]
  constructor
  · intro h
    have hl := ownB_len fs k h
    unfold ownB at h
    simp only [Bool.and_eq_true, List.all_eq_true, decide_eq_true_iff] at h
    obtain ⟨h1, h2, h3⟩ := h
    refine ⟨h1, List.all_eq_true.2 h2, List.all_eq_true.2 (fun g hg => ?_), hl⟩
    obtain ⟨j, hj, rfl⟩ := List.getElem_of_mem hg
    have h9 := h3 j (List.mem_range.2 hj)
    unfold ownOne at h9
    rw [List.getElem?_eq_getElem hj] at h9
    simp only [Bool.and_eq_true] at h9
    exact h9.1
  · rintro ⟨h1, h2, h3, h4⟩
    unfold ownB
    rw [Bool.and_eq_true, Bool.and_eq_true, decide_eq_true_iff]
    refine ⟨h1, h2, List.all_eq_true.2 (fun j hj => ?_)⟩
    rw [List.mem_range] at hj
    unfold ownOne
    rw [List.getElem?_eq_getElem hj]
    simp only [Bool.and_eq_true, decide_eq_true_iff]
    have h9 := List.all_eq_true.1 h3 _ (List.getElem_mem hj)
    refine ⟨of_decide_eq_true h9, ?_⟩
    exact Nat.le_trans (first_all fs k.mems k.insts (k.insts.length - (j + 1)) (j + 1) (by omega)) h4

/-! ### Bodies -/
theorem build_iff (ks : List DClass) (k : DClass) (known : List Int) : buildB ks k known = true ↔ bodyB ks k = true ∧ sumF (k.body.length + 1) (costs k.insts known k.body) ≤ 400000 := by
  rw [body_tree]
  unfold buildB
  constructor
  · intro h
    split at h
    · rename_i t heq
      refine ⟨⟨t, heq⟩, ?_⟩
      rw [body_sum ks k known t heq]
      exact of_decide_eq_true h
    · cases h
  · rintro ⟨⟨t, heq⟩, h⟩
    rw [heq]
    simp only
    rw [body_sum ks k known t heq] at h
    exact decide_eq_true h
theorem cost_sum (ks : List DClass) (k : DClass) (known : List Int) (h : bodyB ks k = true) : costK ks k known = sumF (k.body.length + 1) (costs k.insts known k.body) := by
  obtain ⟨t, heq⟩ := (body_tree ks k).1 h
  rw [body_sum ks k known t heq]
  unfold costK
  rw [heq]

/-! ### A class -/
def cAt (ks : List DClass) (i : Nat) : Int := (cTo ks (i + 1)).getD i 0
def bAt (ks : List DClass) (i : Nat) : Int := (bTo ks (i + 1)).getD i 0
theorem cTo_get (ks : List DClass) (n j : Nat) (h : j < n) : (cTo ks n).getD j 0 = cAt ks j := by
  induction n with
  | zero => omega
  | succ n ih =>
    by_cases e : j = n
    · subst e; rfl
    · rw [cTo, List.getD_eq_getElem?_getD, List.getElem?_append_left (by rw [cTo_length]; omega), ← List.getD_eq_getElem?_getD]
      exact ih (by omega)
theorem bTo_get (ks : List DClass) (n j : Nat) (h : j < n) : (bTo ks n).getD j 0 = bAt ks j := by
  induction n with
  | zero => omega
  | succ n ih =>
    by_cases e : j = n
    · subst e; rfl
    · rw [bTo, List.getD_eq_getElem?_getD, List.getElem?_append_left (by rw [bTo_length]; omega), ← List.getD_eq_getElem?_getD]
      exact ih (by omega)
theorem cAt_eq (ks : List DClass) (i : Nat) (hi : i < ks.length) : cAt ks i = capC (cSum (cTo ks i) ks[i].mems.length ks[i].insts ks[i].insts.length) := by
  unfold cAt
  rw [cTo, List.getD_eq_getElem?_getD, List.getElem?_append_right (by rw [cTo_length]; exact Nat.le_refl _), cTo_length, Nat.sub_self, List.getElem?_eq_getElem hi]
  rfl
theorem bAt_eq (ks : List DClass) (i : Nat) (hi : i < ks.length) : bAt ks i = sumF (ks[i].body.length + 1) (costs ks[i].insts (bTo ks i) ks[i].body) := by
  unfold bAt
  rw [bTo, List.getD_eq_getElem?_getD, List.getElem?_append_right (by rw [bTo_length]; exact Nat.le_refl _), bTo_length, Nat.sub_self, List.getElem?_eq_getElem hi]
  rfl
theorem capC_iff (n : Int) : capC n ≤ 20000 ↔ n ≤ 20000 := by unfold capC; split <;> omega
theorem capC_le (n : Int) (h : n ≤ 20000) : capC n = n := by unfold capC; rw [if_neg (by omega)]
theorem class_iff (ks : List DClass) (i : Nat) (hi : i < ks.length) : classB ks i = true ↔ nameB ks[i].name = true ∧ declB ks[i] = true ∧ ((ks[i].mems.length ≤ 1000 ∧ ks[i].insts.length ≤ 1000) ∧ ks[i].mems.all memB = true ∧ ks[i].insts.all (fun g => decide (0 ≤ g ∧ g < (i : Int))) = true) ∧ ks[i].body.length ≤ 30000 ∧ bodyB ks ks[i] = true ∧ newName ks i = true := by
  unfold classB newName bodyB
  rw [List.getElem?_eq_getElem hi, decl_iff]
  simp only [Bool.and_eq_true, decide_eq_true_iff]
  constructor
  · rintro ⟨⟨⟨⟨⟨a1, a2⟩, a3⟩, a4⟩, a5⟩, b, c, d, e, f, g, h, j, l⟩
    exact ⟨a1, ⟨a2, c, d, e⟩, ⟨⟨a3, a4⟩, f, g⟩, a5, ⟨h, j, l⟩, b⟩
  · rintro ⟨a1, ⟨a2, c, d, e⟩, ⟨⟨a3, a4⟩, f, g⟩, a5, ⟨h, j, l⟩, b⟩
    exact ⟨⟨⟨⟨⟨a1, a2⟩, a3⟩, a4⟩, a5⟩, b, c, d, e, f, g, h, j, l⟩
/-- What holds of the classes before. -/
def Same (ks : List DClass) (i : Nat) : Prop := kTo ks i = bTo ks i ∧ ∀ j, (cTo ks i).getD j 0 = (((fTo ks i).getD j []).length : Int)
theorem ok_iff (ks : List DClass) (i : Nat) (hi : i < ks.length) (hs : Same ks i) : okAt ks i = true ↔ classB ks i = true ∧ cAt ks i ≤ 20000 ∧ bAt ks i ≤ 400000 := by
  obtain ⟨s1, s2⟩ := hs
  have hsum := first_sum (fTo ks i) (cTo ks i) ks[i].mems ks[i].insts s2 ks[i].insts.length (Nat.le_refl _)
  rw [class_iff ks i hi, cAt_eq ks i hi, bAt_eq ks i hi, capC_iff, ← hsum]
  unfold okAt planB
  rw [List.getElem?_eq_getElem hi]
  simp only [Bool.and_eq_true, decide_eq_true_iff]
  rw [own_iff, build_iff, s1, fTo_len]
  constructor
  · rintro ⟨⟨a, b, ⟨c1, c2, c3, c4⟩, d, e1, e2⟩, f⟩
    exact ⟨⟨a, b, ⟨c1, c2, c3⟩, d, e1, f⟩, by omega, e2⟩
  · rintro ⟨⟨a, b, ⟨c1, c2, c3⟩, d, e1, f⟩, c4, e2⟩
    exact ⟨⟨a, b, ⟨c1, c2, c3, by omega⟩, d, e1, e2⟩, f⟩
theorem same_next (ks : List DClass) (i : Nat) (hi : i < ks.length) (hs : Same ks i) (hok : okAt ks i = true) : Same ks (i + 1) := by
  have h0 := (ok_iff ks i hi hs).1 hok
  have hcl := (class_iff ks i hi).1 h0.1
  obtain ⟨s1, s2⟩ := hs
  constructor
  · rw [kTo, bTo, s1, List.getElem?_eq_getElem hi]
    show bTo ks i ++ [costK ks ks[i] (bTo ks i)] = _
    rw [cost_sum ks ks[i] _ hcl.2.2.2.2.1]
  · intro j
    have hsum := first_sum (fTo ks i) (cTo ks i) ks[i].mems ks[i].insts s2 ks[i].insts.length (Nat.le_refl _)
    have hc := h0.2.1
    rw [cAt_eq ks i hi, capC_iff] at hc
    by_cases e : j < i
    · rw [cTo_get ks (i + 1) j (by omega), ← cTo_get ks i j e, s2 j]
      rw [fTo, List.getD_eq_getElem?_getD (l := fTo ks i ++ _), List.getElem?_append_left (by rw [fTo_len]; exact e), ← List.getD_eq_getElem?_getD]
    · by_cases e2 : j = i
      · subst e2
        rw [cTo_get ks (j + 1) j (by omega), cAt_eq ks j hi, capC_le _ hc, ← hsum]
        rw [fTo, List.getD_eq_getElem?_getD (l := fTo ks j ++ _), List.getElem?_append_right (by rw [fTo_len]; exact Nat.le_refl _), fTo_len, Nat.sub_self, List.getElem?_eq_getElem hi]
        rfl
      · rw [List.getD_eq_getElem?_getD, List.getElem?_eq_none (by rw [cTo_length]; omega), List.getD_eq_getElem?_getD, List.getElem?_eq_none (by rw [fTo_len]; omega)]
        rfl
theorem same_zero (ks : List DClass) : Same ks 0 := ⟨rfl, fun j => by simp [cTo, fTo]⟩
theorem same_to (ks : List DClass) (n : Nat) (hn : n ≤ ks.length) (h : ∀ j, j < n → okAt ks j = true) : Same ks n := by
  induction n with
  | zero => exact same_zero ks
  | succ n ih => exact same_next ks n (by omega) (ih (by omega) (fun j hj => h j (by omega))) (h n (by omega))
theorem all_ok (ks : List DClass) (n : Nat) (hn : n ≤ ks.length) : (∀ j, j < n → okAt ks j = true) ↔ ∀ j, j < n → (classB ks j = true ∧ cAt ks j ≤ 20000 ∧ bAt ks j ≤ 400000) := by
  induction n with
  | zero => exact ⟨fun _ j hj => absurd hj (Nat.not_lt_zero _), fun _ j hj => absurd hj (Nat.not_lt_zero _)⟩
  | succ n ih =>
    have ih := ih (by omega)
    constructor
    · intro h j hj
      by_cases e : j = n
      · subst e
        exact (ok_iff ks j (by omega) (same_to ks j (by omega) (fun q hq => h q (by omega)))).1 (h j hj)
      · exact ih.1 (fun q hq => h q (by omega)) j (by omega)
    · intro h j hj
      have h9 := ih.2 (fun q hq => h q (by omega))
      by_cases e : j = n
      · subst e
        exact (ok_iff ks j (by omega) (same_to ks j (by omega) h9)).2 (h j hj)
      · exact h9 j (by omega)
theorem plans_mach (ks : List DClass) : (plansB ks && decide (1 ≤ ks.length)) = machB ks := by
  rw [Bool.eq_iff_iff]
  unfold plansB machB
  simp only [Bool.and_eq_true, decide_eq_true_iff]
  rw [List.all_eq_true, List.all_eq_true, List.all_eq_true, List.all_eq_true]
  simp only [List.mem_range, decide_eq_true_iff]
  have hc : (∀ x, x ∈ cTo ks ks.length → x ≤ 20000) ↔ ∀ j, j < ks.length → cAt ks j ≤ 20000 := by
    constructor
    · intro h j hj
      rw [← cTo_get ks ks.length j hj, List.getD_eq_getElem?_getD, List.getElem?_eq_getElem (by rw [cTo_length]; exact hj)]
      exact h _ (List.getElem_mem _)
    · intro h x hx
      obtain ⟨j, hj, rfl⟩ := List.getElem_of_mem hx
      rw [cTo_length] at hj
      have := h j hj
      rwa [← cTo_get ks ks.length j hj, List.getD_eq_getElem?_getD, List.getElem?_eq_getElem (by rw [cTo_length]; exact hj)] at this
  have hb : (∀ x, x ∈ bTo ks ks.length → x ≤ 400000) ↔ ∀ j, j < ks.length → bAt ks j ≤ 400000 := by
    constructor
    · intro h j hj
      rw [← bTo_get ks ks.length j hj, List.getD_eq_getElem?_getD, List.getElem?_eq_getElem (by rw [bTo_length]; exact hj)]
      exact h _ (List.getElem_mem _)
    · intro h x hx
      obtain ⟨j, hj, rfl⟩ := List.getElem_of_mem hx
      rw [bTo_length] at hj
      have := h j hj
      rwa [← bTo_get ks ks.length j hj, List.getD_eq_getElem?_getD, List.getElem?_eq_getElem (by rw [bTo_length]; exact hj)] at this
  rw [hc, hb]
  have ha := all_ok ks ks.length (Nat.le_refl _)
  constructor
  · rintro ⟨⟨h1, h2⟩, h3⟩
    have h4 := ha.1 h2
    exact ⟨⟨h3, h1⟩, fun j hj => (h4 j hj).1, fun j hj => (h4 j hj).2.1, fun j hj => (h4 j hj).2.2⟩
  · rintro ⟨⟨h3, h1⟩, h4, h5, h6⟩
    exact ⟨⟨h1, ha.2 (fun j hj => ⟨h4 j hj, h5 j hj, h6 j hj⟩)⟩, h3⟩
theorem plans_same (ks : List DClass) (h : plansB ks = true) : Same ks ks.length := by
  unfold plansB at h
  rw [Bool.and_eq_true, List.all_eq_true] at h
  exact same_to ks _ (Nat.le_refl _) (fun j hj => h.2 j (List.mem_range.2 hj))

end Go.Proofs.YtmglbkndjnflkaaGreatDoor
