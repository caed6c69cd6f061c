import Derived.Test.YtmglbkndjnflkaaGreatDoorEvI
import Derived.Test.YtmglbkndjnflkaaGreatDoorMData
import Derived.BigRegion
import Derived.Deep.QuietTactic
import Derived.BigQuiet
/- A plan under way: its variables. -/
namespace Go.Proofs.YtmglbkndjnflkaaGreatDoor
open Go.RowKit
set_option linter.unusedSimpArgs false
set_option linter.unusedVariables false

/-- Of the blocks that were there only those of S may have turned. -/
structure But (S : List Nat) (w w' : World) : Prop where
  os : w'.os = w.os
  tape : w'.tape = w.tape
  output : w'.output = w.output
  size : w.heap.size ≤ w'.heap.size
  block : ∀ k, k < w.heap.size → k ∉ S → w'.heap[k]? = w.heap[k]?

theorem But.refl (S : List Nat) (w : World) : But S w w := ⟨rfl, rfl, rfl, Nat.le_refl _, fun _ _ _ => rfl⟩
theorem But.trans {S : List Nat} {a b c : World} (h : But S a b) (k : But S b c) : But S a c :=
  ⟨k.os.trans h.os, k.tape.trans h.tape, k.output.trans h.output, Nat.le_trans h.size k.size, fun i hi hs => (k.block i (Nat.lt_of_lt_of_le hi h.size) hs).trans (h.block i hi hs)⟩
theorem But.of_below {S : List Nat} {w w' : World} (h : Below w.heap.size w w') : But S w w' := ⟨h.os, h.tape, h.output, h.size, fun k hk _ => h.block k hk⟩
theorem But.below {S : List Nat} {w w' : World} (h : But S w w') (B : Nat) (hB : B ≤ w.heap.size) (hs : ∀ k, k ∈ S → B ≤ k) : Below B w w' :=
  ⟨h.os, h.tape, h.output, h.size, fun k hk => h.block k (by omega) (fun e => by have := hs k e; omega)⟩
theorem But.mono {S T : List Nat} {w w' : World} (h : But S w w') (hs : ∀ k, k ∈ S → k ∈ T ∨ w.heap.size ≤ k) : But T w w' :=
  ⟨h.os, h.tape, h.output, h.size, fun k hk hn => h.block k hk (fun e => by rcases hs k e with h1 | h1; exact hn h1; omega)⟩
theorem But.grown {S : List Nat} {w w' : World} {g : Nat} (h : w.grownBy w' (some g)) (hg : g ∈ S ∨ w.heap.size ≤ g) : But S w w' :=
  ⟨h.os, h.tape, h.output, h.size, fun k hk hn => h.block k hk (fun e => by simp only [Option.some.injEq] at e; subst e; rcases hg with h1 | h1; exact hn h1; omega)⟩
theorem But.setCell {S : List Nat} (w : World) {p : Addr} (hp : p.block ∈ S) (u : Value) : But S w (w.setCell p u) :=
  ⟨rfl, rfl, rfl, by simp [World.setCell], fun k hk hn => Below.heap_setCell _ _ _ _ (fun e => hn (e ▸ hp))⟩
theorem But.alloc {S : List Nat} {a w : World} (h : But S a w) (o : Obj) : But S a (w.alloc o) :=
  h.trans (But.of_below ((Below.refl _ _).alloc (Nat.le_refl _) o))
theorem But.drew {S : List Nat} {a w : World} (h : But S a w) : But S a w.drew := ⟨h.os, h.tape, h.output, h.size, h.block⟩
theorem But.cell {S : List Nat} {w w' : World} (h : But S w w') {p : Addr} (hp : p.block < w.heap.size) (hn : p.block ∉ S) : w'.cell? p = w.cell? p := World.cell?_of_block (w := w) (h.block p.block hp hn)
theorem But.blk {S : List Nat} {w w' : World} (h : But S w w') {g : Nat} {e : TypeId} {cs : Array Value} (hb : BlkAt w g e cs) (hn : g ∉ S) : BlkAt w' g e cs := (h.block g hb.lt hn).trans hb
theorem But.map {S : List Nat} {w w' : World} (h : But S w w') {P : Program} {k : TypeId} {b n : Nat} {f : ByteArray → Option Value} (hm : MapP P k w b n f) (hn : b ∉ S) : MapP P k w' b n f := hm.block (h.block b hm.lt hn)

def putF (f : ByteArray → Option Value) (s : ByteArray) (v : Value) : ByteArray → Option Value := fun x => if x = s then some v else f x
theorem putF_at (f : ByteArray → Option Value) (s : ByteArray) (v : Value) : putF f s v s = some v := if_pos rfl
theorem putF_off (f : ByteArray → Option Value) (s : ByteArray) (v : Value) (x : ByteArray) (h : x ≠ s) : putF f s v x = f x := if_neg h
def addB (f : ByteArray → Option Value) (s : ByteArray) : Bool := (f s).isNone && nameB s
abbrev MapN (w : World) (b n : Nat) (f : ByteArray → Option Value) : Prop := MapP Tryz.prog 9 w b n f

theorem zeroInt (w : World) : (zeroValue 3).run Tryz.prog w = .ok (.int .i64 0) w := by kernel_rfl

set_option maxHeartbeats 1000000 in
theorem addName_ok (pb mb n : Nat) (f : ByteArray → Option Value) (s : ByteArray) (w : World) (hs : Len s.size) (hn : n ≤ 2000) (hc : w.cell? ⟨pb, 1, none⟩ = some (.map (some mb))) (hM : MapN w mb n f) :
    Calls Tryz.prog 94 #[.pointer (some ⟨pb, 0, none⟩), .string s] w fun e w' => e = .returned (.bool (addB f s)) ∧ (addB f s = true → MapN w' mb (n + 1) (putF f s (.int .i64 n)) ∧ But [mb] w w') ∧ (addB f s = false → Below w.heap.size w w') := by
  have hs' : s.size ≤ maxLen := by unfold Len at hs; unfold maxLen; omega
  have HM := hide hM
  have HNM := hide (nameOK_ok s w hs)
  cases hf : f s with
  | some v =>
    rw [show addB f s = false by unfold addB; rw [hf]; rfl]
    have hlk := hM.hit Tryz.underlying9 Tryz.underlying98 (zeroInt w) hs' hf
    clear hM hf
    go_enter Tryz.func94, Tryz.ntmps94
    go_wp2
    go_ret
    exact ⟨rfl, (fun h => by cases h), fun _ => Below.refl _ _⟩
  | none =>
    have hlk := hM.miss Tryz.underlying9 Tryz.underlying98 (zeroInt w) hs' hf
    rw [show addB f s = nameB s by unfold addB; rw [hf]; rfl]
    have HFN := hide hf
    clear hM hf
    generalize nameB s = nb at *
    cases nb
    · go_enter Tryz.func94, Tryz.ntmps94
      go_wp2_with fail
      refine (unhide HNM).mono ?_
      rintro e w1 ⟨rfl, hb1⟩
      have HB1 := hide hb1
      clear hb1
      go_wp2
      go_ret
      exact ⟨rfl, (fun h => by cases h), fun _ => unhide HB1⟩
    · go_enter Tryz.func94, Tryz.ntmps94
      go_wp2_with fail
      refine (unhide HNM).mono ?_
      rintro e w1 ⟨rfl, hb1⟩
      have c1 : w1.cell? ⟨pb, 1, none⟩ = some (.map (some mb)) := by rw [hb1.cell (p := ⟨pb, 1, none⟩) (World.block_lt_of_cell? w _ hc)]; exact hc
      have hM1 : MapN w1.drew mb n f := ((unhide HM).below hb1 (unhide HM).lt).block rfl
      obtain ⟨w2, hst, hM2, hg⟩ := hM1.store Tryz.underlying9 Tryz.underlying98 (by unfold maxLen; omega) hs' (unhide HFN) (.int .i64 (n : Int))
      have hln : ∀ ty, (Builtin.len_ #[98] ty #[.map (some mb)]).run Tryz.prog w1.drew = .ok (.int .i64 (n : Int)) w1.drew := fun ty => hM1.len Tryz.underlying98 ty
      have HP : Hid (MapN w2 mb (n + 1) (putF f s (.int .i64 n)) ∧ But [mb] w w2) := ⟨hM2 _ (putF_at _ _ _) (fun x hx => putF_off _ _ _ x hx), (But.of_below hb1).drew.trans (But.grown hg (Or.inl (List.mem_singleton.2 rfl)))⟩
      clear hb1 hM1 hM2 hg hc hlk
      go_wp2_with fail
      go_region
      go_wp2
      go_ret
      exact ⟨rfl, (fun _ => unhide HP), fun h => by cases h⟩

end Go.Proofs.YtmglbkndjnflkaaGreatDoor
namespace Go.Proofs.YtmglbkndjnflkaaGreatDoor
open Go.RowKit
set_option linter.unusedSimpArgs false
set_option linter.unusedVariables false

theorem bytes_toList {x s : ByteArray} : (x.toList == s.toList) = decide (x = s) := by
  rw [Bool.eq_iff_iff, beq_iff_eq, decide_eq_true_iff, ByteArray.toList_eq, ByteArray.toList_eq]
  exact ⟨fun h => bytes_eq h, fun h => by rw [h]⟩
theorem place_neg (l : List ByteArray) (s : ByteArray) : placeI l s < 0 ↔ ∀ x, x ∈ l → x ≠ s := by
  unfold placeI
  cases h : l.findIdx? (fun x => x.toList == s.toList) with
  | none =>
    rw [List.findIdx?_eq_none_iff] at h
    simp only [bytes_toList, decide_eq_false_iff_not] at h
    exact ⟨fun _ => h, fun _ => by simp⟩
  | some i =>
    obtain ⟨hi, h1, _⟩ := List.findIdx?_eq_some_iff_getElem.1 h
    rw [bytes_toList, decide_eq_true_iff] at h1
    exact ⟨fun h2 => absurd h2 (by simp), fun h2 => absurd h1 (h2 _ (List.getElem_mem hi))⟩
theorem place_snoc (l : List ByteArray) (s x : ByteArray) (h : placeI l s < 0) : placeI (l ++ [s]) x = if x = s then (l.length : Int) else placeI l x := by
  by_cases e : x = s
  · subst e
    rw [if_pos rfl]
    refine place_hit (l ++ [x]) l.length x (by simp) (by simp) (fun j hj hjk => ?_)
    rw [List.getElem_append_left hjk, bytes_toList, decide_eq_false_iff_not]
    exact (place_neg l x).1 h _ (List.getElem_mem hjk)
  · rw [if_neg e]
    unfold placeI
    rw [List.findIdx?_append]
    have : [s].findIdx? (fun y => y.toList == x.toList) = none := by
      rw [List.findIdx?_eq_none_iff]
      intro y hy
      rw [List.mem_singleton] at hy
      subst hy
      rw [bytes_toList, decide_eq_false_iff_not]
      exact fun h => e h.symm
    rw [this]
    simp
/-- The variables of a step: each name's place. -/
def namesF (l : List ByteArray) : ByteArray → Option Value := fun s => if 0 ≤ placeI l s then some (.int .i64 (placeI l s)) else none
theorem namesF_put (l : List ByteArray) (s : ByteArray) (h : placeI l s < 0) : putF (namesF l) s (.int .i64 l.length) = namesF (l ++ [s]) := by
  funext x
  unfold namesF putF
  rw [place_snoc l s x h]
  by_cases e : x = s
  · rw [if_pos e, if_pos e, if_pos (by omega)]
  · rw [if_neg e, if_neg e]
theorem addB_names (l : List ByteArray) (s : ByteArray) : addB (namesF l) s = (decide (placeI l s < 0) && nameB s) := by
  unfold addB namesF
  split
  · rw [decide_eq_false (by omega)]; rfl
  · rw [decide_eq_true (by omega)]; rfl
theorem namesF_hit (l : List ByteArray) (s : ByteArray) (h : 0 ≤ placeI l s) : namesF l s = some (.int .i64 (placeI l s)) := if_pos h
theorem namesF_miss (l : List ByteArray) (s : ByteArray) (h : placeI l s < 0) : namesF l s = none := if_neg (by omega)

/-- Is one more variable right, behind those of l? -/
def nmOKB (l : List ByteArray) (s : ByteArray) : Bool := decide (placeI l s < 0) && nameB s
def slOKB (l : List ByteArray) (t : DSlot) : Bool := decide (t.type = 1 ∨ t.type = 2) && nmOKB l t.name
def AddPost (ok : Bool) (l : List ByteArray) (s : ByteArray) (mb : Nat) (w : World) (e : Ending) (w' : World) : Prop :=
  e = .returned (.bool ok) ∧ (ok = true → MapN w' mb (l.length + 1) (namesF (l ++ [s])) ∧ But [mb] w w') ∧ (ok = false → Below w.heap.size w w')

theorem ret_bl2x {a b : Bool} (h : a = b) : Ending.returned (Value.bool a) = .returned (.bool b) := by rw [h]
theorem addName_at (pb mb : Nat) (l : List ByteArray) (s : ByteArray) (w : World) (hs : Len s.size) (hn : l.length ≤ 2000) (hc : w.cell? ⟨pb, 1, none⟩ = some (.map (some mb))) (hM : MapN w mb l.length (namesF l)) :
    Calls Tryz.prog 94 #[.pointer (some ⟨pb, 0, none⟩), .string s] w (AddPost (nmOKB l s) l s mb w) := by
  refine (addName_ok pb mb l.length (namesF l) s w hs hn hc hM).mono ?_
  rintro e w' ⟨rfl, h1, h2⟩
  rw [addB_names] at h1 h2 ⊢
  refine ⟨rfl, fun h => ?_, h2⟩
  obtain ⟨g1, g2⟩ := h1 h
  have : placeI l s < 0 := by
    unfold nmOKB at h
    rw [Bool.and_eq_true] at h
    exact of_decide_eq_true h.1
  rw [namesF_put l s this] at g1
  exact ⟨g1, g2⟩

set_option maxHeartbeats 1000000 in
theorem addSlot_at (pb mb : Nat) (l : List ByteArray) (t : DSlot) (w : World) (hs : Len t.name.size) (hn : l.length ≤ 2000) (hc : w.cell? ⟨pb, 1, none⟩ = some (.map (some mb))) (hM : MapN w mb l.length (namesF l)) :
    Calls Tryz.prog 92 #[.pointer (some ⟨pb, 0, none⟩), .agg #[.string t.name, .int .i64 t.type]] w (AddPost (slOKB l t) l t.name mb w) := by
  have hA : Below w.heap.size w (w.alloc (.cells #[.string t.name, .int .i64 t.type] 42)) := (Below.refl _ _).alloc (Nat.le_refl _) _
  have c1 : (w.alloc (.cells #[.string t.name, .int .i64 t.type] 42)).cell? ⟨pb, 1, none⟩ = some (.map (some mb)) := by rw [hA.cell (p := ⟨pb, 1, none⟩) (World.block_lt_of_cell? w _ hc)]; exact hc
  have HN := hide (addName_at pb mb l t.name _ hs hn c1 (hM.below hA hM.lt))
  have HT := hide (fun w => typeOK_ok t.type w)
  have HA := hide hA
  have HS : Hid (slOKB l t = (decide (t.type = 1 ∨ t.type = 2) && nmOKB l t.name)) := rfl
  clear c1 hA hM
  generalize slOKB l t = R at *
  generalize nmOKB l t.name = nb at *
  generalize decide (t.type = 1 ∨ t.type = 2) = tb at *
  obtain ⟨nm, ty⟩ := t
  simp only at *
  cases tb
  · have e : R = false := (unhide HS).trans (Bool.false_and _)
    subst e
    go_enter Tryz.func92, Tryz.ntmps92
    go_wp2_with fail
    refine (unhide HT _).mono ?_
    rintro e w1 ⟨rfl, rfl⟩
    go_wp2
    go_ret
    exact ⟨rfl, (fun h => by cases h), fun _ => unhide HA⟩
  · have e : R = nb := (unhide HS).trans (Bool.true_and _)
    subst e
    go_enter Tryz.func92, Tryz.ntmps92
    go_wp2_with fail
    refine (unhide HT _).mono ?_
    rintro e w1 ⟨rfl, rfl⟩
    go_wp2_with fail
    refine (unhide HN).mono ?_
    rintro e w1 ⟨rfl, h1, h2⟩
    have H1 := hide h1
    have H2 := hide h2
    clear h1 h2
    go_wp2
    go_ret
    refine ⟨rfl, fun h => ?_, fun h => (unhide HA).trans ((unhide H2 h).mono (unhide HA).size)⟩
    obtain ⟨g1, g2⟩ := unhide H1 h
    exact ⟨g1, (But.of_below (unhide HA)).trans g2⟩

/-- A class in memory, where it lies among the classes. -/
structure CA (w : World) (cb co : Nat) (k : DClass) (a1 a2 a3 a4 a5 a6 : Value) : Prop where
  lt : cb < w.heap.size
  c0 : w.cell? ⟨cb, co, none⟩ = some (.string k.name)
  c1 : w.cell? ⟨cb, co + 1, none⟩ = some a1
  c2 : w.cell? ⟨cb, co + 2, none⟩ = some a2
  c3 : w.cell? ⟨cb, co + 3, none⟩ = some a3
  c4 : w.cell? ⟨cb, co + 4, none⟩ = some a4
  c5 : w.cell? ⟨cb, co + 5, none⟩ = some a5
  c6 : w.cell? ⟨cb, co + 6, none⟩ = some a6
  name : Len k.name.size
  ins : SlAt 2 24 RSlot 0 w a1 k.ins
  outs : SlAt 2 24 RSlot 0 w a2 k.outs
  locs : SlAt 1 16 RStr 0 w a3 k.locs
  mems : SlAt 1 8 RInt 0 w a4 k.mems
  insts : SlAt 1 8 RInt 0 w a5 k.insts
  body : SlAt 6 104 RStm 0 w a6 k.body
theorem CA.stays {w w' : World} {cb co : Nat} {k : DClass} {a1 a2 a3 a4 a5 a6 : Value} (h : CA w cb co k a1 a2 a3 a4 a5 a6) (hb : Below w.heap.size w w') : CA w' cb co k a1 a2 a3 a4 a5 a6 := by
  have hc : ∀ j, w'.cell? ⟨cb, j, none⟩ = w.cell? ⟨cb, j, none⟩ := fun j => hb.cell (p := ⟨cb, j, none⟩) h.lt
  exact ⟨Nat.lt_of_lt_of_le h.lt hb.size, (hc _).trans h.c0, (hc _).trans h.c1, (hc _).trans h.c2, (hc _).trans h.c3, (hc _).trans h.c4, (hc _).trans h.c5, (hc _).trans h.c6, h.name, h.ins.stays RSlot_kept hb, h.outs.stays RSlot_kept hb, h.locs.stays RStr_kept hb, h.mems.stays RInt_kept hb, h.insts.stays RInt_kept hb, h.body.stays RStm_kept hb⟩

def qSlot (pre : List ByteArray) (xs : List DSlot) (j : Nat) : Bool := match xs[j]? with | some t => slOKB (pre ++ (xs.take j).map DSlot.name) t | none => false
def qName (pre : List ByteArray) (xs : List ByteArray) (j : Nat) : Bool := match xs[j]? with | some s => nmOKB (pre ++ xs.take j) s | none => false

/-- A row of slots (or names) is declared. -/
theorem slots_ok (pb mb : Nat) (pre : List ByteArray) (xs : List DSlot) (v : Value) (W0 w : World) (hv : SlAt 2 24 RSlot 0 W0 v xs) (hW : Below W0.heap.size W0 w) (hmb : W0.heap.size ≤ mb) (hpb : pb ≠ mb) (hn : pre.length + xs.length ≤ 2000) (hc : w.cell? ⟨pb, 1, none⟩ = some (.map (some mb))) (hM : MapN w mb pre.length (namesF pre)) :
    Calls Tryz.prog 91 #[v, .func (.func 92) #[.pointer (some ⟨pb, 0, none⟩)] #[]] w fun e w' => e = .returned (.bool ((List.range xs.length).all (qSlot pre xs))) ∧ ((List.range xs.length).all (qSlot pre xs) = true → MapN w' mb (pre.length + xs.length) (namesF (pre ++ xs.map DSlot.name))) ∧ But [mb] w w' := by
  have hpl : pb < w.heap.size := World.block_lt_of_cell? w _ hc
  refine (everySlotI pb (fun k wr => MapN wr mb (pre.length + min k xs.length) (namesF (pre ++ (xs.take k).map DSlot.name)) ∧ But [mb] w wr) (fun wr => But [mb] w wr) (qSlot pre xs) xs v w ?_ ?_ ?_ ?_).mono ?_
  · rintro k wr ⟨_, hb⟩
    exact hv.stays RSlot_kept (hW.trans (hb.below _ hW.size (fun q hq => by rw [List.mem_singleton] at hq; omega)))
  · rintro k w1 w2 ⟨h1, h2⟩ hb
    exact ⟨h1.below hb h1.lt, h2.trans (But.of_below hb)⟩
  · rintro k hk cs wr ⟨h1, h2⟩ hR
    have hc' : wr.cell? ⟨pb, 1, none⟩ = some (.map (some mb)) := by rw [h2.cell (p := ⟨pb, 1, none⟩) hpl (by simpa using hpb)]; exact hc
    obtain ⟨rfl, hs, _⟩ := hR
    have hl : (pre ++ (xs.take k).map DSlot.name).length = pre.length + min k xs.length := by simp
    have := addSlot_at pb mb (pre ++ (xs.take k).map DSlot.name) xs[k] wr hs (by rw [hl]; omega) hc' (by rw [hl]; exact h1)
    refine this.mono ?_
    rintro e w' ⟨rfl, g1, g2⟩
    have hq : qSlot pre xs k = slOKB (pre ++ (xs.take k).map DSlot.name) xs[k] := by unfold qSlot; rw [List.getElem?_eq_getElem hk]
    rw [hq]
    refine ⟨rfl, fun h => ?_, fun h => h2.trans (But.of_below (g2 h))⟩
    obtain ⟨r1, r2⟩ := g1 h
    refine ⟨?_, h2.trans r2⟩
    rw [hl] at r1
    have e1 : pre.length + min k xs.length + 1 = pre.length + min (k + 1) xs.length := by omega
    rw [e1] at r1
    have e2 : pre ++ List.map DSlot.name (List.take k xs) ++ [xs[k].name] = pre ++ List.map DSlot.name (List.take (k + 1) xs) := by
      rw [List.take_succ_eq_append_getElem hk, List.map_append, List.append_assoc]; rfl
    rw [e2] at r1
    exact r1
  · simpa using ⟨hM, But.refl _ _⟩
  · rintro e w' ⟨rfl, h1, h2⟩
    refine ⟨rfl, fun h => ?_, ?_⟩
    · have := (h1 h).1
      simpa using this
    · cases hh : (List.range xs.length).all (qSlot pre xs)
      · exact h2 hh
      · exact (h1 hh).2
theorem names_ok (pb mb : Nat) (pre : List ByteArray) (xs : List ByteArray) (v : Value) (W0 w : World) (hv : SlAt 1 16 RStr 0 W0 v xs) (hW : Below W0.heap.size W0 w) (hmb : W0.heap.size ≤ mb) (hpb : pb ≠ mb) (hn : pre.length + xs.length ≤ 2000) (hc : w.cell? ⟨pb, 1, none⟩ = some (.map (some mb))) (hM : MapN w mb pre.length (namesF pre)) :
    Calls Tryz.prog 93 #[v, .func (.func 94) #[.pointer (some ⟨pb, 0, none⟩)] #[]] w fun e w' => e = .returned (.bool ((List.range xs.length).all (qName pre xs))) ∧ ((List.range xs.length).all (qName pre xs) = true → MapN w' mb (pre.length + xs.length) (namesF (pre ++ xs))) ∧ But [mb] w w' := by
  have hpl : pb < w.heap.size := World.block_lt_of_cell? w _ hc
  refine (everyNameI pb (fun k wr => MapN wr mb (pre.length + min k xs.length) (namesF (pre ++ xs.take k)) ∧ But [mb] w wr) (fun wr => But [mb] w wr) (qName pre xs) xs v w ?_ ?_ ?_ ?_).mono ?_
  · rintro k wr ⟨_, hb⟩
    exact hv.stays RStr_kept (hW.trans (hb.below _ hW.size (fun q hq => by rw [List.mem_singleton] at hq; omega)))
  · rintro k w1 w2 ⟨h1, h2⟩ hb
    exact ⟨h1.below hb h1.lt, h2.trans (But.of_below hb)⟩
  · rintro k hk cs wr ⟨h1, h2⟩ hR
    have hc' : wr.cell? ⟨pb, 1, none⟩ = some (.map (some mb)) := by rw [h2.cell (p := ⟨pb, 1, none⟩) hpl (by simpa using hpb)]; exact hc
    obtain ⟨rfl, hs⟩ := hR
    have hl : (pre ++ xs.take k).length = pre.length + min k xs.length := by simp
    have := addName_at pb mb (pre ++ xs.take k) xs[k] wr hs (by rw [hl]; omega) hc' (by rw [hl]; exact h1)
    refine this.mono ?_
    rintro e w' ⟨rfl, g1, g2⟩
    have hq : qName pre xs k = nmOKB (pre ++ xs.take k) xs[k] := by unfold qName; rw [List.getElem?_eq_getElem hk]
    rw [hq]
    refine ⟨rfl, fun h => ?_, fun h => h2.trans (But.of_below (g2 h))⟩
    obtain ⟨r1, r2⟩ := g1 h
    refine ⟨?_, h2.trans r2⟩
    rw [hl] at r1
    have e1 : pre.length + min k xs.length + 1 = pre.length + min (k + 1) xs.length := by omega
    rw [e1] at r1
    have e2 : pre ++ List.take k xs ++ [xs[k]] = pre ++ List.take (k + 1) xs := by
      rw [List.take_succ_eq_append_getElem hk]; simp
    rw [e2] at r1
    exact r1
  · simpa using ⟨hM, But.refl _ _⟩
  · rintro e w' ⟨rfl, h1, h2⟩
    refine ⟨rfl, fun h => ?_, ?_⟩
    · have := (h1 h).1
      simpa using this
    · cases hh : (List.range xs.length).all (qName pre xs)
      · exact h2 hh
      · exact (h1 hh).2

end Go.Proofs.YtmglbkndjnflkaaGreatDoor
namespace Go.Proofs.YtmglbkndjnflkaaGreatDoor
open Go.RowKit
set_option linter.unusedSimpArgs false
set_option linter.unusedVariables false

def declB (k : DClass) : Bool := decide (1 ≤ k.outs.length ∧ k.ins.length + k.outs.length + k.locs.length ≤ 1000) && ((List.range k.ins.length).all (qSlot [] k.ins) && (List.range k.outs.length).all (qSlot (k.ins.map DSlot.name) k.outs) && (List.range k.locs.length).all (qName (k.ins.map DSlot.name ++ k.outs.map DSlot.name) k.locs))

set_option maxRecDepth 20000 in
set_option maxHeartbeats 2000000 in
theorem declare_ok (k : DClass) (pb mb cb co : Nat) (a1 a2 a3 a4 a5 a6 : Value) (W0 w : World) (hC : CA W0 cb co k a1 a2 a3 a4 a5 a6) (hW : Below W0.heap.size W0 w) (hmb : W0.heap.size ≤ mb) (hpb : pb ≠ mb) (hc0 : w.cell? ⟨pb, 0, none⟩ = some (.pointer (some ⟨cb, co, none⟩))) (hc1 : w.cell? ⟨pb, 1, none⟩ = some (.map (some mb))) (hM : MapN w mb 0 (namesF [])) :
    Calls Tryz.prog 72 #[.pointer (some ⟨pb, 0, none⟩)] w fun e w' => e = .returned (.bool (declB k)) ∧ (declB k = true → MapN w' mb (varsOf k).length (namesF (varsOf k))) ∧ But [mb] w w' := by
  have hpl : pb < w.heap.size := World.block_lt_of_cell? w _ hc1
  have hcb : cb ≠ mb := by have := hC.lt; omega
  obtain ⟨b1, n1, rfl⟩ := hC.ins.shape
  obtain ⟨b2, n2, rfl⟩ := hC.outs.shape
  obtain ⟨b3, n3, rfl⟩ := hC.locs.shape
  have l1 := hC.ins.lenI
  have l2 := hC.outs.lenI
  have l3 := hC.locs.lenI
  have hCw := hC
  have cc : ∀ w', But [mb] w w' → w'.cell? ⟨cb, co + 1, none⟩ = some (.slice b1 k.ins.length n1) ∧ w'.cell? ⟨cb, co + 2, none⟩ = some (.slice b2 k.outs.length n2) ∧ w'.cell? ⟨cb, co + 3, none⟩ = some (.slice b3 k.locs.length n3) ∧ w'.cell? ⟨pb, 0, none⟩ = some (.pointer (some ⟨cb, co, none⟩)) ∧ w'.cell? ⟨pb, 1, none⟩ = some (.map (some mb)) := fun w' h => by
    have hb : Below W0.heap.size W0 w' := hW.trans (h.below _ hW.size (fun q hq => by rw [List.mem_singleton] at hq; omega))
    refine ⟨?_, ?_, ?_, ?_, ?_⟩
    · rw [hb.cell (p := ⟨cb, co + 1, none⟩) hC.lt]; exact hC.c1
    · rw [hb.cell (p := ⟨cb, co + 2, none⟩) hC.lt]; exact hC.c2
    · rw [hb.cell (p := ⟨cb, co + 3, none⟩) hC.lt]; exact hC.c3
    · rw [h.cell (p := ⟨pb, 0, none⟩) hpl (by simpa using hpb)]; exact hc0
    · rw [h.cell (p := ⟨pb, 1, none⟩) hpl (by simpa using hpb)]; exact hc1
  have HCC := hide cc
  obtain ⟨d1, d2, d3, _, _⟩ := cc w (But.refl _ _)
  have HS1 : Hid (k.ins.length + k.outs.length + k.locs.length ≤ 1000 → ∀ n, Calls Tryz.prog 91 #[.slice b1 k.ins.length n1, .func (.func 92) #[.pointer (some ⟨pb, 0, none⟩)] #[]] (w.drewN n) fun e w' => e = .returned (.bool ((List.range k.ins.length).all (qSlot [] k.ins))) ∧ ((List.range k.ins.length).all (qSlot [] k.ins) = true → MapN w' mb (0 + k.ins.length) (namesF ([] ++ k.ins.map DSlot.name))) ∧ But [mb] w w') := fun h n => by
    have hdn : But [mb] w (w.drewN n) := ⟨rfl, rfl, rfl, Nat.le_refl _, fun _ _ _ => rfl⟩
    refine (slots_ok pb mb [] k.ins _ W0 (w.drewN n) hC.ins ⟨hW.os, hW.tape, hW.output, hW.size, hW.block⟩ hmb hpb (by simp; omega) hc1 (hM.block rfl)).mono ?_
    rintro e w' ⟨rfl, h1, h2⟩
    exact ⟨rfl, h1, hdn.trans h2⟩
  have HS2 : Hid (k.ins.length + k.outs.length + k.locs.length ≤ 1000 → ∀ w1, But [mb] w w1 → MapN w1 mb (0 + k.ins.length) (namesF ([] ++ k.ins.map DSlot.name)) → Calls Tryz.prog 91 #[.slice b2 k.outs.length n2, .func (.func 92) #[.pointer (some ⟨pb, 0, none⟩)] #[]] w1 fun e w' => e = .returned (.bool ((List.range k.outs.length).all (qSlot (k.ins.map DSlot.name) k.outs))) ∧ ((List.range k.outs.length).all (qSlot (k.ins.map DSlot.name) k.outs) = true → MapN w' mb (k.ins.length + k.outs.length) (namesF (k.ins.map DSlot.name ++ k.outs.map DSlot.name))) ∧ But [mb] w w') := fun h w1 hb hM1 => by
    refine (slots_ok pb mb (k.ins.map DSlot.name) k.outs _ W0 w1 hC.outs (hW.trans (hb.below _ hW.size (fun q hq => by rw [List.mem_singleton] at hq; omega))) hmb hpb (by simp; omega) (cc w1 hb).2.2.2.2 (by simpa using hM1)).mono ?_
    rintro e w' ⟨rfl, h1, h2⟩
    exact ⟨rfl, (fun g => by simpa using h1 g), hb.trans h2⟩
  have HS3 : Hid (k.ins.length + k.outs.length + k.locs.length ≤ 1000 → ∀ w1, But [mb] w w1 → MapN w1 mb (k.ins.length + k.outs.length) (namesF (k.ins.map DSlot.name ++ k.outs.map DSlot.name)) → Calls Tryz.prog 93 #[.slice b3 k.locs.length n3, .func (.func 94) #[.pointer (some ⟨pb, 0, none⟩)] #[]] w1 fun e w' => e = .returned (.bool ((List.range k.locs.length).all (qName (k.ins.map DSlot.name ++ k.outs.map DSlot.name) k.locs))) ∧ ((List.range k.locs.length).all (qName (k.ins.map DSlot.name ++ k.outs.map DSlot.name) k.locs) = true → MapN w' mb (varsOf k).length (namesF (varsOf k))) ∧ But [mb] w w') := fun h w1 hb hM1 => by
    refine (names_ok pb mb (k.ins.map DSlot.name ++ k.outs.map DSlot.name) k.locs _ W0 w1 hC.locs (hW.trans (hb.below _ hW.size (fun q hq => by rw [List.mem_singleton] at hq; omega))) hmb hpb (by simp; omega) (cc w1 hb).2.2.2.2 (by simpa using hM1)).mono ?_
    rintro e w' ⟨rfl, h1, h2⟩
    refine ⟨rfl, (fun g => ?_), hb.trans h2⟩
    have := h1 g
    unfold varsOf
    simpa [Nat.add_assoc] using this
  have HD : Hid (declB k = (decide (1 ≤ k.outs.length ∧ k.ins.length + k.outs.length + k.locs.length ≤ 1000) && ((List.range k.ins.length).all (qSlot [] k.ins) && (List.range k.outs.length).all (qSlot (k.ins.map DSlot.name) k.outs) && (List.range k.locs.length).all (qName (k.ins.map DSlot.name ++ k.outs.map DSlot.name) k.locs)))) := rfl
  have HBN : Hid (∀ n, But [mb] w (w.drewN n)) := fun n => ⟨rfl, rfl, rfl, Nat.le_refl _, fun _ _ _ => rfl⟩
  clear cc hM hC hCw hW
  generalize declB k = R at *
  generalize (List.range k.ins.length).all (qSlot [] k.ins) = r1 at *
  generalize (List.range k.outs.length).all (qSlot (k.ins.map DSlot.name) k.outs) = r2 at *
  generalize (List.range k.locs.length).all (qName (k.ins.map DSlot.name ++ k.outs.map DSlot.name) k.locs) = r3 at *
  by_cases h1 : k.outs.length = 0
  · have e1 : ((k.outs.length : Int) == 0) = true := by rw [beq_iff_eq]; omega
    have HF : Hid (R = false) := (unhide HD).trans (by rw [decide_eq_false (by omega), Bool.false_and])
    clear HD HS1 HS2 HS3 HCC h1
    go_enter Tryz.func72, Tryz.ntmps72
    go_wp2_with fail
    go_quiet ((fail))
    go_wp2
    go_ret
    rw [unhide HF]
    exact ⟨rfl, (fun h => by cases h), unhide HBN _⟩
  have e1 : ((k.outs.length : Int) == 0) = false := by rw [beq_eq_false_iff_ne]; omega
  by_cases h2 : k.ins.length + k.outs.length + k.locs.length ≤ 1000
  case neg =>
    have e2 : decide (1000 < (k.ins.length : Int) + (k.outs.length : Int) + (k.locs.length : Int)) = true := decide_eq_true (by omega)
    have HF : Hid (R = false) := (unhide HD).trans (by rw [decide_eq_false (by omega), Bool.false_and])
    clear HD HS1 HS2 HS3 HCC h1 h2
    go_enter Tryz.func72, Tryz.ntmps72
    go_wp2_with fail
    go_quiet ((fail))
    go_wp2
    go_ret
    rw [unhide HF]
    exact ⟨rfl, (fun h => by cases h), unhide HBN _⟩
  have e2 : decide (1000 < (k.ins.length : Int) + (k.outs.length : Int) + (k.locs.length : Int)) = false := decide_eq_false (by omega)
  have HF : Hid (R = (r1 && r2 && r3)) := (unhide HD).trans (by rw [decide_eq_true (by omega), Bool.true_and])
  have HS1' := hide (unhide HS1 h2)
  have HS2' := hide (unhide HS2 h2)
  have HS3' := hide (unhide HS3 h2)
  clear HD HS1 HS2 HS3 h1 h2
  go_enter Tryz.func72, Tryz.ntmps72
  go_wp2_with fail
  go_quiet ((fail))
  go_wp2_with fail
  refine (unhide HS1' _).mono ?_
  rintro e w1 ⟨rfl, hm1, hb1⟩
  have HM1 := hide hm1
  have HB1 := hide hb1
  obtain ⟨p1, p2, p3, p4, p5⟩ := unhide HCC w1 hb1
  clear hm1 hb1 HS1'
  cases r1
  · go_wp2
    go_ret
    rw [unhide HF]
    exact ⟨rfl, (fun h => by cases h), unhide HB1⟩
  have HS2 := hide (unhide HS2' w1 (unhide HB1) (unhide HM1 rfl))
  clear HM1 HS2'
  go_wp2_with fail
  refine (unhide HS2).mono ?_
  rintro e w2 ⟨rfl, hm2, hb2⟩
  have HM2 := hide hm2
  have HB2 := hide hb2
  obtain ⟨q1, q2, q3, q4, q5⟩ := unhide HCC w2 hb2
  clear hm2 hb2 HS2
  cases r2
  · go_wp2
    go_ret
    rw [unhide HF]
    exact ⟨rfl, (fun h => by cases h), unhide HB2⟩
  have HS3 := hide (unhide HS3' w2 (unhide HB2) (unhide HM2 rfl))
  clear HM2 HS3'
  go_wp2_with fail
  refine (unhide HS3).mono ?_
  rintro e w3 ⟨rfl, hm3, hb3⟩
  have HM3 := hide hm3
  have HB3 := hide hb3
  clear hm3 hb3 HS3
  go_wp2
  go_ret
  rw [unhide HF]
  exact ⟨rfl, (fun h => unhide HM3 (by simpa using h)), unhide HB3⟩

end Go.Proofs.YtmglbkndjnflkaaGreatDoor
