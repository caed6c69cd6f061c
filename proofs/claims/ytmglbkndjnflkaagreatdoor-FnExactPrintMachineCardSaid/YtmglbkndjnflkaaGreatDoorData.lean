import Derived.WalkKit
import Derived.WalkSpells
import Derived.Deep.OwnRows
import Derived.Test.YtmglbkndjnflkaaGreatDoorProg
import Derived.WalkLawsBesides
import Derived.Deep.LoopGhost
/- The data of a program, as plain values, and how they lie in memory. Nothing of the program is named here. -/
namespace Go.Proofs.YtmglbkndjnflkaaGreatDoor
open Go.RowKit

theorem hide {p : Prop} (h : p) : Hid p := h
theorem unhide {p : Prop} (h : Hid p) : p := h

structure DCond where
  name : ByteArray
  on : Bool
structure DVar where
  name : ByteArray
  type : Int
  clock : List DCond
structure DItem where
  op : Int
  val : Int
  name : ByteArray
structure DEq where
  lhs : List ByteArray
  code : List DItem
  call : ByteArray
  args : List (List DItem)
structure DNode where
  name : ByteArray
  ins : List DVar
  outs : List DVar
  vars : List DVar
  eqs : List DEq

/-- A number that Go's int holds. -/
def I64 (x : Int) : Prop := -9223372036854775808 ≤ x ∧ x ≤ 9223372036854775807
/-- A length that memory bears. -/
def Len (n : Nat) : Prop := n ≤ 140737488355328

/-- Blocks lo to hi are as they were; no block has gone. -/
def Kept (lo hi : Nat) (w w' : World) : Prop := w.heap.size ≤ w'.heap.size ∧ ∀ k, lo ≤ k → k < hi → w'.heap[k]? = w.heap[k]?

theorem Kept.of_below {lo B : Nat} {w w' : World} (h : Below B w w') : Kept lo B w w' := ⟨h.size, fun k _ hk => h.block k hk⟩
theorem Kept.cell {lo hi : Nat} {w w' : World} (h : Kept lo hi w w') {p : Addr} (h1 : lo ≤ p.block) (h2 : p.block < hi) : w'.cell? p = w.cell? p := World.cell?_of_block (w := w) (h.2 p.block h1 h2)
theorem Kept.refl (lo hi : Nat) (w : World) : Kept lo hi w w := ⟨Nat.le_refl _, fun _ _ _ => rfl⟩
theorem Kept.trans {lo hi hi' : Nat} {w w' w'' : World} (h : Kept lo hi w w') (k : Kept lo hi' w' w'') (hh : hi ≤ hi') : Kept lo hi w w'' :=
  ⟨Nat.le_trans h.1 k.1, fun i h1 h2 => (k.2 i h1 (by omega)).trans (h.2 i h1 h2)⟩
/-- A store below lo. -/
theorem Kept.setCell {lo hi : Nat} {w w' : World} (h : Kept lo hi w w') {p : Addr} (hp : p.block < lo) (u : Value) : Kept lo hi w (w'.setCell p u) :=
  ⟨by simpa [World.setCell] using h.1, fun k h1 h2 => by rw [Below.heap_setCell _ _ _ _ (by omega)]; exact h.2 k h1 h2⟩

/-- The value v is a slice whose elements, sz cells and byt bytes each, are told by R as xs; all its memory lies from block lo on. -/
def SlAt {α : Type} (sz byt : Nat) (R : Nat → World → List Value → α → Prop) (lo : Nat) (w : World) (v : Value) (xs : List α) : Prop :=
  ∃ a cap, v = .slice a xs.length cap ∧ (Len (xs.length * byt) ∧ xs.length ≤ cap) ∧ Len xs.length ∧ ∀ i (h : i < xs.length), ∃ b o cs, a = some ⟨b, o, none⟩ ∧ lo ≤ b ∧ b < w.heap.size ∧ cs.length = sz ∧
    (∀ j (hj : j < cs.length), w.cell? ⟨b, o + i * sz + j, none⟩ = some cs[j]) ∧ R lo w cs xs[i]

/-- What R tells stays told while its memory stays. -/
def KeptBy {α : Type} (R : Nat → World → List Value → α → Prop) : Prop := ∀ lo w w' cs x, Kept lo w.heap.size w w' → R lo w cs x → R lo w' cs x
def Stays {α : Type} (R : Nat → World → List Value → α → Prop) : Prop := ∀ lo w w' cs x, Below w.heap.size w w' → R lo w cs x → R lo w' cs x
def Lowers {α : Type} (R : Nat → World → List Value → α → Prop) : Prop := ∀ lo lo' w cs x, lo' ≤ lo → R lo w cs x → R lo' w cs x
theorem KeptBy.stays {α : Type} {R : Nat → World → List Value → α → Prop} (h : KeptBy R) : Stays R := fun _ _ _ _ _ hb hr => h _ _ _ _ _ (Kept.of_below hb) hr

theorem SlAt.kept {α : Type} {sz byt lo : Nat} {R : Nat → World → List Value → α → Prop} (hR : KeptBy R) {w w' : World} {v : Value} {xs : List α} (hb : Kept lo w.heap.size w w') (h : SlAt sz byt R lo w v xs) : SlAt sz byt R lo w' v xs := by
  obtain ⟨a, cap, rfl, hl, hl2, h⟩ := h
  refine ⟨a, cap, rfl, hl, hl2, fun i hi => ?_⟩
  obtain ⟨b, o, cs, ha, hlo, hbl, hcs, hc, hr⟩ := h i hi
  exact ⟨b, o, cs, ha, hlo, Nat.lt_of_lt_of_le hbl hb.1, hcs, fun j hj => by rw [hb.cell (p := ⟨b, _, none⟩) hlo hbl]; exact hc j hj, hR _ _ _ _ _ hb hr⟩
theorem SlAt.shape {α : Type} {sz byt lo : Nat} {R : Nat → World → List Value → α → Prop} {w : World} {v : Value} {xs : List α} (h : SlAt sz byt R lo w v xs) : ∃ a cap, v = .slice a xs.length cap := by
  obtain ⟨a, cap, hv, _⟩ := h
  exact ⟨a, cap, hv⟩
theorem SlAt.stays {α : Type} {sz byt lo : Nat} {R : Nat → World → List Value → α → Prop} (hR : KeptBy R) {w w' : World} {v : Value} {xs : List α} (hb : Below w.heap.size w w') (h : SlAt sz byt R lo w v xs) : SlAt sz byt R lo w' v xs := h.kept hR (Kept.of_below hb)
theorem SlAt.lower {α : Type} {sz byt lo lo' : Nat} {R : Nat → World → List Value → α → Prop} (hR : Lowers R) {w : World} {v : Value} {xs : List α} (hl : lo' ≤ lo) (h : SlAt sz byt R lo w v xs) : SlAt sz byt R lo' w v xs := by
  obtain ⟨a, cap, rfl, hl1, hl2, h⟩ := h
  refine ⟨a, cap, rfl, hl1, hl2, fun i hi => ?_⟩
  obtain ⟨b, o, cs, ha, hlo, hbl, hcs, hc, hr⟩ := h i hi
  exact ⟨b, o, cs, ha, Nat.le_trans hl hlo, hbl, hcs, hc, hR _ _ _ _ _ hl hr⟩

def RStr (_ : Nat) (_ : World) (cs : List Value) (s : ByteArray) : Prop := cs = [.string s] ∧ Len s.size
def RCond (_ : Nat) (_ : World) (cs : List Value) (c : DCond) : Prop := cs = [.string c.name, .bool c.on] ∧ Len c.name.size
def RVar (lo : Nat) (w : World) (cs : List Value) (v : DVar) : Prop := ∃ cl, cs = [.string v.name, .int .i64 v.type, cl] ∧ Len v.name.size ∧ I64 v.type ∧ SlAt 2 24 RCond lo w cl v.clock
def RItem (_ : Nat) (_ : World) (cs : List Value) (t : DItem) : Prop := cs = [.int .i64 t.op, .int .i64 t.val, .string t.name] ∧ Len t.name.size ∧ I64 t.op ∧ I64 t.val
def RItems (lo : Nat) (w : World) (cs : List Value) (l : List DItem) : Prop := ∃ v, cs = [v] ∧ SlAt 3 32 RItem lo w v l
def REq (lo : Nat) (w : World) (cs : List Value) (e : DEq) : Prop := ∃ l c a, cs = [l, c, .string e.call, a] ∧ Len e.call.size ∧ SlAt 1 16 RStr lo w l e.lhs ∧ SlAt 3 32 RItem lo w c e.code ∧ SlAt 1 24 RItems lo w a e.args
def RNode (lo : Nat) (w : World) (cs : List Value) (n : DNode) : Prop := ∃ i o v e, cs = [.string n.name, i, o, v, e] ∧ Len n.name.size ∧ SlAt 3 48 RVar lo w i n.ins ∧ SlAt 3 48 RVar lo w o n.outs ∧ SlAt 3 48 RVar lo w v n.vars ∧ SlAt 4 88 REq lo w e n.eqs

def RInt (_ : Nat) (_ : World) (cs : List Value) (x : Int) : Prop := cs = [.int .i64 x] ∧ I64 x
theorem RInt_kept : KeptBy RInt := fun _ _ _ _ _ _ h => h
theorem RInt_lowers : Lowers RInt := fun _ _ _ _ _ _ h => h

theorem RStr_kept : KeptBy RStr := fun _ _ _ _ _ _ h => h
theorem RCond_kept : KeptBy RCond := fun _ _ _ _ _ _ h => h
theorem RItem_kept : KeptBy RItem := fun _ _ _ _ _ _ h => h
theorem RVar_kept : KeptBy RVar := fun _ _ _ _ _ hb ⟨cl, h1, h2, h3, h4⟩ => ⟨cl, h1, h2, h3, h4.kept RCond_kept hb⟩
theorem RItems_kept : KeptBy RItems := fun _ _ _ _ _ hb ⟨v, h1, h2⟩ => ⟨v, h1, h2.kept RItem_kept hb⟩
theorem REq_kept : KeptBy REq := fun _ _ _ _ _ hb ⟨l, c, a, h1, h2, h3, h4, h5⟩ => ⟨l, c, a, h1, h2, h3.kept RStr_kept hb, h4.kept RItem_kept hb, h5.kept RItems_kept hb⟩
theorem RNode_kept : KeptBy RNode := fun _ _ _ _ _ hb ⟨i, o, v, e, h1, h2, h3, h4, h5, h6⟩ => ⟨i, o, v, e, h1, h2, h3.kept RVar_kept hb, h4.kept RVar_kept hb, h5.kept RVar_kept hb, h6.kept REq_kept hb⟩
theorem RStr_lowers : Lowers RStr := fun _ _ _ _ _ _ h => h
theorem RCond_lowers : Lowers RCond := fun _ _ _ _ _ _ h => h
theorem RItem_lowers : Lowers RItem := fun _ _ _ _ _ _ h => h
theorem RVar_lowers : Lowers RVar := fun _ _ _ _ _ hb ⟨cl, h1, h2, h3, h4⟩ => ⟨cl, h1, h2, h3, h4.lower RCond_lowers hb⟩
theorem RItems_lowers : Lowers RItems := fun _ _ _ _ _ hb ⟨v, h1, h2⟩ => ⟨v, h1, h2.lower RItem_lowers hb⟩
theorem REq_lowers : Lowers REq := fun _ _ _ _ _ hb ⟨l, c, a, h1, h2, h3, h4, h5⟩ => ⟨l, c, a, h1, h2, h3.lower RStr_lowers hb, h4.lower RItem_lowers hb, h5.lower RItems_lowers hb⟩
theorem RNode_lowers : Lowers RNode := fun _ _ _ _ _ hb ⟨i, o, v, e, h1, h2, h3, h4, h5, h6⟩ => ⟨i, o, v, e, h1, h2, h3.lower RVar_lowers hb, h4.lower RVar_lowers hb, h5.lower RVar_lowers hb, h6.lower REq_lowers hb⟩

/-! ### How much there is of it -/
def wSum {α : Type} (f : α → Nat) (xs : List α) : Nat := xs.length + (xs.map f).sum
def wCond (c : DCond) : Nat := c.name.size
def wVar (v : DVar) : Nat := v.name.size + wSum wCond v.clock
def wItem (t : DItem) : Nat := t.name.size
def wStr (s : ByteArray) : Nat := s.size

def wEq (e : DEq) : Nat := wSum wStr e.lhs + wSum wItem e.code + e.call.size + wSum (wSum wItem) e.args
def wNode (n : DNode) : Nat := n.name.size + wSum wVar n.ins + wSum wVar n.outs + wSum wVar n.vars + wSum wEq n.eqs

/-- What the first k weigh. -/
def wTo {α : Type} (f : α → Nat) (xs : List α) (k : Nat) : Nat := ((xs.take k).map f).sum
theorem wTo_zero {α : Type} (f : α → Nat) (xs : List α) : wTo f xs 0 = 0 := by simp [wTo]
theorem wTo_succ {α : Type} (f : α → Nat) (xs : List α) (k : Nat) (h : k < xs.length) : wTo f xs (k + 1) = wTo f xs k + f xs[k] := by
  unfold wTo
  rw [List.take_succ_eq_append_getElem h]
  simp only [List.map_append, List.map_cons, List.map_nil, List.sum_append, List.sum_cons, List.sum_nil, Nat.add_zero]
theorem wTo_all {α : Type} (f : α → Nat) (xs : List α) : xs.length + wTo f xs xs.length = wSum f xs := by simp [wTo, wSum]

/-- 'make' of n elements. -/
theorem make_rows {P : Program} (t e : TypeId) (z : Value) (size bytes : Nat) (ht : P.underlying t = some (.slice e)) (hinfo : (P.info? e).map (fun i => (i.zero, i.size, i.bytes)) = some (some z, size, bytes)) (n : Nat) (hb : n * bytes ≤ 140737488355328) (hn : n ≤ 140737488355328) (w : World) :
    (Instr.makeSlice t (.int .i64 (n : Int)) (.int .i64 (n : Int))).run P w = .ok (.slice (some ⟨w.heap.size, 0, none⟩) n n) (w.alloc (.cells (madeCells z.cells (n * size)) e)) := by
  obtain ⟨i, hi, hzz⟩ := Option.map_eq_some_iff.1 hinfo
  simp only [Prod.mk.injEq] at hzz
  obtain ⟨hz, hs, hbt⟩ := hzz
  have hb' : (i.bytes : Int) * (n : Int) ≤ 281474976710656 := by
    have h : ((i.bytes * n : Nat) : Int) ≤ 281474976710656 := by rw [hbt, Nat.mul_comm]; omega
    rwa [Int.natCast_mul] at h
  have hr := run_make (P := P) w t e i z ht hi hz .i64 .i64 n n (by omega) (Int.le_refl _) hb' (by omega)
  simp only [Int.toNat_natCast, hs] at hr
  exact hr

/-- Block b is a row of n cells that may be written. -/
def RowAt (w : World) (b : Nat) (n : Nat) : Prop := ∃ c t, w.heap[b]? = some (.cells c t (0, 0)) ∧ c.size = n
theorem RowAt.lt {w : World} {b n : Nat} (h : RowAt w b n) : b < w.heap.size := by
  obtain ⟨c, t, hb, _⟩ := h
  exact (Array.getElem?_eq_some_iff.1 hb).1
theorem RowAt.cell {w : World} {b n : Nat} (h : RowAt w b n) {i : Nat} (hi : i < n) : ∃ u, w.cell? ⟨b, i, none⟩ = some u := by
  obtain ⟨c, t, hb, hn⟩ := h
  exact ⟨c[i], by simp [World.cell?, hb, hn, hi]⟩
theorem RowAt.frozen {w : World} {b n : Nat} (h : RowAt w b n) (i : Nat) : w.frozen? ⟨b, i, none⟩ = false := by
  obtain ⟨c, t, hb, _⟩ := h
  simp [World.frozen?, hb]
theorem RowAt.below {w w' : World} {b n : Nat} (h : RowAt w b n) (hb : Below w.heap.size w w') : RowAt w' b n := by
  have hlt := h.lt
  obtain ⟨c, t, hc, hn⟩ := h
  exact ⟨c, t, (hb.block b hlt).trans hc, hn⟩
theorem RowAt.set {w : World} {b n : Nat} (h : RowAt w b n) (i : Nat) (u : Value) : RowAt (w.setCell ⟨b, i, none⟩ u) b n := by
  obtain ⟨c, t, hc, hn⟩ := h
  exact ⟨c.setIfInBounds i u, t, by simp [World.setCell, Array.getElem?_modify, hc], by simpa using hn⟩
theorem RowAt.made (w : World) (cs : Array Value) (n : Nat) (t : TypeId) : RowAt (w.alloc (.cells (madeCells cs n) t)) w.heap.size n :=
  ⟨_, t, Deep.blk_alloc_new _ _, size_madeCells _ _⟩

/-- The first k elements of the row b are told. -/
def Filled {α : Type} (sz : Nat) (R : Nat → World → List Value → α → Prop) (lo : Nat) (w : World) (b : Nat) (xs : List α) (k : Nat) : Prop :=
  ∀ i (h : i < xs.length), i < k → ∃ cs, cs.length = sz ∧ (∀ j (hj : j < cs.length), w.cell? ⟨b, i * sz + j, none⟩ = some cs[j]) ∧ R lo w cs xs[i]

theorem bcell {W w1 : World} (hb : Below W.heap.size W w1) : (∀ b o, b < W.heap.size → w1.cell? ⟨b, o, none⟩ = W.cell? ⟨b, o, none⟩) ∧ (∀ b o, b < W.heap.size → w1.frozen? ⟨b, o, none⟩ = W.frozen? ⟨b, o, none⟩) :=
  ⟨fun b o h => hb.cell (p := ⟨b, o, none⟩) h, fun b o h => hb.frozen (p := ⟨b, o, none⟩) h⟩

end Go.Proofs.YtmglbkndjnflkaaGreatDoor
namespace Go.Proofs.YtmglbkndjnflkaaGreatDoor
open Go.RowKit
set_option linter.unusedSimpArgs false
set_option linter.unusedVariables false

/-- What a call that reckons a weight answers: -1, or what is left. -/
def SzPost (w : World) (left : Int) (wt : Nat) (e : Ending) (w' : World) : Prop :=
  ∃ r : Int, e = .returned (.int .i64 r) ∧ (r = -1 ∨ 0 ≤ r ∧ r + wt ≤ left) ∧ Below w.heap.size w w'

theorem szItem_ok (t : DItem) (left : Int) (w : World) (hs : Len t.name.size) (hl : 0 ≤ left) (hl2 : left ≤ 1048576) :
    Calls Tryz.prog 109 #[.agg #[.int .i64 t.op, .int .i64 t.val, .string t.name], .int .i64 left] w (SzPost w left (wItem t)) := by
  obtain ⟨op, val, s⟩ := t
  unfold Len at hs
  simp only at hs
  by_cases h : left - s.size < 0
  all_goals
    go_enter Tryz.func109, Tryz.ntmps109
    go_wp2
    go_ret
  · exact ⟨_, rfl, Or.inl rfl, (Below.refl _ _).alloc (Nat.le_refl _) _⟩
  · exact ⟨_, rfl, Or.inr ⟨by omega, by simp only [wItem]; omega⟩, (Below.refl _ _).alloc (Nat.le_refl _) _⟩

set_option maxHeartbeats 400000 in
theorem szItemS_ok (xs : List DItem) (v : Value) (left : Int) (w : World) (hv : SlAt 3 32 RItem 0 w v xs) (hl : 0 ≤ left) (hl2 : left ≤ 1048576) :
    Calls Tryz.prog 80 #[v, .int .i64 left] w (SzPost w left (wSum wItem xs)) := by
  obtain ⟨a, cap, rfl, _, hn, hx⟩ := hv
  unfold Len at hn
  have HX := hide hx
  clear hx
  by_cases h : left - xs.length < 0
  · go_enter Tryz.func80, Tryz.ntmps80
    go_wp2
    go_ret
    exact ⟨_, rfl, Or.inl rfl, Below.refl _ _⟩
  · go_enter Tryz.func80, Tryz.ntmps80
    go_wp2
    go_loopg [1, 5] xs.length (fun g l i wr => ∃ (k : Nat) (r : Int), k ≤ xs.length ∧ g = xs.length - k ∧ i = .int .i64 k ∧ l = .int .i64 r ∧ 0 ≤ r ∧ r ≤ left - xs.length - wTo wItem xs k ∧ Below w.heap.size w wr)
    case atStart => exact ⟨0, left - xs.length, Nat.zero_le _, by omega, rfl, rfl, by omega, by rw [wTo_zero]; omega, Below.refl _ _⟩
    case round =>
      obtain ⟨k, r, hk, hg, rfl, rfl, hr0, hr1, hbl⟩ := hrel
      by_cases hlt : k < xs.length
      · obtain ⟨b, o, cs, rfl, _, hb, hcs, hc, hR⟩ := unhide HX k hlt
        have hR := RItem_kept.stays _ _ _ _ _ hbl hR
        have hc : ∀ j (hj : j < cs.length), wr.cell? ⟨b, o + k * 3 + j, none⟩ = some cs[j] := fun j hj => by rw [hbl.cell (p := ⟨b, _, none⟩) hb]; exact hc j hj
        obtain ⟨rfl, hsn, ho, hvl⟩ := hR
        have c0 := hc 0 (by simp)
        have c1 := hc 1 (by simp)
        have c2 := hc 2 (by simp)
        simp only [Nat.mul_one, Nat.add_zero, List.getElem_cons_zero, List.getElem_cons_succ] at c0 c1 c2
        have hw := wTo_succ wItem xs k hlt
        have HW := hide hw
        have HG := hide hg
        clear hw hg hc hcs
        go_wp2_with fail
        refine (szItem_ok _ _ _ hsn hr0 (by omega)).mono ?_
        rintro e w1 ⟨r', rfl, hr | ⟨h0, h1⟩, hb1⟩
        · subst hr
          go_wp2
          go_ret
          exact ⟨_, rfl, Or.inl rfl, hbl.trans (hb1.mono hbl.size)⟩
        · go_wp2
          go_roundg (xs.length - (k + 1))
          case measure => have := unhide HG; omega
          case rel => exact ⟨k + 1, r', by omega, rfl, by go_num, rfl, h0, by rw [unhide HW]; omega, hbl.trans (hb1.mono hbl.size)⟩
      · go_wp2
        go_ret
        have e : k = xs.length := by omega
        subst e
        exact ⟨_, rfl, Or.inr ⟨hr0, by rw [← wTo_all]; omega⟩, hbl⟩

end Go.Proofs.YtmglbkndjnflkaaGreatDoor
namespace Go.Proofs.YtmglbkndjnflkaaGreatDoor
open Go.RowKit
set_option linter.unusedSimpArgs false
set_option linter.unusedVariables false

set_option maxHeartbeats 400000 in
theorem szStringS_ok (xs : List ByteArray) (v : Value) (left : Int) (w : World) (hv : SlAt 1 16 RStr 0 w v xs) (hl : 0 ≤ left) (hl2 : left ≤ 1048576) :
    Calls Tryz.prog 33 #[v, .int .i64 left] w (SzPost w left (wSum wStr xs)) := by
  obtain ⟨a, cap, rfl, _, hn, hx⟩ := hv
  unfold Len at hn
  have HX := hide hx
  clear hx
  by_cases h : left - xs.length < 0
  · go_enter Tryz.func33, Tryz.ntmps33
    go_wp2
    go_ret
    exact ⟨_, rfl, Or.inl rfl, Below.refl _ _⟩
  · go_enter Tryz.func33, Tryz.ntmps33
    go_wp2
    go_loopg [1, 5] xs.length (fun g l i wr => ∃ (k : Nat) (r : Int), k ≤ xs.length ∧ g = xs.length - k ∧ i = .int .i64 k ∧ l = .int .i64 r ∧ 0 ≤ r ∧ r ≤ left - xs.length - wTo wStr xs k ∧ Below w.heap.size w wr)
    case atStart => exact ⟨0, left - xs.length, Nat.zero_le _, by omega, rfl, rfl, by omega, by rw [wTo_zero]; omega, Below.refl _ _⟩
    case round =>
      obtain ⟨k, r, hk, hg, rfl, rfl, hr0, hr1, hbl⟩ := hrel
      by_cases hlt : k < xs.length
      · obtain ⟨b, o, cs, rfl, _, hb, hcs, hc, hR⟩ := unhide HX k hlt
        have hc : ∀ j (hj : j < cs.length), wr.cell? ⟨b, o + k * 1 + j, none⟩ = some cs[j] := fun j hj => by rw [hbl.cell (p := ⟨b, _, none⟩) hb]; exact hc j hj
        obtain ⟨rfl, hsn⟩ := hR
        have c0 := hc 0 (by simp)
        simp only [Nat.mul_one, Nat.add_zero, List.getElem_cons_zero, List.getElem_cons_succ] at c0
        have hw := wTo_succ wStr xs k hlt
        have hwe : wStr xs[k] = xs[k].size := rfl
        rw [hwe] at hw
        have HW := hide hw
        have HG := hide hg
        clear hw hg hc hcs hwe
        unfold Len at hsn
        generalize xs[k] = s at *
        by_cases hneg : r - s.size < 0
        · go_wp2
          go_ret
          exact ⟨_, rfl, Or.inl rfl, hbl⟩
        · go_wp2
          go_roundg (xs.length - (k + 1))
          case measure => have := unhide HG; omega
          case rel => exact ⟨k + 1, _, by omega, rfl, by go_num, rfl, by omega, by rw [unhide HW]; omega, hbl⟩
      · go_wp2
        go_ret
        have e : k = xs.length := by omega
        subst e
        exact ⟨_, rfl, Or.inr ⟨hr0, by rw [← wTo_all]; omega⟩, hbl⟩

set_option maxHeartbeats 400000 in
theorem szItemSS_ok (xs : List (List DItem)) (v : Value) (left : Int) (w : World) (hv : SlAt 1 24 RItems 0 w v xs) (hl : 0 ≤ left) (hl2 : left ≤ 1048576) :
    Calls Tryz.prog 81 #[v, .int .i64 left] w (SzPost w left (wSum (wSum wItem) xs)) := by
  obtain ⟨a, cap, rfl, _, hn, hx⟩ := hv
  unfold Len at hn
  have HX := hide hx
  clear hx
  by_cases h : left - xs.length < 0
  · go_enter Tryz.func81, Tryz.ntmps81
    go_wp2
    go_ret
    exact ⟨_, rfl, Or.inl rfl, Below.refl _ _⟩
  · go_enter Tryz.func81, Tryz.ntmps81
    go_wp2
    go_loopg [1, 5] xs.length (fun g l i wr => ∃ (k : Nat) (r : Int), k ≤ xs.length ∧ g = xs.length - k ∧ i = .int .i64 k ∧ l = .int .i64 r ∧ 0 ≤ r ∧ r ≤ left - xs.length - wTo (wSum wItem) xs k ∧ Below w.heap.size w wr)
    case atStart => exact ⟨0, left - xs.length, Nat.zero_le _, by omega, rfl, rfl, by omega, by rw [wTo_zero]; omega, Below.refl _ _⟩
    case round =>
      obtain ⟨k, r, hk, hg, rfl, rfl, hr0, hr1, hbl⟩ := hrel
      by_cases hlt : k < xs.length
      · obtain ⟨b, o, cs, rfl, _, hb, hcs, hc, hR⟩ := unhide HX k hlt
        have hR := RItems_kept.stays _ _ _ _ _ hbl hR
        have hc : ∀ j (hj : j < cs.length), wr.cell? ⟨b, o + k * 1 + j, none⟩ = some cs[j] := fun j hj => by rw [hbl.cell (p := ⟨b, _, none⟩) hb]; exact hc j hj
        obtain ⟨vl, rfl, hcl⟩ := hR
        have HCL := hide hcl
        clear hcl
        have c0 := hc 0 (by simp)
        simp only [Nat.mul_one, Nat.add_zero, List.getElem_cons_zero, List.getElem_cons_succ] at c0
        have hw := wTo_succ (wSum wItem) xs k hlt
        have HW := hide hw
        have HG := hide hg
        clear hw hg hc hcs
        go_wp2_with fail
        refine (szItemS_ok _ _ _ _ (unhide HCL) hr0 (by omega)).mono ?_
        rintro e w1 ⟨r', rfl, hr | ⟨h0, h1⟩, hb1⟩
        · subst hr
          go_wp2
          go_ret
          exact ⟨_, rfl, Or.inl rfl, hbl.trans (hb1.mono hbl.size)⟩
        · go_wp2
          go_roundg (xs.length - (k + 1))
          case measure => have := unhide HG; omega
          case rel => exact ⟨k + 1, r', by omega, rfl, by go_num, rfl, h0, by rw [unhide HW]; omega, hbl.trans (hb1.mono hbl.size)⟩
      · go_wp2
        go_ret
        have e : k = xs.length := by omega
        subst e
        exact ⟨_, rfl, Or.inr ⟨hr0, by rw [← wTo_all]; omega⟩, hbl⟩

end Go.Proofs.YtmglbkndjnflkaaGreatDoor
namespace Go.Proofs.YtmglbkndjnflkaaGreatDoor
open Go.RowKit
set_option linter.unusedSimpArgs false
set_option linter.unusedVariables false

end Go.Proofs.YtmglbkndjnflkaaGreatDoor
