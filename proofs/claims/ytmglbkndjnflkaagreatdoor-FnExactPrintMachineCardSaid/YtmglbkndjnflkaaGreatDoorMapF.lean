import Derived.Test.YtmglbkndjnflkaaGreatDoorData
import Derived.Maps.OwnSet
import Derived.Test.YtmglbkndjnflkaaGreatDoorFill
/- A map with string keys that the call has made, told as a function from names to values. Nothing of the program is named here. -/
namespace Go.Proofs.YtmglbkndjnflkaaGreatDoor
open Go.RowKit
open Go.Maps (Keyed IsMap)
set_option linter.unusedVariables false

/-- Every value reads as itself. -/
def tokR (v : Value) : Option (DataW Value × List MemPlace) := some (.held v, [])
/-- Block b is a map of at most n entries; it has f s at the name s, and z stands for 'none there'. -/
def MapF (P : Program) (k : TypeId) (z : Value) (w : World) (b n : Nat) (f : ByteArray → Value) : Prop :=
  ∃ D, w.ownsMap P k tokR b n D ∧ ∀ s : ByteArray, D.atKey (.string s.data.toList) (.held z) = .held (f s)

variable {P : Program} {k : TypeId} {z : Value} {w : World} {b n : Nat} {f : ByteArray → Value}

theorem MapF.made (w : World) : MapF P k z (w.alloc (.map #[] 0)) w.heap.size 0 (fun _ => z) :=
  ⟨.map [], World.ownsMap_made w P k tokR, fun s => rfl⟩
theorem MapF.lt (h : MapF P k z w b n f) : b < w.heap.size := by
  obtain ⟨D, h, _⟩ := h
  exact h.lt
theorem MapF.nocell (h : MapF P k z w b n f) (j : Nat) : w.cell? ⟨b, j, none⟩ = none := by
  obtain ⟨D, ⟨es, clock, h1, _⟩, _⟩ := h
  simp [World.cell?, h1]
theorem MapF.block {w' : World} (h : MapF P k z w b n f) (hb : w'.heap[b]? = w.heap[b]?) : MapF P k z w' b n f := by
  obtain ⟨D, ⟨es, clock, h1, h2, h3, h4⟩, h5⟩ := h
  exact ⟨D, ⟨es, clock, hb.trans h1, h2, h3, h4⟩, h5⟩
theorem MapF.below {w' : World} (h : MapF P k z w b n f) (hb : Below w.heap.size w w') : MapF P k z w' b n f := h.block (hb.block b h.lt)
theorem MapF.mono {n' : Nat} (h : MapF P k z w b n f) (hn : n ≤ n') : MapF P k z w b n' f := by
  obtain ⟨D, h, h5⟩ := h
  exact ⟨D, h.mono hn, h5⟩

theorem MapF.look {t e : TypeId} (h : MapF P k z w b n f) (hk : P.underlying k = some .string) (ht : P.underlying t = some (.map k e)) (hz : (zeroValue e).run P w = .ok z w) {s : ByteArray} (hs : s.size ≤ maxLen) :
    (Instr.lookup t (.map (some b)) (.string s) false).run P w = .ok (f s) w := by
  obtain ⟨D, h, h5⟩ := h
  obtain ⟨v, ps, hrun, hv⟩ := h.lookup (Maps.string_keyed hk) ht hz (zd := .held z) (zp := []) rfl (WideMaps.keyOf_string_mk hk hs)
  rw [h5 s] at hv
  unfold tokR at hv
  simp only [Option.some.injEq, Prod.mk.injEq, DataW.held.injEq] at hv
  rw [hrun, hv.1]

theorem bytes_eq {s x : ByteArray} (h : s.data.toList = x.data.toList) : s = x := by
  cases s; cases x
  simp only [ByteArray.mk.injEq]
  exact Array.toList_inj.1 h

theorem MapF.store {t e : TypeId} (h : MapF P k z w b n f) (hk : P.underlying k = some .string) (ht : P.underlying t = some (.map k e)) (hn : n < maxLen) {s : ByteArray} (hs : s.size ≤ maxLen) (v : Value) :
    ∃ w' f', (Instr.mapUpdate t (.map (some b)) (.string s) v).run P w = .ok () w' ∧ MapF P k z w' b (n + 1) f' ∧ f' s = v ∧ (∀ x, x ≠ s → f' x = f x) ∧ w.grownBy w' (some b) := by
  obtain ⟨D, h, h5⟩ := h
  obtain ⟨w', hrun, ho, hg⟩ := h.update (Maps.string_keyed hk) ht hn (WideMaps.keyOf_string_mk hk hs) (val := v) (d := .held v) (ps := []) rfl
  refine ⟨w', fun x => if x.data.toList = s.data.toList then v else f x, hrun, ⟨_, ho, fun x => ?_⟩, ?_, fun x hx => ?_, hg⟩
  · by_cases hx : x.data.toList = s.data.toList
    · show _ = DataW.held (if _ then _ else _)
      rw [if_pos hx, hx]
      exact Maps.atKey_put_same h.isMap ((Maps.string_keyed hk).key (WideMaps.keyOf_string_mk hk hs)) _ _
    · show _ = DataW.held (if _ then _ else _)
      rw [if_neg hx, Maps.atKey_put_other (by simpa using hx)]
      exact h5 x
  · simp
  · exact if_neg (fun h => hx (bytes_eq h))

/-- 'm[s]' at the operation. -/
theorem wpList_lookF {ops : Array Oper} {rest : List Oper} {o : Oper} {a : Act} {Q : Exit → Act → World → Prop}
    (hg : o.guard = none) (m x : Operand) (t e : TypeId) (hop : o.op = Op.lookup t m x false) (hk : P.underlying k = some .string) (ht : P.underlying t = some (.map k e)) (hz : (zeroValue e).run P w = .ok z w)
    (hm : a.eval m = .map (some b)) (hM : MapF P k z w b n f) (s : ByteArray) (hx : a.eval x = .string s) (hs : s.size ≤ maxLen) (hK : wpList P ops Q rest (a.put o.dst (f s)) w) :
    wpList P ops Q (o :: rest) a w := by
  refine wpList_plain hg fun K' hK' => ?_
  unfold Oper.wp
  simp [execOp, hop, hm, hx, hM.look hk ht hz hs, Result.andThen]
  exact hK' _ _ hK

end Go.Proofs.YtmglbkndjnflkaaGreatDoor
/- A map with string keys that the call has made, told by what it gives at each name, with its size. -/
namespace Go.Proofs.YtmglbkndjnflkaaGreatDoor
open Go.RowKit
open Go.Maps (Keyed IsMap)
set_option linter.unusedVariables false

def skey (s : ByteArray) : Lit := .string s.data.toList
/-- Block b is a map of n entries: f. -/
def MapP (P : Program) (k : TypeId) (w : World) (b n : Nat) (f : ByteArray → Option Value) : Prop :=
  ∃ D, w.ownsMap P k tokR b n D ∧ Maps.size D = n ∧ (∀ s v, f s = some v → ∀ z, D.atKey (skey s) z = .held v) ∧ (∀ s, f s = none → ∀ z, D.atKey (skey s) z = z)

variable {P : Program} {k : TypeId} {w : World} {b n : Nat} {f : ByteArray → Option Value}

theorem MapP.made (w : World) : MapP P k (w.alloc (.map #[] 0)) w.heap.size 0 (fun _ => none) :=
  ⟨.map [], World.ownsMap_made w P k tokR, rfl, fun s v h => by (cases h), fun s _ z => rfl⟩
theorem MapP.lt (h : MapP P k w b n f) : b < w.heap.size := by
  obtain ⟨D, h, _⟩ := h
  exact h.lt
theorem MapP.nocell (h : MapP P k w b n f) (j : Nat) : w.cell? ⟨b, j, none⟩ = none := by
  obtain ⟨D, ⟨es, clock, h1, _⟩, _⟩ := h
  simp [World.cell?, h1]
theorem MapP.block {w' : World} (h : MapP P k w b n f) (hb : w'.heap[b]? = w.heap[b]?) : MapP P k w' b n f := by
  obtain ⟨D, ⟨es, clock, h1, h2, h3, h4⟩, h5⟩ := h
  exact ⟨D, ⟨es, clock, hb.trans h1, h2, h3, h4⟩, h5⟩
theorem MapP.below {B : Nat} {w' : World} (h : MapP P k w b n f) (hb : Below B w w') (hB : b < B) : MapP P k w' b n f := h.block (hb.block b hB)
theorem MapP.len {t e : TypeId} (h : MapP P k w b n f) (ht : P.underlying t = some (.map k e)) (ty : TypeId) : (Builtin.len_ #[t] ty #[.map (some b)]).run P w = .ok (.int .i64 (n : Int)) w := by
  obtain ⟨D, h, hs, _⟩ := h
  have := h.len ht ty
  rwa [hs] at this
theorem MapP.hit {t e : TypeId} (h : MapP P k w b n f) (hk : P.underlying k = some .string) (ht : P.underlying t = some (.map k e)) {z : Value} (hz : (zeroValue e).run P w = .ok z w) {s : ByteArray} (hs : s.size ≤ maxLen) {v : Value} (hv : f s = some v) :
    (Instr.lookup t (.map (some b)) (.string s) true).run P w = .ok (.tuple #[v, .bool true]) w := by
  obtain ⟨D, h, _, h4, h5⟩ := h
  obtain ⟨v', ps, hrun, hv'⟩ := h.look_ok (Maps.string_keyed hk) ht hz (zd := .held z) (zp := []) rfl (WideMaps.keyOf_string_mk hk hs)
  have e1 := h4 s v hv
  unfold skey at e1
  rw [e1] at hv'
  unfold tokR at hv'
  simp only [Option.some.injEq, Prod.mk.injEq, DataW.held.injEq] at hv'
  rw [hrun, Maps.has_true_of_atKey e1, hv'.1]
theorem MapP.miss {t e : TypeId} (h : MapP P k w b n f) (hk : P.underlying k = some .string) (ht : P.underlying t = some (.map k e)) {z : Value} (hz : (zeroValue e).run P w = .ok z w) {s : ByteArray} (hs : s.size ≤ maxLen) (hv : f s = none) :
    (Instr.lookup t (.map (some b)) (.string s) true).run P w = .ok (.tuple #[z, .bool false]) w := by
  obtain ⟨D, h, _, h4, h5⟩ := h
  obtain ⟨v', ps, hrun, hv'⟩ := h.look_ok (Maps.string_keyed hk) ht hz (zd := .held z) (zp := []) rfl (WideMaps.keyOf_string_mk hk hs)
  have e1 := h5 s hv
  unfold skey at e1
  rw [e1] at hv'
  unfold tokR at hv'
  simp only [Option.some.injEq, Prod.mk.injEq, DataW.held.injEq] at hv'
  rw [hrun, Maps.has_false_of_atKey e1, hv'.1]
theorem MapP.look {t e : TypeId} (h : MapP P k w b n f) (hk : P.underlying k = some .string) (ht : P.underlying t = some (.map k e)) {z : Value} (hz : (zeroValue e).run P w = .ok z w) {s : ByteArray} (hs : s.size ≤ maxLen) :
    (Instr.lookup t (.map (some b)) (.string s) false).run P w = .ok ((f s).getD z) w := by
  obtain ⟨D, h, _, h4, h5⟩ := h
  obtain ⟨v', ps, hrun, hv'⟩ := h.lookup (Maps.string_keyed hk) ht hz (zd := .held z) (zp := []) rfl (WideMaps.keyOf_string_mk hk hs)
  cases hf : f s with
  | none =>
    have e1 := h5 s hf
    unfold skey at e1
    rw [e1] at hv'
    unfold tokR at hv'
    simp only [Option.some.injEq, Prod.mk.injEq, DataW.held.injEq] at hv'
    rw [hrun, hv'.1]
    rfl
  | some v =>
    have e1 := h4 s v hf
    unfold skey at e1
    rw [e1] at hv'
    unfold tokR at hv'
    simp only [Option.some.injEq, Prod.mk.injEq, DataW.held.injEq] at hv'
    rw [hrun, hv'.1]
    rfl
theorem size_put_new {H : Type} {D : DataW H} {kl : Lit} (hD : IsMap D) (h : Maps.has D kl = false) (d : DataW H) : Maps.size (D.put kl d) = Maps.size D + 1 := by
  obtain ⟨es, rfl⟩ := hD
  rw [DataW.put_eq]
  show (ChangeMaps.putKey kl d es).length = es.length + 1
  unfold ChangeMaps.putKey
  rw [DataW.length_insert]
  have : es.filter (ChangeMaps.notKey kl) = es := by
    rw [List.filter_eq_self]
    intro p hp
    rw [Maps.has_eq] at h
    have := List.any_eq_false.1 h p hp
    unfold ChangeMaps.notKey
    simpa using this
  rw [this]
theorem MapP.store {t e : TypeId} (h : MapP P k w b n f) (hk : P.underlying k = some .string) (ht : P.underlying t = some (.map k e)) (hn : n < maxLen) {s : ByteArray} (hs : s.size ≤ maxLen) (hf : f s = none) (v : Value) :
    ∃ w', (Instr.mapUpdate t (.map (some b)) (.string s) v).run P w = .ok () w' ∧ (∀ g : ByteArray → Option Value, g s = some v → (∀ x, x ≠ s → g x = f x) → MapP P k w' b (n + 1) g) ∧ w.grownBy w' (some b) := by
  obtain ⟨D, h, hsz, h4, h5⟩ := h
  obtain ⟨w', hrun, ho, hg⟩ := h.update (Maps.string_keyed hk) ht hn (WideMaps.keyOf_string_mk hk hs) (val := v) (d := .held v) (ps := []) rfl
  have hkey := (Maps.string_keyed hk).key (WideMaps.keyOf_string_mk hk hs)
  have hne : ∀ x : ByteArray, x ≠ s → skey x ≠ .string s.data.toList := fun x hx e => by
    unfold skey at e
    simp only [Lit.string.injEq] at e
    exact hx (bytes_eq e)
  refine ⟨w', hrun, fun g hgs hgo => ⟨_, ho, by have e9 := size_put_new h.isMap (Maps.has_false_of_atKey (h5 s hf)) (.held v); unfold skey at e9; rw [e9, hsz], fun x u hx z => ?_, fun x hx z => ?_⟩, hg⟩
  · by_cases e : x = s
    · subst e
      rw [hgs] at hx
      simp only [Option.some.injEq] at hx
      subst hx
      exact Maps.atKey_put_same h.isMap hkey _ _
    · rw [Maps.atKey_put_other (hne x e)]
      rw [hgo x e] at hx
      exact h4 x u hx z
  · have e : x ≠ s := fun e => by
      subst e
      rw [hgs] at hx
      cases hx
    rw [Maps.atKey_put_other (hne x e)]
    rw [hgo x e] at hx
    exact h5 x hx z
end Go.Proofs.YtmglbkndjnflkaaGreatDoor
