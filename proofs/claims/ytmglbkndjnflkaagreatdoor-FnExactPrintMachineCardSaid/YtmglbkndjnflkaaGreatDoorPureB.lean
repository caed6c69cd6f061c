import Derived.Test.YtmglbkndjnflkaaGreatDoorCode
import Derived.Lib.ItoaNum
import Derived.Lib.Join
import Derived.Test.YtmglbkndjnflkaaGreatDoorMData
namespace Go.Proofs.YtmglbkndjnflkaaGreatDoor
open Go.RowKit
set_option linter.unusedSimpArgs false
set_option linter.unusedVariables false

def vbB (m i : Nat) (v : DVar) : Bool := if i < m then portB v else varB v

theorem node_iff (n : DNode) : nodeB n = true ↔ (1 ≤ n.outs.length ∧ n.ins.length + n.outs.length + n.vars.length ≤ 500 ∧ 1 ≤ n.eqs.length ∧ n.eqs.length ≤ 500) ∧ nameB n.name = true ∧ n.ins.all portB = true ∧ n.outs.all portB = true ∧ n.vars.all varB = true ∧ n.eqs.all eqB = true := by
  unfold nodeB
  simp only [Bool.and_eq_true, decide_eq_true_iff, and_assoc]

theorem of_not_true {b : Bool} (h : ¬ b = true) : b = false := by cases b; rfl; exact absurd rfl h

theorem node_no_name (n : DNode) (h : nameB n.name = false) : nodeB n = false := of_not_true fun hh => by
  have := ((node_iff n).1 hh).2.1
  rw [h] at this
  cases this
theorem node_no_len (n : DNode) (h : ¬ (1 ≤ n.outs.length ∧ n.ins.length + n.outs.length + n.vars.length ≤ 500 ∧ 1 ≤ n.eqs.length ∧ n.eqs.length ≤ 500)) : nodeB n = false := of_not_true fun hh => h ((node_iff n).1 hh).1
theorem node_no_eq (n : DNode) (h : n.eqs.all eqB = false) : nodeB n = false := of_not_true fun hh => by
  have := ((node_iff n).1 hh).2.2.2.2.2
  rw [h] at this
  cases this

theorem vs_all (ins outs vars : List DVar) : (∀ i (h : i < (ins ++ outs ++ vars).length), vbB (ins.length + outs.length) i (ins ++ outs ++ vars)[i] = true) ↔ ins.all portB = true ∧ outs.all portB = true ∧ vars.all varB = true := by
  simp only [List.all_eq_true]
  constructor
  · intro h
    refine ⟨fun x hx => ?_, fun x hx => ?_, fun x hx => ?_⟩
    · obtain ⟨j, hj, rfl⟩ := List.getElem_of_mem hx
      have := h j (by simp only [List.length_append]; omega)
      rw [List.getElem_append_left (by simp only [List.length_append]; omega), List.getElem_append_left hj] at this
      unfold vbB at this
      rw [if_pos (by omega)] at this
      exact this
    · obtain ⟨j, hj, rfl⟩ := List.getElem_of_mem hx
      have := h (ins.length + j) (by simp only [List.length_append]; omega)
      rw [List.getElem_append_left (by simp only [List.length_append]; omega), List.getElem_append_right (by omega)] at this
      unfold vbB at this
      rw [if_pos (by omega)] at this
      simpa using this
    · obtain ⟨j, hj, rfl⟩ := List.getElem_of_mem hx
      have := h (ins.length + outs.length + j) (by simp only [List.length_append]; omega)
      rw [List.getElem_append_right (by simp only [List.length_append]; omega)] at this
      unfold vbB at this
      rw [if_neg (by omega)] at this
      simpa using this
  · rintro ⟨h1, h2, h3⟩ i hi
    simp only [List.length_append] at hi
    unfold vbB
    by_cases c1 : i < ins.length
    · rw [if_pos (by omega), List.getElem_append_left (by simp only [List.length_append]; omega), List.getElem_append_left c1]
      exact h1 _ (List.getElem_mem c1)
    · by_cases c2 : i < ins.length + outs.length
      · rw [if_pos c2, List.getElem_append_left (by simp only [List.length_append]; omega), List.getElem_append_right (by omega)]
        exact h2 _ (List.getElem_mem (by omega))
      · rw [if_neg c2, List.getElem_append_right (by simp only [List.length_append]; omega)]
        exact h3 _ (List.getElem_mem (by simp only [List.length_append]; omega))

theorem node_no_var (n : DNode) (vs : List DVar) (e : n.ins ++ n.outs ++ n.vars = vs) (i : Nat) (hi : i < vs.length) (h : vbB (n.ins.length + n.outs.length) i vs[i] = false) : nodeB n = false := of_not_true fun hh => by
  have hn := (node_iff n).1 hh
  subst e
  have := (vs_all n.ins n.outs n.vars).2 ⟨hn.2.2.1, hn.2.2.2.1, hn.2.2.2.2.1⟩ i hi
  rw [h] at this
  cases this

theorem node_yes (n : DNode) (vs : List DVar) (e : n.ins ++ n.outs ++ n.vars = vs) (h0 : 1 ≤ n.outs.length ∧ n.ins.length + n.outs.length + n.vars.length ≤ 500 ∧ 1 ≤ n.eqs.length ∧ n.eqs.length ≤ 500) (h1 : nameB n.name = true)
    (h2 : ∀ i (h : i < vs.length), vbB (n.ins.length + n.outs.length) i vs[i] = true) (h3 : n.eqs.all eqB = true) : nodeB n = true := by
  subst e
  have := (vs_all n.ins n.outs n.vars).1 h2
  exact (node_iff n).2 ⟨h0, h1, this.1, this.2.1, this.2.2, h3⟩

theorem var_iff (v : DVar) : varB v = true ↔ nameB v.name = true ∧ (v.type = 1 ∨ v.type = 2) ∧ v.clock.length ≤ 8 ∧ v.clock.all condB = true := by
  unfold varB
  simp only [Bool.and_eq_true, decide_eq_true_iff, and_assoc]
theorem port_iff (v : DVar) : portB v = true ↔ v.clock.length = 0 ∧ varB v = true := by
  unfold portB
  simp only [Bool.and_eq_true, decide_eq_true_iff]
theorem vb_iff (m i : Nat) (v : DVar) : vbB m i v = true ↔ nameB v.name = true ∧ (v.type = 1 ∨ v.type = 2) ∧ v.clock.length ≤ 8 ∧ v.clock.all condB = true ∧ (i < m → v.clock.length = 0) := by
  unfold vbB
  by_cases h : i < m
  · rw [if_pos h, port_iff, var_iff]
    constructor
    · rintro ⟨a, b, c, d, e⟩; exact ⟨b, c, d, e, fun _ => a⟩
    · rintro ⟨b, c, d, e, a⟩; exact ⟨a h, b, c, d, e⟩
  · rw [if_neg h, var_iff]
    constructor
    · rintro ⟨b, c, d, e⟩; exact ⟨b, c, d, e, fun h' => absurd h' h⟩
    · rintro ⟨b, c, d, e, _⟩; exact ⟨b, c, d, e⟩
theorem vb_no (m i : Nat) (v : DVar) (h : ¬ (nameB v.name = true ∧ (v.type = 1 ∨ v.type = 2) ∧ v.clock.length ≤ 8 ∧ v.clock.all condB = true ∧ (i < m → v.clock.length = 0))) : vbB m i v = false := of_not_true fun hh => h ((vb_iff m i v).1 hh)

end Go.Proofs.YtmglbkndjnflkaaGreatDoor
namespace Go.Proofs.YtmglbkndjnflkaaGreatDoor
open Go.RowKit
set_option linter.unusedSimpArgs false
set_option linter.unusedVariables false

/-! ### Texts, as plain functions -/
theorem ba_assoc (a b c : ByteArray) : a ++ b ++ c = a ++ (b ++ c) := by
  apply ByteArray.ext
  simp [ByteArray.data_append]
theorem ba_nil (a : ByteArray) : a ++ ByteArray.empty = a := by
  apply ByteArray.ext
  simp [ByteArray.data_append]
theorem ba_nil' (a : ByteArray) : ByteArray.empty ++ a = a := by
  apply ByteArray.ext
  simp [ByteArray.data_append]
theorem ba_size (a b : ByteArray) : (a ++ b).size = a.size + b.size := by simp [ByteArray.size_append]

def Lneg : ByteArray := ⟨#[40, 45, 32]⟩
def Lnot : ByteArray := ⟨#[40, 110, 111, 116, 32]⟩
def Lcl : ByteArray := ⟨#[41]⟩
def Lop : ByteArray := ⟨#[40]⟩
def Lif : ByteArray := ⟨#[40, 105, 102, 32]⟩
def Lthen : ByteArray := ⟨#[32, 116, 104, 101, 110, 32]⟩
def Lelse : ByteArray := ⟨#[32, 101, 108, 115, 101, 32]⟩
def Lfby : ByteArray := ⟨#[32, 102, 98, 121, 32]⟩
def Lmerge : ByteArray := ⟨#[40, 109, 101, 114, 103, 101, 32]⟩
def Lsp : ByteArray := ⟨#[32]⟩
def Ltrue : ByteArray := ⟨#[116, 114, 117, 101]⟩
def Lfalse : ByteArray := ⟨#[102, 97, 108, 115, 101]⟩
def Lwhen : ByteArray := ⟨#[32, 119, 104, 101, 110, 32]⟩
def Lwhenot : ByteArray := ⟨#[32, 119, 104, 101, 110, 111, 116, 32]⟩
def Lint : ByteArray := ⟨#[58, 32, 105, 110, 116]⟩
def Lbool : ByteArray := ⟨#[58, 32, 98, 111, 111, 108]⟩
def Lcomma : ByteArray := ⟨#[44, 32]⟩
def Lsemi : ByteArray := ⟨#[59, 32]⟩
def Lnode : ByteArray := ⟨#[110, 111, 100, 101, 32]⟩
def Lret : ByteArray := ⟨#[41, 32, 114, 101, 116, 117, 114, 110, 115, 32, 40]⟩
def Lcln : ByteArray := ⟨#[41, 10]⟩
def Lvar : ByteArray := ⟨#[118, 97, 114, 32]⟩
def Lend : ByteArray := ⟨#[59, 10]⟩
def Llet : ByteArray := ⟨#[108, 101, 116, 10]⟩
def Ltel : ByteArray := ⟨#[116, 101, 108, 10]⟩
def Lind : ByteArray := ⟨#[32, 32]⟩
def Leq : ByteArray := ⟨#[32, 61, 32]⟩
def sgT (op : Int) : ByteArray := if op = 18 then ⟨#[111, 114]⟩ else if op = 19 then ⟨#[120, 111, 114]⟩ else if op = 17 then ⟨#[97, 110, 100]⟩ else if op = 11 then ⟨#[61]⟩ else if op = 12 then ⟨#[60, 62]⟩ else if op = 13 then ⟨#[60]⟩ else if op = 14 then ⟨#[60, 61]⟩ else if op = 15 then ⟨#[62]⟩ else if op = 16 then ⟨#[62, 61]⟩ else if op = 6 then ⟨#[43]⟩ else if op = 7 then ⟨#[45]⟩ else if op = 8 then ⟨#[42]⟩ else if op = 9 then ⟨#[47]⟩ else if op = 10 then ⟨#[109, 111, 100]⟩ else ⟨#[]⟩

theorem sgT_size (op : Int) : (sgT op).size ≤ 3 := by
  have hs : ∀ (c : Prop) [Decidable c] (a b : ByteArray), a.size ≤ 3 → b.size ≤ 3 → (if c then a else b).size ≤ 3 := by
    intro c _ a b ha hb
    split
    · exact ha
    · exact hb
  unfold sgT
  refine hs _ _ _ (by decide) (hs _ _ _ (by decide) (hs _ _ _ (by decide) (hs _ _ _ (by decide) (hs _ _ _ (by decide) (hs _ _ _ (by decide) (hs _ _ _ (by decide) (hs _ _ _ (by decide) (hs _ _ _ (by decide) (hs _ _ _ (by decide) (hs _ _ _ (by decide) (hs _ _ _ (by decide) (hs _ _ _ (by decide) (hs _ _ _ (by decide) (by decide))))))))))))))

def dcT (n : Int) : ByteArray := ⟨(Lib.itoa n).toArray⟩
def flT (v : Int) : ByteArray := if v = 0 then Lfalse else Ltrue
def cnT (on : Bool) (name : ByteArray) : ByteArray := (if on = true then Lwhen else Lwhenot) ++ name
def jnT (sep : ByteArray) (xs : List ByteArray) : ByteArray := ⟨(Lib.join (xs.map (·.data.toList)) sep.data.toList).toArray⟩
def arN (op : Int) : Nat := (ocI op).toNat

/-- What stands before, between and behind the operands of an item. -/
def tsT (t : DItem) : List ByteArray :=
  if t.op = 1 then [dcT t.val] else if t.op = 2 then [flT t.val] else if t.op = 3 then [t.name] else if t.op = 4 then [Lneg, Lcl] else if t.op = 5 then [Lnot, Lcl]
  else if t.op = 20 then [Lif, Lthen, Lelse, Lcl] else if t.op = 21 then [Lop ++ dcT t.val ++ Lfby, Lcl] else if t.op = 22 then [Lop ++ flT t.val ++ Lfby, Lcl]
  else if t.op = 23 then [Lop, cnT (decide (t.val = 1)) t.name ++ Lcl] else if t.op = 24 then [Lmerge ++ t.name ++ Lsp, Lsp, Lcl] else [Lop, Lsp ++ sgT t.op ++ Lsp, Lcl]

def weave : List ByteArray → List ByteArray → ByteArray
  | [], _ => ByteArray.empty
  | t :: _, [] => t
  | t :: ts, u :: us => t ++ (u ++ weave ts us)

theorem tsT_length (t : DItem) (h : 1 ≤ t.op ∧ t.op ≤ 24) : (tsT t).length = arN t.op + 1 := by
  unfold tsT arN ocI
  by_cases h1 : t.op = 1
  · simp [h1]
  by_cases h2 : t.op = 2
  · simp [h2]
  by_cases h3 : t.op = 3
  · simp [h3]
  by_cases h4 : t.op = 4
  · simp [h4]
  by_cases h5 : t.op = 5
  · simp [h5]
  by_cases h20 : t.op = 20
  · simp [h20]
  by_cases h21 : t.op = 21
  · simp [h21]
  by_cases h22 : t.op = 22
  · simp [h22]
  by_cases h23 : t.op = 23
  · simp [h23]
  by_cases h24 : t.op = 24
  · simp [h24]
  have h25 : ¬ t.op = 25 := by omega
  simp [h1, h2, h3, h4, h5, h20, h21, h22, h23, h24, h25]

/-- The items from b up to e are a row of operands, whose texts are these. -/
def Ch (code : List DItem) (b e : Nat) (ss : List ByteArray) : Prop :=
  ∀ P : Nat → Nat → List ByteArray → Prop, (∀ b, P b b []) → (∀ (b m e : Nat) (ss us : List ByteArray) (h : e < code.length), P b m ss → P m e us → us.length = arN code[e].op → P b (e + 1) (ss ++ [weave (tsT code[e]) us])) → P b e ss
theorem Ch.nil {code : List DItem} (b : Nat) : Ch code b b [] := fun _ h _ => h b
theorem Ch.snoc {code : List DItem} {b m e : Nat} {ss us : List ByteArray} (h : e < code.length) (h1 : Ch code b m ss) (h2 : Ch code m e us) (h3 : us.length = arN code[e].op) : Ch code b (e + 1) (ss ++ [weave (tsT code[e]) us]) := fun P a c => c b m e ss us h (h1 P a c) (h2 P a c) h3
theorem Ch.ind {code : List DItem} {motive : ∀ (b e : Nat) (ss : List ByteArray), Ch code b e ss → Prop} (nil : ∀ b, motive b b [] (Ch.nil b)) (snoc : ∀ {b m e : Nat} {ss us : List ByteArray} (h : e < code.length) (h1 : Ch code b m ss) (h2 : Ch code m e us) (h3 : us.length = arN code[e].op), motive b m ss h1 → motive m e us h2 → motive b (e + 1) (ss ++ [weave (tsT code[e]) us]) (Ch.snoc h h1 h2 h3)) {b e : Nat} {ss : List ByteArray} (t : Ch code b e ss) : motive b e ss t := by
  obtain ⟨_, k⟩ := t (fun b e ss => ∃ h : Ch code b e ss, motive b e ss h) (fun b => ⟨_, nil b⟩) (fun b m e ss us h ⟨h1, k1⟩ ⟨h2, k2⟩ h3 => ⟨_, snoc h h1 h2 h3 k1 k2⟩)
  exact k
theorem Ch.inv {code : List DItem} {motive : ∀ (b e : Nat) (ss : List ByteArray), Ch code b e ss → Prop} {b e : Nat} {ss : List ByteArray} (t : Ch code b e ss) (nil : ∀ b, motive b b [] (Ch.nil b)) (snoc : ∀ {b m e : Nat} {ss us : List ByteArray} (h : e < code.length) (h1 : Ch code b m ss) (h2 : Ch code m e us) (h3 : us.length = arN code[e].op), motive b (e + 1) (ss ++ [weave (tsT code[e]) us]) (Ch.snoc h h1 h2 h3)) : motive b e ss t :=
  Ch.ind (motive := motive) nil (fun h h1 h2 h3 _ _ => snoc h h1 h2 h3) t

theorem Ch.le {code : List DItem} {b e : Nat} {ss : List ByteArray} (h : Ch code b e ss) : b ≤ e := by
  induction h using Ch.ind with
  | nil => exact Nat.le_refl _
  | snoc h h1 h2 h3 i1 i2 => omega

theorem Ch.split {code : List DItem} {b e : Nat} {ss : List ByteArray} (h : Ch code b e ss) : ∀ n, n ≤ ss.length → ∃ m s1 s2, ss = s1 ++ s2 ∧ s2.length = n ∧ Ch code b m s1 ∧ Ch code m e s2 := by
  induction h using Ch.ind with
  | nil b =>
    intro n hn
    have : n = 0 := by simpa using hn
    exact ⟨b, [], [], rfl, by simp [this], .nil b, .nil b⟩
  | @snoc b m e ss us h h1 h2 h3 i1 i2 =>
    intro n hn
    match n with
    | 0 => exact ⟨e + 1, _, [], (List.append_nil _).symm, rfl, .snoc h h1 h2 h3, .nil _⟩
    | n + 1 =>
      obtain ⟨m', s1, s2, rfl, hl, c1, c2⟩ := i1 n (by simpa using hn)
      exact ⟨m', s1, s2 ++ [weave (tsT code[e]) us], by simp, by simp [hl], c1, .snoc h c2 h2 h3⟩

theorem Ch.last {code : List DItem} {b e : Nat} {s : ByteArray} (h : Ch code b (e + 1) [s]) : ∃ (h : e < code.length) (us : List ByteArray), Ch code b e us ∧ us.length = arN code[e].op ∧ s = weave (tsT code[e]) us := by
  generalize hss : [s] = ss at h
  generalize he : e + 1 = e' at h
  cases h using Ch.inv with
  | nil => cases hss
  | @snoc _ m e2 ss us h h1 h2 h3 =>
    obtain rfl : e = e2 := by omega
    have : ss = [] ∧ s = weave (tsT code[e]) us := by
      cases ss with
      | nil => simpa using hss
      | cons x xs => simp at hss
    obtain ⟨rfl, rfl⟩ := this
    have f : ∀ b m, Ch code b m [] → b = m := by
      intro b m h
      generalize hs : ([] : List ByteArray) = ss at h
      cases h using Ch.inv with
      | nil => rfl
      | snoc _ _ _ _ => simp at hs
    obtain rfl := f _ _ h1
    exact ⟨h, us, h2, h3, rfl⟩

theorem Ch.snoc_inv {code : List DItem} {b e : Nat} {ss : List ByteArray} {n : Nat} (h : Ch code b e ss) (hn : ss.length = n + 1) :
    ∃ m e1 s0 us, ∃ h : e1 < code.length, e = e1 + 1 ∧ ss = s0 ++ [weave (tsT code[e1]) us] ∧ s0.length = n ∧ Ch code b m s0 ∧ Ch code m e1 us ∧ us.length = arN code[e1].op := by
  cases h using Ch.inv with
  | nil => simp at hn
  | @snoc _ m e1 s0 us h h1 h2 h3 => exact ⟨m, e1, s0, us, h, rfl, rfl, by simpa using hn, h1, h2, h3⟩

theorem Ch.one {code : List DItem} : ∀ e b b' us us', Ch code b e us → Ch code b' e us' → us.length = us'.length → b = b' ∧ us = us' := by
  intro e
  induction e using Nat.strongRecOn with
  | _ e ih =>
    intro b b' us us' h h' hl
    match hn : us.length with
    | 0 =>
      have e1 : us = [] := List.eq_nil_of_length_eq_zero hn
      have e2 : us' = [] := List.eq_nil_of_length_eq_zero (by omega)
      subst e1 e2
      have f : ∀ b, Ch code b e [] → b = e := by
        intro b h
        generalize hs : ([] : List ByteArray) = ss at h
        cases h using Ch.inv with
        | nil => rfl
        | snoc _ _ _ _ => simp at hs
      exact ⟨(f b h).trans (f b' h').symm, rfl⟩
    | n + 1 =>
      obtain ⟨m, e1, s0, u, hlt, rfl, rfl, hs0, c1, c2, c3⟩ := h.snoc_inv hn
      obtain ⟨m', e1', s0', u', hlt', he', rfl, hs0', c1', c2', c3'⟩ := h'.snoc_inv (n := n) (by omega)
      obtain rfl : e1 = e1' := by omega
      obtain ⟨rfl, rfl⟩ := ih e1 (Nat.lt_succ_self _) m m' u u' c2 c2' (by rw [c3, c3'])
      obtain ⟨rfl, rfl⟩ := ih m (by have := c2.le; omega) b b' s0 s0' c1 c1' (by omega)
      exact ⟨rfl, rfl⟩

theorem ch_up {code : List DItem} : ∀ (n k : Nat) (r : Nat) (ss : List ByteArray), n = code.length - k → k ≤ code.length → Ch code 0 k ss → ss.length = r → wk (code.drop k) r = true → ∃ s, Ch code 0 code.length [s] := by
  intro n
  induction n with
  | zero =>
    intro k r ss hn hk hc hr hw
    obtain rfl : k = code.length := by omega
    rw [List.drop_length] at hw
    simp [wk] at hw
    have : ss.length = 1 := by omega
    match ss, this with
    | [s], _ => exact ⟨s, hc⟩
  | succ n ih =>
    intro k r ss hn hk hc hr hw
    have hlt : k < code.length := by omega
    rw [List.drop_eq_getElem_cons hlt] at hw
    simp only [wk] at hw
    have hbd := ocI_bd code[k].op
    by_cases hneg : (r : Int) < ocI code[k].op
    · rw [if_pos hneg] at hw; cases hw
    rw [if_neg hneg] at hw
    have har : ((arN code[k].op : Nat) : Int) = ocI code[k].op := by unfold arN; omega
    obtain ⟨m, s1, s2, rfl, hl2, c1, c2⟩ := hc.split (arN code[k].op) (by omega)
    refine ih (k + 1) (s1.length + 1) (s1 ++ [weave (tsT code[k]) s2]) (by omega) (by omega) (.snoc hlt c1 c2 hl2) (by simp) ?_
    rw [List.length_append] at hr
    have : (((s1.length + 1 : Nat)) : Int) = (r : Int) + (1 - ocI code[k].op) := by omega
    rw [this]
    exact hw

theorem ch_ex {code : List DItem} (h : wk code 0 = true) : ∃ s, Ch code 0 code.length [s] :=
  ch_up code.length 0 0 [] (by simp) (Nat.zero_le _) (.nil 0) rfl (by simpa using h)

theorem ch_bk {code : List DItem} (har : ∀ t, t ∈ code → 0 ≤ arI t.op) {b e : Nat} {us : List ByteArray} (h : Ch code b e us) : ∀ n, bk (code.take e).reverse (n + us.length) = bk (code.take b).reverse n := by
  induction h using Ch.ind with
  | nil b => intro n; simp
  | @snoc b m e ss us h h1 h2 h3 i1 i2 =>
    intro n
    have ha := har code[e] (List.getElem_mem h)
    have ho := oc_ar _ ha
    rw [take_rev code e h]
    rw [List.length_append, show n + (ss.length + [weave (tsT code[e]) us].length) = (n + ss.length) + 1 from by simp; omega]
    simp only [bk]
    rw [if_neg (by omega), ← i1 n, ← i2 (n + ss.length)]
    congr 1
    rw [h3]
    unfold arN
    rw [ho]

theorem ch_bg {code : List DItem} (har : ∀ t, t ∈ code → 0 ≤ arI t.op) {b e : Nat} {u : ByteArray} (h : Ch code b e [u]) (he : e ≤ code.length) : bgI (code.take e) = b := by
  have h1 := ch_bk har h 0
  unfold bgI
  rw [show 0 + [u].length = 1 from rfl] at h1
  rw [h1, bk_zero]
  have := h.le
  simp
  omega

end Go.Proofs.YtmglbkndjnflkaaGreatDoor
namespace Go.Proofs.YtmglbkndjnflkaaGreatDoor
open Go.RowKit
set_option linter.unusedSimpArgs false
set_option linter.unusedVariables false

def szs (l : List ByteArray) : Nat := (l.map (·.size)).sum
theorem szs_nil : szs [] = 0 := rfl
theorem szs_cons (x : ByteArray) (l : List ByteArray) : szs (x :: l) = x.size + szs l := by simp [szs]
theorem szs_append (l m : List ByteArray) : szs (l ++ m) = szs l + szs m := by simp [szs]
theorem szs_le (B : Nat) (l : List ByteArray) (h : ∀ x, x ∈ l → x.size ≤ B) : szs l ≤ B * l.length := by
  induction l with
  | nil => simp [szs]
  | cons x l ih =>
    rw [szs_cons, List.length_cons, Nat.mul_succ]
    have h1 := h x (List.mem_cons_self ..)
    have h2 := ih (fun y hy => h y (List.mem_cons_of_mem _ hy))
    omega

theorem name_size (s : ByteArray) (h : nameB s = true) : s.size ≤ 40 := by
  simp only [nameB, plainB, freshB, Bool.or_eq_true, Bool.and_eq_true, decide_eq_true_iff] at h
  omega

theorem nd_le : ∀ (k u : Nat), u < 10 ^ (k + 1) → Lib.nDigits u ≤ k + 1
  | 0, u, h => by rw [Lib.nDigits_small (by simpa using h)]; exact Nat.le_refl _
  | k + 1, u, h => by
    by_cases hs : u < 10
    · rw [Lib.nDigits_small hs]; omega
    · rw [Lib.nDigits_big hs]
      have := nd_le k (u / 10) (by rw [Nat.pow_succ] at h; omega)
      omega
theorem dd_len (u : Nat) (h : u < 10000000000) : (Lib.decDigits u).length ≤ 10 := by
  rw [Lib.decDigits_eq]
  have := nd_le 9 u (by simpa using h)
  simpa using this
theorem dcT_size (n : Int) (h : -2147483647 ≤ n ∧ n ≤ 2147483647) : (dcT n).size ≤ 11 := by
  unfold dcT Lib.itoa
  simp only [ByteArray.size, List.size_toArray]
  split
  · have := dd_len n.natAbs (by omega)
    simp only [List.length_cons]
    omega
  · have := dd_len n.toNat (by omega)
    omega
theorem flT_size (v : Int) : (flT v).size ≤ 5 := by
  unfold flT
  split <;> decide
theorem cnT_size (on : Bool) (s : ByteArray) (h : s.size ≤ 40) : (cnT on s).size ≤ 48 := by
  unfold cnT
  rw [ba_size]
  have h1 : Lwhen.size ≤ 8 := by decide
  have h2 : Lwhenot.size ≤ 8 := by decide
  split <;> omega

theorem lits_size : Lneg.size ≤ 8 ∧ Lnot.size ≤ 8 ∧ Lcl.size ≤ 8 ∧ Lop.size ≤ 8 ∧ Lif.size ≤ 8 ∧ Lthen.size ≤ 8 ∧ Lelse.size ≤ 8 ∧ Lfby.size ≤ 8 ∧ Lmerge.size ≤ 8 ∧ Lsp.size ≤ 8 := by decide

theorem tsT_size (t : DItem) (h : itB t = true) : szs (tsT t) ≤ 100 := by
  obtain ⟨h0, hr, hn⟩ := (it_iff t).1 h
  obtain ⟨z1, z2, z3, z4, z5, z6, z7, z8, z9, z10⟩ := lits_size
  have hd : t.op = 1 ∨ t.op = 21 → (dcT t.val).size ≤ 11 := fun ho => by
    refine dcT_size _ ?_
    simp only [rgB, decide_eq_true_iff, loI, hiI] at hr
    rcases ho with ho | ho <;> simp [ho] at hr <;> omega
  have hf := flT_size t.val
  have hnm : t.op = 3 ∨ t.op = 23 ∨ t.op = 24 → t.name.size ≤ 40 := fun ho => by
    simp only [nmB, if_pos ho] at hn
    exact name_size _ hn
  have hsg := sgT_size t.op
  have hcn : t.op = 23 → (cnT (decide (t.val = 1)) t.name).size ≤ 48 := fun ho => cnT_size _ _ (hnm (by omega))
  unfold tsT
  by_cases h1 : t.op = 1
  · simp only [h1, if_true, szs_cons, szs_nil]; have := hd (Or.inl h1); omega
  by_cases h2 : t.op = 2
  · simp only [if_neg h1, if_pos h2, szs_cons, szs_nil]; omega
  by_cases h3 : t.op = 3
  · simp only [if_neg h1, if_neg h2, if_pos h3, szs_cons, szs_nil]; have := hnm (Or.inl h3); omega
  by_cases h4 : t.op = 4
  · simp only [if_neg h1, if_neg h2, if_neg h3, if_pos h4, szs_cons, szs_nil]; omega
  by_cases h5 : t.op = 5
  · simp only [if_neg h1, if_neg h2, if_neg h3, if_neg h4, if_pos h5, szs_cons, szs_nil]; omega
  by_cases h20 : t.op = 20
  · simp only [if_neg h1, if_neg h2, if_neg h3, if_neg h4, if_neg h5, if_pos h20, szs_cons, szs_nil]; omega
  by_cases h21 : t.op = 21
  · simp only [if_neg h1, if_neg h2, if_neg h3, if_neg h4, if_neg h5, if_neg h20, if_pos h21, szs_cons, szs_nil, ba_size]; have := hd (Or.inr h21); omega
  by_cases h22 : t.op = 22
  · simp only [if_neg h1, if_neg h2, if_neg h3, if_neg h4, if_neg h5, if_neg h20, if_neg h21, if_pos h22, szs_cons, szs_nil, ba_size]; omega
  by_cases h23 : t.op = 23
  · simp only [if_neg h1, if_neg h2, if_neg h3, if_neg h4, if_neg h5, if_neg h20, if_neg h21, if_neg h22, if_pos h23, szs_cons, szs_nil, ba_size]; have := hcn h23; omega
  by_cases h24 : t.op = 24
  · simp only [if_neg h1, if_neg h2, if_neg h3, if_neg h4, if_neg h5, if_neg h20, if_neg h21, if_neg h22, if_neg h23, if_pos h24, szs_cons, szs_nil, ba_size]; have := hnm (by omega); omega
  simp only [if_neg h1, if_neg h2, if_neg h3, if_neg h4, if_neg h5, if_neg h20, if_neg h21, if_neg h22, if_neg h23, if_neg h24, szs_cons, szs_nil, ba_size]
  omega

theorem weave_size : ∀ ts us, (weave ts us).size ≤ szs ts + szs us
  | [], us => by simp [weave]
  | t :: ts, [] => by simp only [weave, szs_cons, szs_nil]; omega
  | t :: ts, u :: us => by
    have := weave_size ts us
    simp only [weave, ba_size, szs_cons]
    omega

theorem ch_size {code : List DItem} (hit : ∀ t, t ∈ code → itB t = true) {b e : Nat} {ss : List ByteArray} (h : Ch code b e ss) : szs ss + 100 * b ≤ 100 * e := by
  induction h using Ch.ind with
  | nil b => simp [szs]
  | @snoc b m e ss us h h1 h2 h3 i1 i2 =>
    have h4 := tsT_size code[e] (hit _ (List.getElem_mem h))
    have h5 := weave_size (tsT code[e]) us
    rw [szs_append, szs_cons, szs_nil]
    omega

/-- The operand that ends before e, worked out. -/
def stC (st : List ByteArray) (t : DItem) : List ByteArray := st.take (st.length - arN t.op) ++ [weave (tsT t) (st.drop (st.length - arN t.op))]
theorem ch_st {code : List DItem} {b e : Nat} {ss : List ByteArray} (h : Ch code b e ss) : ∀ z, z ++ ss = ((code.take e).drop b).foldl stC z := by
  induction h using Ch.ind with
  | nil b => intro z; simp
  | @snoc b m e ss us h h1 h2 h3 i1 i2 =>
    intro z
    have e1 := h1.le
    have e2 := h2.le
    have q1 : code.take (e + 1) = code.take e ++ [code[e]] := by simp
    have q2 : ((code.take e).drop b) = ((code.take m).drop b) ++ ((code.take e).drop m) := by
      conv => lhs; rw [← List.take_append_drop m (code.take e), List.take_take, Nat.min_eq_left e2]
      rw [List.drop_append_of_le_length (by rw [List.length_take]; omega)]
    rw [q1, List.drop_append_of_le_length (by rw [List.length_take]; omega), q2, List.foldl_append, List.foldl_append, ← i1, ← i2]
    show _ = stC (z ++ ss ++ us) code[e]
    unfold stC
    have q3 : (z ++ ss ++ us).length - us.length = (z ++ ss).length := by simp; omega
    rw [← h3, q3, List.take_left, List.drop_left, List.append_assoc]
def opT (code : List DItem) (e : Nat) : ByteArray := ((code.take e).foldl stC []).getLastD ByteArray.empty
theorem opT_ch {xs : List DItem} {b e : Nat} {s : ByteArray} (h : Ch xs b e [s]) : opT xs e = s := by
  have h1 := ch_st h ((xs.take b).foldl stC [])
  have h2 : xs.take e = xs.take b ++ (xs.take e).drop b := by
    conv => lhs; rw [← List.take_append_drop b (xs.take e), List.take_take, Nat.min_eq_left h.le]
  unfold opT
  rw [h2, List.foldl_append, ← h1]
  simp
theorem st_size {code : List DItem} (hit : ∀ t, t ∈ code → itB t = true) : ∀ z : List ByteArray, szs (code.foldl stC z) ≤ szs z + 100 * code.length := by
  induction code with
  | nil => intro z; simp
  | cons t r ih =>
    intro z
    have h1 := ih (fun x hx => hit x (List.mem_cons_of_mem _ hx)) (stC z t)
    have h2 := tsT_size t (hit _ (List.mem_cons_self ..))
    have h3 := weave_size (tsT t) (z.drop (z.length - arN t.op))
    have h4 : szs z = szs (z.take (z.length - arN t.op)) + szs (z.drop (z.length - arN t.op)) := by rw [← szs_append, List.take_append_drop]
    have h5 : szs (stC z t) = szs (z.take (z.length - arN t.op)) + (weave (tsT t) (z.drop (z.length - arN t.op))).size := by unfold stC; rw [szs_append, szs_cons, szs_nil]; omega
    rw [List.foldl_cons, List.length_cons]
    omega
theorem last_size : ∀ z : List ByteArray, (z.getLastD ByteArray.empty).size ≤ szs z
  | [] => Nat.zero_le _
  | [x] => by simp [szs_cons, szs_nil]
  | x :: y :: r => by
    have := last_size (y :: r)
    rw [szs_cons]
    simp only [List.getLastD_cons] at this ⊢
    omega
def cdT (code : List DItem) : ByteArray := opT code code.length

theorem cdT_ch {code : List DItem} (h : cdB code = true) : Ch code 0 code.length [cdT code] := by
  have hw : wk code 0 = true := by simp only [cdB, Bool.and_eq_true] at h; exact h.2
  have he := ch_ex hw
  obtain ⟨s, he⟩ := he
  unfold cdT
  rw [opT_ch he]
  exact he
theorem cd_it {code : List DItem} (h : cdB code = true) : ∀ t, t ∈ code → itB t = true := by
  simp only [cdB, Bool.and_eq_true, List.all_eq_true] at h
  exact h.1.2
theorem cd_len {code : List DItem} (h : cdB code = true) : 1 ≤ code.length ∧ code.length ≤ 3000 := by
  have hc := cdT_ch h
  simp only [cdB, Bool.and_eq_true, decide_eq_true_iff] at h
  refine ⟨?_, h.1.1⟩
  obtain ⟨m, e1, s0, us, hlt, he, _⟩ := hc.snoc_inv (n := 0) rfl
  omega
theorem cd_ar {code : List DItem} (h : cdB code = true) : ∀ t, t ∈ code → 0 ≤ arI t.op := fun t ht => (ar_iff t.op).2 (by have := ((it_iff t).1 (cd_it h t ht)).1; omega)
theorem cdT_size {code : List DItem} (h : cdB code = true) : (cdT code).size ≤ 300000 := by
  have h1 := ch_size (cd_it h) (cdT_ch h)
  have h2 := (cd_len h).2
  simp only [szs_cons, szs_nil] at h1
  omega

/-! ### Joined texts -/
theorem jnT_nil (sep : ByteArray) : jnT sep [] = ByteArray.empty := rfl
theorem join_len (sep : ByteArray) (xs : List ByteArray) : (Lib.join (xs.map (·.data.toList)) sep.data.toList).length ≤ sep.size * xs.length + szs xs := by
  cases xs with
  | nil => simp [Lib.join_nil]
  | cons x xs =>
    rw [List.map_cons, Lib.join_cons, List.length_append, Lib.joinTail_length]
    have : Lib.lens (xs.map (·.data.toList)) = szs xs := by
      unfold Lib.lens szs
      rw [List.map_map]
      rfl
    rw [this, szs_cons, List.length_map, List.length_cons, Nat.mul_succ]
    simp only [Array.length_toList]
    have e1 : x.data.size = x.size := rfl
    have e2 : sep.data.size = sep.size := rfl
    rw [e1, e2]
    omega
theorem jnT_size (sep : ByteArray) (xs : List ByteArray) (B : Nat) (h : ∀ x, x ∈ xs → x.size ≤ B) : (jnT sep xs).size ≤ sep.size * xs.length + B * xs.length := by
  have h1 := join_len sep xs
  have h2 := szs_le B xs h
  have : (jnT sep xs).size = (Lib.join (xs.map (·.data.toList)) sep.data.toList).length := by simp [jnT, ByteArray.size]
  omega
theorem jnT_one (sep x : ByteArray) : jnT sep [x] = x := by
  apply ByteArray.ext
  simp [jnT, Lib.join_one]
theorem jnT_step (sep : ByteArray) (xs : List ByteArray) (k : Nat) (h : k < xs.length) (hk : 1 ≤ k) : jnT sep (xs.take (k + 1)) = jnT sep (xs.take k) ++ sep ++ xs[k] := by
  match xs, k, h, hk with
  | x :: xs, k + 1, h, _ =>
    apply ByteArray.ext
    apply Array.ext'
    have hx : (xs.map (·.data.toList))[k]? = some (xs[k]'(by simpa using h)).data.toList := by
      have : k < xs.length := by simpa using h
      simp [this]
    have hj := Lib.joinTail_take_succ sep.data.toList (xs.map (·.data.toList)) k _ hx
    simp only [jnT, List.take_succ_cons, List.map_cons, Lib.join_cons, ByteArray.data_append, List.getElem_cons_succ, Array.toList_append]
    rw [List.map_take, List.map_take, hj]
    simp [List.append_assoc]

def dlTo (v : DVar) (k : Nat) : ByteArray := (v.clock.take k).foldl (fun s c => s ++ cnT c.on c.name) (v.name ++ (if v.type = 2 then Lbool else Lint))
def dlT (v : DVar) : ByteArray := dlTo v v.clock.length
theorem dlTo_zero (v : DVar) : dlTo v 0 = v.name ++ (if v.type = 2 then Lbool else Lint) := by simp [dlTo]
theorem dlTo_succ (v : DVar) (k : Nat) (h : k < v.clock.length) : dlTo v (k + 1) = dlTo v k ++ cnT v.clock[k].on v.clock[k].name := by
  unfold dlTo
  rw [List.take_succ_eq_append_getElem h, List.foldl_append]
  rfl
theorem dlTo_size (v : DVar) (hv : varB v = true) : ∀ k, k ≤ v.clock.length → (dlTo v k).size ≤ 46 + 48 * k := by
  obtain ⟨h1, h2, h3, h4⟩ := (var_iff v).1 hv
  have hn := name_size _ h1
  intro k
  induction k with
  | zero =>
    intro _
    rw [dlTo_zero, ba_size]
    have z1 : Lbool.size ≤ 6 := by decide
    have z2 : Lint.size ≤ 6 := by decide
    split <;> omega
  | succ k ih =>
    intro hk
    rw [dlTo_succ v k (by omega), ba_size]
    have h5 := ih (by omega)
    have h6 : condB v.clock[k] = true := List.all_eq_true.1 h4 _ (List.getElem_mem _)
    have h7 := cnT_size v.clock[k].on v.clock[k].name (name_size _ h6)
    omega
theorem dlT_size (v : DVar) (hv : varB v = true) : (dlT v).size ≤ 500 := by
  have h1 := dlTo_size v hv v.clock.length (Nat.le_refl _)
  have h2 := ((var_iff v).1 hv).2.2.1
  unfold dlT
  omega
theorem dls_size (vs : List DVar) (hv : ∀ v, v ∈ vs → varB v = true) (hl : vs.length ≤ 500) : (jnT Lsemi (vs.map dlT)).size ≤ 251000 := by
  have h1 := jnT_size Lsemi (vs.map dlT) 500 (fun x hx => by
    obtain ⟨v, hvm, rfl⟩ := List.mem_map.1 hx
    exact dlT_size v (hv v hvm))
  have z : Lsemi.size = 2 := rfl
  rw [List.length_map, z] at h1
  omega

/-! ### The whole text -/
def rhT (e : DEq) : ByteArray := if e.call.size = 0 then cdT e.code else e.call ++ (Lop ++ (jnT Lcomma (e.args.map cdT) ++ Lcl))
def eqT (e : DEq) : ByteArray := Lind ++ (jnT Lcomma e.lhs ++ (Leq ++ (rhT e ++ Lend)))
def catTo {α : Type} (f : α → ByteArray) (l : List α) (k : Nat) : ByteArray := (l.take k).foldl (fun s x => s ++ f x) ByteArray.empty
theorem catTo_zero {α : Type} (f : α → ByteArray) (l : List α) : catTo f l 0 = ByteArray.empty := by simp [catTo]
theorem catTo_succ {α : Type} (f : α → ByteArray) (l : List α) (k : Nat) (h : k < l.length) : catTo f l (k + 1) = catTo f l k ++ f l[k] := by
  unfold catTo
  rw [List.take_succ_eq_append_getElem h, List.foldl_append]
  rfl
theorem catTo_size {α : Type} (f : α → ByteArray) (l : List α) (B : Nat) (h : ∀ x, x ∈ l → (f x).size ≤ B) : ∀ k, k ≤ l.length → (catTo f l k).size ≤ B * k := by
  intro k
  induction k with
  | zero => intro _; rw [catTo_zero]; simp
  | succ k ih =>
    intro hk
    rw [catTo_succ f l k (by omega), ba_size, Nat.mul_succ]
    have h1 := ih (by omega)
    have h2 := h l[k] (List.getElem_mem _)
    omega
def hdT (n : DNode) : ByteArray := Lnode ++ (n.name ++ (Lop ++ (jnT Lsemi (n.ins.map dlT) ++ (Lret ++ (jnT Lsemi (n.outs.map dlT) ++ Lcln)))))
def vrT (n : DNode) : ByteArray := if n.vars.length = 0 then ByteArray.empty else Lvar ++ (jnT Lsemi (n.vars.map dlT) ++ Lend)
def ndT (n : DNode) : ByteArray := hdT n ++ (vrT n ++ (Llet ++ (catTo eqT n.eqs n.eqs.length ++ Ltel)))
def prT (ns : List DNode) : ByteArray := catTo ndT ns ns.length

theorem lits_size2 : Lcomma.size = 2 ∧ Lsemi.size = 2 ∧ Lind.size ≤ 12 ∧ Leq.size ≤ 12 ∧ Lend.size ≤ 12 ∧ Lnode.size ≤ 12 ∧ Lret.size ≤ 12 ∧ Lcln.size ≤ 12 ∧ Lvar.size ≤ 12 ∧ Llet.size ≤ 12 ∧ Ltel.size ≤ 12 := by decide

theorem eq_iff (e : DEq) : eqB e = true ↔ (1 ≤ e.lhs.length ∧ e.lhs.length ≤ 500 ∧ e.args.length ≤ 500) ∧ e.lhs.all nameB = true ∧ (if e.call.size = 0 then decide (e.lhs.length = 1 ∧ e.args.length = 0) && cdB e.code else nameB e.call && decide (e.code.length = 0) && e.args.all cdB) = true := by
  simp only [eqB, Bool.and_eq_true, decide_eq_true_iff, and_assoc]
theorem eq_code {e : DEq} (h : eqB e = true) (h0 : e.call.size = 0) : cdB e.code = true := by
  have := ((eq_iff e).1 h).2.2
  rw [if_pos h0, Bool.and_eq_true] at this
  exact this.2
theorem eq_call {e : DEq} (h : eqB e = true) (h0 : ¬ e.call.size = 0) : nameB e.call = true ∧ (∀ a, a ∈ e.args → cdB a = true) := by
  have := ((eq_iff e).1 h).2.2
  rw [if_neg h0, Bool.and_eq_true, Bool.and_eq_true, List.all_eq_true] at this
  exact ⟨this.1.1, this.2⟩
theorem lhs_size {e : DEq} (h : eqB e = true) : (jnT Lcomma e.lhs).size ≤ 21000 := by
  have h1 := (eq_iff e).1 h
  have h2 := jnT_size Lcomma e.lhs 40 (fun x hx => name_size x (List.all_eq_true.1 h1.2.1 x hx))
  rw [lits_size2.1] at h2
  omega
theorem args_size {e : DEq} (h : eqB e = true) (h0 : ¬ e.call.size = 0) : (jnT Lcomma (e.args.map cdT)).size ≤ 150001000 := by
  have h1 := (eq_iff e).1 h
  have h2 := jnT_size Lcomma (e.args.map cdT) 300000 (fun x hx => by
    obtain ⟨a, ha, rfl⟩ := List.mem_map.1 hx
    exact cdT_size ((eq_call h h0).2 a ha))
  rw [lits_size2.1, List.length_map] at h2
  omega
theorem rhT_size {e : DEq} (h : eqB e = true) : (rhT e).size ≤ 150002000 := by
  unfold rhT
  split
  · rename_i h0
    have := cdT_size (eq_code h h0)
    omega
  · rename_i h0
    have h1 := name_size _ (eq_call h h0).1
    have h2 := args_size h h0
    have z1 : Lop.size = 1 := rfl
    have z2 : Lcl.size = 1 := rfl
    simp only [ba_size]
    omega
theorem eqT_size {e : DEq} (h : eqB e = true) : (eqT e).size ≤ 160000000 := by
  have h1 := lhs_size h
  have h2 := rhT_size h
  obtain ⟨_, _, z1, z2, z3, _⟩ := lits_size2
  unfold eqT
  simp only [ba_size]
  omega

theorem node_vars {n : DNode} (h : nodeB n = true) : (∀ v, v ∈ n.ins → varB v = true) ∧ (∀ v, v ∈ n.outs → varB v = true) ∧ (∀ v, v ∈ n.vars → varB v = true) := by
  obtain ⟨_, _, h1, h2, h3, _⟩ := (node_iff n).1 h
  have hp : ∀ v, portB v = true → varB v = true := fun v hv => by simp only [portB, Bool.and_eq_true] at hv; exact hv.2
  exact ⟨fun v hv => hp v (List.all_eq_true.1 h1 v hv), fun v hv => hp v (List.all_eq_true.1 h2 v hv), fun v hv => List.all_eq_true.1 h3 v hv⟩
theorem node_eqs {n : DNode} (h : nodeB n = true) : ∀ e, e ∈ n.eqs → eqB e = true := fun e he => List.all_eq_true.1 ((node_iff n).1 h).2.2.2.2.2 e he
theorem hdT_size {n : DNode} (h : nodeB n = true) : (hdT n).size ≤ 600000 := by
  obtain ⟨v1, v2, v3⟩ := node_vars h
  have h0 := (node_iff n).1 h
  have d1 := dls_size n.ins v1 (by omega)
  have d2 := dls_size n.outs v2 (by omega)
  have d4 := name_size _ h0.2.1
  obtain ⟨_, _, z1, z2, z3, z4, z5, z6, z7, z8, z9⟩ := lits_size2
  have z10 : Lop.size = 1 := rfl
  unfold hdT
  simp only [ba_size]
  omega
theorem vrT_size {n : DNode} (h : nodeB n = true) : (vrT n).size ≤ 300000 := by
  obtain ⟨v1, v2, v3⟩ := node_vars h
  have h0 := (node_iff n).1 h
  have d3 := dls_size n.vars v3 (by omega)
  obtain ⟨_, _, z1, z2, z3, z4, z5, z6, z7, z8, z9⟩ := lits_size2
  unfold vrT
  split
  · simp
  · simp only [ba_size]
    omega
theorem eqs_size {n : DNode} (h : nodeB n = true) (k : Nat) (hk : k ≤ n.eqs.length) : (catTo eqT n.eqs k).size ≤ 80000000000 := by
  have h0 := (node_iff n).1 h
  have := catTo_size eqT n.eqs 160000000 (fun e he => eqT_size (node_eqs h e he)) k hk
  omega
theorem ndT_size {n : DNode} (h : nodeB n = true) : (ndT n).size ≤ 100000000000 := by
  have d1 := hdT_size h
  have d2 := vrT_size h
  have d3 := eqs_size h _ (Nat.le_refl _)
  obtain ⟨_, _, z1, z2, z3, z4, z5, z6, z7, z8, z9⟩ := lits_size2
  unfold ndT
  simp only [ba_size]
  omega
theorem prT_size {ns : List DNode} (h : shapeB ns = true) (k : Nat) (hk : k ≤ ns.length) : (catTo ndT ns k).size ≤ 20000000000000 := by
  simp only [shapeB, Bool.and_eq_true, decide_eq_true_iff, List.all_eq_true] at h
  have := catTo_size ndT ns 100000000000 (fun n hn => ndT_size (h.2 n hn)) k hk
  omega

end Go.Proofs.YtmglbkndjnflkaaGreatDoor
namespace Go.Proofs.YtmglbkndjnflkaaGreatDoor
open Go.RowKit
set_option linter.unusedSimpArgs false
set_option linter.unusedVariables false

/-! ### The text of a machine -/
def Wclass : ByteArray := ⟨#[99, 108, 97, 115, 115]⟩
def Win : ByteArray := ⟨#[105, 110]⟩
def Wout : ByteArray := ⟨#[111, 117, 116]⟩
def Wloc : ByteArray := ⟨#[108, 111, 99]⟩
def Wmem : ByteArray := ⟨#[109, 101, 109]⟩
def Wuse : ByteArray := ⟨#[117, 115, 101]⟩
def Wendc : ByteArray := ⟨#[101, 110, 100, 99, 108, 97, 115, 115]⟩
def Wset : ByteArray := ⟨#[115, 101, 116]⟩
def Wsave : ByteArray := ⟨#[115, 97, 118, 101]⟩
def Wcall : ByteArray := ⟨#[99, 97, 108, 108]⟩
def Wif : ByteArray := ⟨#[105, 102]⟩
def Welse : ByteArray := ⟨#[101, 108, 115, 101]⟩
def Wend : ByteArray := ⟨#[101, 110, 100]⟩
def Wcol : ByteArray := ⟨#[58]⟩
def Wcom : ByteArray := ⟨#[44]⟩
def Wint : ByteArray := ⟨#[105, 110, 116]⟩
def Wbool : ByteArray := ⟨#[98, 111, 111, 108]⟩
def Wneg : ByteArray := ⟨#[110, 101, 103]⟩
def Wnot : ByteArray := ⟨#[110, 111, 116]⟩
def Wq : ByteArray := ⟨#[63]⟩
def Wdot : ByteArray := ⟨#[46]⟩
def Wat : ByteArray := ⟨#[64]⟩
def Wnl : ByteArray := ⟨#[10]⟩
def Wsc : ByteArray := ⟨#[32, 44, 32]⟩
def partT (t : DItem) : ByteArray :=
  if t.op = 1 then dcT t.val else if t.op = 2 then flT t.val else if t.op = 3 then Wdot ++ t.name else if t.op = 25 then Wat ++ dcT t.val else if t.op = 4 then Wneg else if t.op = 5 then Wnot else if t.op = 20 then Wq else sgT t.op
def codeP (c : List DItem) : List ByteArray := c.map partT
def codeT (c : List DItem) : ByteArray := jnT Lsp (codeP c)
def argsTo (ags : List (List DItem)) : Nat → List ByteArray
  | 0 => []
  | i + 1 => argsTo ags i ++ (if i = 0 then [] else [Wcom]) ++ codeP (ags.getD i [])
def tyT (t : Int) : ByteArray := if t = 1 then Wint else Wbool
def stmP (s : DStm) : List ByteArray :=
  if s.kind = 1 then [Wset, s.name, Wcol] ++ codeP s.code else if s.kind = 2 then [Wsave, dcT s.at_, Wcol] ++ codeP s.code
  else if s.kind = 3 then [Wcall, dcT s.at_] ++ s.outs ++ [Wcol] ++ argsTo s.args s.args.length else if s.kind = 4 then [Wif, s.name] else if s.kind = 5 then [Welse] else [Wend]
def lnP (ps : List ByteArray) : ByteArray := jnT Lsp ps
def nmAt (ks : List DClass) (g : Int) : ByteArray := match ks[g.toNat]? with | some k => k.name | none => ByteArray.empty
def clsL (ks : List DClass) (k : DClass) : List ByteArray :=
  [lnP [Wclass, k.name]] ++ k.ins.map (fun s => lnP [Win, s.name, tyT s.type]) ++ k.outs.map (fun s => lnP [Wout, s.name, tyT s.type]) ++ k.locs.map (fun x => lnP [Wloc, x])
    ++ k.mems.map (fun v => lnP [Wmem, dcT v]) ++ k.insts.map (fun g => lnP [Wuse, nmAt ks g]) ++ k.body.map (fun s => lnP (stmP s)) ++ [lnP [Wendc]]
def machL (ks : List DClass) : List ByteArray := ks.flatMap (clsL ks)
/-- Lines, each with its end. -/
def txL : List ByteArray → ByteArray
  | [] => ByteArray.empty
  | l :: ls => l ++ (Wnl ++ txL ls)
theorem txL_app (a b : List ByteArray) : txL (a ++ b) = txL a ++ txL b := by
  induction a with
  | nil => rw [List.nil_append, txL, ba_nil']
  | cons x a ih => rw [List.cons_append, txL, txL, ih, ba_assoc, ba_assoc]
theorem txL_one (x : ByteArray) : txL [x] = x ++ Wnl := by rw [txL, txL, ba_nil]
def lsz (ls : List ByteArray) : Nat := (ls.map (fun l => l.size + 1)).sum
theorem lsz_app (a b : List ByteArray) : lsz (a ++ b) = lsz a + lsz b := by simp [lsz]
theorem lsz_cons (x : ByteArray) (b : List ByteArray) : lsz (x :: b) = x.size + 1 + lsz b := by simp [lsz]
theorem txL_size (ls : List ByteArray) : (txL ls).size = lsz ls := by
  induction ls with
  | nil => rfl
  | cons x ls ih =>
    rw [txL, ba_size, ba_size, ih, lsz_cons]
    have : Wnl.size = 1 := rfl
    omega
theorem lsz_len (ls : List ByteArray) : ls.length ≤ lsz ls := by
  induction ls with
  | nil => exact Nat.zero_le _
  | cons x ls ih => rw [lsz_cons, List.length_cons]; omega

/-! ### Joining -/
theorem jnT_snoc (sep : ByteArray) (a : List ByteArray) (x : ByteArray) (h : a ≠ []) : jnT sep (a ++ [x]) = jnT sep a ++ sep ++ x := by
  have hl : 1 ≤ a.length := List.length_pos_iff.2 h
  have h1 := jnT_step sep (a ++ [x]) a.length (by simp) hl
  rw [List.take_left, List.take_of_length_le (by simp)] at h1
  rw [h1]
  simp
theorem jnT_app (sep : ByteArray) (a b : List ByteArray) (ha : a ≠ []) (hb : b ≠ []) : jnT sep (a ++ b) = jnT sep a ++ (sep ++ jnT sep b) := by
  obtain ⟨n, hn⟩ : ∃ n, n = b.length := ⟨_, rfl⟩
  induction n generalizing b with
  | zero => exact absurd (List.eq_nil_of_length_eq_zero hn.symm) hb
  | succ n ih =>
    have hsp := List.dropLast_concat_getLast hb
    by_cases hd : b.dropLast = []
    · rw [← hsp, hd, List.nil_append, jnT_snoc _ _ _ ha, jnT_one, ba_assoc]
    · have h1 := ih b.dropLast hd (by rw [List.length_dropLast]; omega)
      rw [← hsp, ← List.append_assoc, jnT_snoc _ _ _ (by simp [ha]), h1, jnT_snoc _ _ _ hd, ba_assoc, ba_assoc, ba_assoc, ba_assoc]
theorem jnT_cons (sep x : ByteArray) (b : List ByteArray) (hb : b ≠ []) : jnT sep (x :: b) = x ++ (sep ++ jnT sep b) := by
  have h := jnT_app sep [x] b (by simp) hb
  rw [jnT_one] at h
  exact h
theorem jnT_sz (sep : ByteArray) (xs : List ByteArray) (hs : sep.size ≤ 1) : (jnT sep xs).size + 1 ≤ lsz xs + 1 := by
  have h1 := join_len sep xs
  have h2 : (jnT sep xs).size = (Lib.join (xs.map (·.data.toList)) sep.data.toList).length := by simp [jnT, ByteArray.size]
  have h3 : sep.size * xs.length ≤ 1 * xs.length := Nat.mul_le_mul_right _ hs
  have h4 : lsz xs = szs xs + xs.length := by
    clear h1 h2 h3
    induction xs with
    | nil => rfl
    | cons x xs ih => rw [lsz_cons, szs_cons, ih, List.length_cons]; omega
  omega
theorem lnP_sz (ps : List ByteArray) : (lnP ps).size ≤ lsz ps := by
  have := jnT_sz Lsp ps (by decide)
  unfold lnP
  omega

theorem codeP_ne {c : List DItem} (h : c ≠ []) : codeP c ≠ [] := by
  unfold codeP
  simpa using h
theorem argsTo_ne (ags : List (List DItem)) (h : ∀ c, c ∈ ags → c ≠ []) (i : Nat) (h1 : 1 ≤ i) (hi : i ≤ ags.length) : argsTo ags i ≠ [] := by
  cases i with
  | zero => omega
  | succ i =>
    have h2 : ags.getD i [] = ags[i]'(by omega) := by rw [List.getD_eq_getElem?_getD, List.getElem?_eq_getElem (by omega)]; rfl
    rw [argsTo, h2]
    simp only [ne_eq, List.append_eq_nil_iff, not_and]
    intro _
    exact codeP_ne (h _ (List.getElem_mem _))
theorem argsTo_join (ags : List (List DItem)) (h : ∀ c, c ∈ ags → c ≠ []) (i : Nat) (h1 : 1 ≤ i) (hi : i ≤ ags.length) : jnT Lsp (argsTo ags i) = jnT Wsc ((ags.take i).map codeT) := by
  induction i with
  | zero => omega
  | succ i ih =>
    have h2 : ags.getD i [] = ags[i]'(by omega) := by rw [List.getD_eq_getElem?_getD, List.getElem?_eq_getElem (by omega)]; rfl
    have hc := h _ (List.getElem_mem (show i < ags.length by omega))
    by_cases e : i = 0
    · subst e
      rw [argsTo, if_pos rfl, h2, List.take_succ_eq_append_getElem (by omega), List.take_zero, argsTo]
      simp only [List.nil_append, List.map_cons, List.map_nil, jnT_one]
      rfl
    · have hne := argsTo_ne ags h i (by omega) (by omega)
      have hne2 : (ags.take i).map codeT ≠ [] := by
        intro h9
        have h8 := congrArg List.length h9
        rw [List.length_map, List.length_take, List.length_nil] at h8
        omega
      rw [argsTo, if_neg e, h2, List.append_assoc, jnT_app _ _ _ hne (by simp), jnT_app _ _ _ (by simp) (codeP_ne hc), jnT_one, ih (by omega) (by omega),
        List.take_succ_eq_append_getElem (by omega), List.map_append, List.map_cons, List.map_nil, jnT_snoc _ _ _ hne2, ba_assoc]
      have h5 : Wsc = Lsp ++ (Wcom ++ Lsp) := by decide
      rw [h5]
      unfold codeT
      rw [ba_assoc, ba_assoc]
/-- What the specification puts together. -/
theorem line_set (s : DStm) (h : s.kind = 1) (hc : s.code ≠ []) : lnP (stmP s) = Wset ++ (Lsp ++ (s.name ++ (Lsp ++ (Wcol ++ (Lsp ++ codeT s.code))))) := by
  unfold lnP stmP
  rw [if_pos h, List.cons_append, List.cons_append, List.cons_append, List.nil_append, jnT_cons _ _ _ (by simp), jnT_cons _ _ _ (by simp), jnT_cons _ _ _ (codeP_ne hc)]
  rfl
theorem line_save (s : DStm) (h : s.kind = 2) (hc : s.code ≠ []) : lnP (stmP s) = Wsave ++ (Lsp ++ (dcT s.at_ ++ (Lsp ++ (Wcol ++ (Lsp ++ codeT s.code))))) := by
  unfold lnP stmP
  rw [if_neg (by omega), if_pos h, List.cons_append, List.cons_append, List.cons_append, List.nil_append, jnT_cons _ _ _ (by simp), jnT_cons _ _ _ (by simp), jnT_cons _ _ _ (codeP_ne hc)]
  rfl
theorem line_call (s : DStm) (h : s.kind = 3) (ho : s.outs ≠ []) (ha : ∀ c, c ∈ s.args → c ≠ []) : lnP (stmP s) = Wcall ++ (Lsp ++ (dcT s.at_ ++ (Lsp ++ (jnT Lsp s.outs ++ (Lsp ++ (Wcol ++ (if s.args.length = 0 then ByteArray.empty else Lsp ++ jnT Wsc (s.args.map codeT)))))))) := by
  unfold lnP stmP
  have e1 : [Wcall, dcT s.at_] ++ s.outs ++ [Wcol] = Wcall :: dcT s.at_ :: (s.outs ++ [Wcol]) := by simp
  rw [if_neg (by omega), if_neg (by omega), if_pos h, e1]
  by_cases e : s.args.length = 0
  · rw [if_pos e, e, argsTo, List.append_nil, jnT_cons _ _ _ (by simp), jnT_cons _ _ _ (by simp), jnT_snoc _ _ _ ho, ba_nil, ba_assoc]
  · have hne := argsTo_ne s.args ha s.args.length (by omega) (Nat.le_refl _)
    have hj := argsTo_join s.args ha s.args.length (by omega) (Nat.le_refl _)
    rw [List.take_length] at hj
    rw [if_neg e, jnT_app _ _ _ (by simp) hne, hj, jnT_cons _ _ _ (by simp), jnT_cons _ _ _ (by simp), jnT_snoc _ _ _ ho]
    simp only [ba_assoc]
theorem line_if (s : DStm) (h : s.kind = 4) : lnP (stmP s) = Wif ++ (Lsp ++ s.name) := by
  unfold lnP stmP
  rw [if_neg (by omega), if_neg (by omega), if_neg (by omega), if_pos h, jnT_cons _ _ _ (by simp), jnT_one]
theorem line_else (s : DStm) (h : s.kind = 5) : lnP (stmP s) = Welse := by
  unfold lnP stmP
  rw [if_neg (by omega), if_neg (by omega), if_neg (by omega), if_neg (by omega), if_pos h, jnT_one]
theorem line_end (s : DStm) (h : s.kind = 6) : lnP (stmP s) = Wend := by
  unfold lnP stmP
  rw [if_neg (by omega), if_neg (by omega), if_neg (by omega), if_neg (by omega), if_neg (by omega), jnT_one]
theorem line2 (a b : ByteArray) : lnP [a, b] = a ++ (Lsp ++ b) := by
  unfold lnP
  rw [jnT_cons _ _ _ (by simp), jnT_one]
theorem line3 (a b c : ByteArray) : lnP [a, b, c] = a ++ (Lsp ++ (b ++ (Lsp ++ c))) := by
  unfold lnP
  rw [jnT_cons _ _ _ (by simp), jnT_cons _ _ _ (by simp), jnT_one]
theorem line1 (a : ByteArray) : lnP [a] = a := by
  unfold lnP
  rw [jnT_one]

/-! ### How long it is -/
def N32 (x : Int) : Prop := -2147483648 ≤ x ∧ x ≤ 2147483648
theorem dcT_sz (n : Int) (h : N32 n) : (dcT n).size ≤ 11 := by
  unfold N32 at h
  have h1 : n.natAbs < 10000000000 := by omega
  have h2 := dd_len _ h1
  have h3 := dd_len n.toNat (by omega)
  unfold dcT Lib.itoa
  show (List.toArray _).size ≤ 11
  rw [List.size_toArray]
  split
  · simp only [List.length_cons]
    omega
  · omega
structure PtOK (t : DItem) : Prop where
  num : t.op = 1 ∨ t.op = 25 → N32 t.val
  tru : t.op = 2 → t.val = 0 ∨ t.val = 1
theorem partT_sz (t : DItem) (h : PtOK t) : (partT t).size ≤ 12 + t.name.size := by
  unfold partT
  have e1 : Wdot.size = 1 := rfl
  have e2 : Wat.size = 1 := rfl
  have e3 : Wneg.size = 3 := rfl
  have e4 : Wnot.size = 3 := rfl
  have e5 : Wq.size = 1 := rfl
  have e6 := flT_size t.val
  have e7 := sgT_size t.op
  by_cases h1 : t.op = 1
  · rw [if_pos h1]; have := dcT_sz _ (h.num (Or.inl h1)); omega
  rw [if_neg h1]
  by_cases h2 : t.op = 2
  · rw [if_pos h2]; omega
  rw [if_neg h2]
  by_cases h3 : t.op = 3
  · rw [if_pos h3, ba_size]; omega
  rw [if_neg h3]
  by_cases h4 : t.op = 25
  · rw [if_pos h4, ba_size]; have := dcT_sz _ (h.num (Or.inr h4)); omega
  rw [if_neg h4]
  by_cases h5 : t.op = 4
  · rw [if_pos h5]; omega
  rw [if_neg h5]
  by_cases h6 : t.op = 5
  · rw [if_pos h6]; omega
  rw [if_neg h6]
  by_cases h7 : t.op = 20
  · rw [if_pos h7]; omega
  rw [if_neg h7]
  omega
theorem lsz_map {α : Type} (f : α → ByteArray) (g : α → Nat) (c : Nat) (xs : List α) (h : ∀ x, x ∈ xs → (f x).size + 1 ≤ c * (1 + g x)) : lsz (xs.map f) ≤ c * wSum g xs := by
  unfold wSum
  induction xs with
  | nil => simp [lsz]
  | cons x xs ih =>
    have h1 := h x (List.mem_cons_self ..)
    have h2 := ih (fun y hy => h y (List.mem_cons_of_mem _ hy))
    rw [List.map_cons, lsz_cons]
    simp only [List.map_cons, List.sum_cons, List.length_cons]
    rw [show xs.length + 1 + (g x + (xs.map g).sum) = (1 + g x) + (xs.length + (xs.map g).sum) from by omega, Nat.mul_add]
    omega
theorem codeP_sz (c : List DItem) (h : ∀ t, t ∈ c → PtOK t) : lsz (codeP c) ≤ 20 * wSum wItem c := lsz_map _ _ _ _ (fun t ht => by have := partT_sz t (h t ht); unfold wItem; omega)
theorem codeT_sz (c : List DItem) (h : ∀ t, t ∈ c → PtOK t) : (codeT c).size ≤ 20 * wSum wItem c := Nat.le_trans (lnP_sz (codeP c)) (codeP_sz c h)
theorem wSum_take {α : Type} (g : α → Nat) (xs : List α) (i : Nat) (hi : i < xs.length) : wSum g (xs.take (i + 1)) = wSum g (xs.take i) + (1 + g xs[i]) := by
  unfold wSum
  rw [List.take_succ_eq_append_getElem hi, List.length_append, List.map_append, List.sum_append]
  simp only [List.length_cons, List.length_nil, List.map_cons, List.map_nil, List.sum_cons, List.sum_nil]
  omega
theorem wSum_le {α : Type} (g : α → Nat) (xs : List α) (i : Nat) : wSum g (xs.take i) ≤ wSum g xs := by
  have h := List.take_append_drop i xs
  have : wSum g xs = wSum g (xs.take i) + wSum g (xs.drop i) := by
    conv => lhs; rw [← h]
    unfold wSum
    simp only [List.length_append, List.map_append, List.sum_append]
    omega
  omega
theorem argsTo_sz (ags : List (List DItem)) (h : ∀ c, c ∈ ags → ∀ t, t ∈ c → PtOK t) (i : Nat) (hi : i ≤ ags.length) : lsz (argsTo ags i) ≤ 20 * wSum (wSum wItem) (ags.take i) := by
  induction i with
  | zero => simp [argsTo, lsz, wSum]
  | succ i ih =>
    have h2 : ags.getD i [] = ags[i]'(by omega) := by rw [List.getD_eq_getElem?_getD, List.getElem?_eq_getElem (by omega)]; rfl
    have h3 := ih (by omega)
    have h4 := codeP_sz (ags[i]'(by omega)) (h _ (List.getElem_mem _))
    have h5 : lsz (if i = 0 then [] else [Wcom]) ≤ 2 := by split <;> decide
    rw [argsTo, h2, lsz_app, lsz_app, wSum_take _ _ _ (by omega), Nat.mul_add]
    omega
structure StOK (s : DStm) : Prop where
  at_ : N32 s.at_
  code : ∀ t, t ∈ s.code → PtOK t
  args : ∀ c, c ∈ s.args → ∀ t, t ∈ c → PtOK t
  cne : s.kind = 1 ∨ s.kind = 2 → s.code ≠ []
  one : s.kind = 3 → s.outs ≠ [] ∧ ∀ c, c ∈ s.args → c ≠ []
  kind : 1 ≤ s.kind ∧ s.kind ≤ 6
theorem strs_sz (xs : List ByteArray) : lsz xs ≤ 20 * wSum wStr xs := by
  have h := lsz_map id wStr 20 xs (fun x hx => by unfold wStr; simp only [id]; omega)
  rwa [List.map_id] at h
theorem stmP_sz (s : DStm) (h : StOK s) : lsz (stmP s) + 1 ≤ 64 * (1 + wStm s) := by
  have h1 := codeP_sz s.code h.code
  have h2 := argsTo_sz s.args h.args s.args.length (Nat.le_refl _)
  rw [List.take_length] at h2
  have h3 := strs_sz s.outs
  have h4 := dcT_sz _ h.at_
  have z : Wset.size ≤ 8 ∧ Wsave.size ≤ 8 ∧ Wcall.size ≤ 8 ∧ Wif.size ≤ 8 ∧ Welse.size ≤ 8 ∧ Wend.size ≤ 8 ∧ Wcol.size ≤ 8 := by decide
  obtain ⟨z1, z2, z3, z4, z5, z6, z7⟩ := z
  have z0 : lsz [] = 0 := rfl
  unfold stmP wStm
  split
  · simp only [lsz_app, lsz_cons, z0]; omega
  split
  · simp only [lsz_app, lsz_cons, z0]; omega
  split
  · simp only [lsz_app, lsz_cons, z0]; omega
  split
  · simp only [lsz_app, lsz_cons, z0]; omega
  split
  · simp only [lsz_app, lsz_cons, z0]; omega
  · simp only [lsz_app, lsz_cons, z0]; omega
structure ClOK (ks : List DClass) (k : DClass) : Prop where
  body : ∀ s, s ∈ k.body → StOK s
  mems : ∀ v, v ∈ k.mems → N32 v
  ins : ∀ g, g ∈ k.insts → 0 ≤ g ∧ g < (ks.length : Int)
  few : k.mems.length ≤ 1000 ∧ k.insts.length ≤ 1000
  nm : ∀ g, g ∈ k.insts → (nmAt ks g).size ≤ 40
  ty : (∀ s, s ∈ k.ins → s.type = 1 ∨ s.type = 2) ∧ ∀ s, s ∈ k.outs → s.type = 1 ∨ s.type = 2
theorem tyT_sz (t : Int) : (tyT t).size ≤ 4 := by unfold tyT; split <;> decide
theorem cls_sz (ks : List DClass) (k : DClass) (h : ClOK ks k) : lsz (clsL ks k) ≤ 128 * (1 + wClass k) := by
  have z : Wclass.size = 5 ∧ Win.size = 2 ∧ Wout.size = 3 ∧ Wloc.size = 3 ∧ Wmem.size = 3 ∧ Wuse.size = 3 ∧ Wendc.size = 8 ∧ Lsp.size = 1 := by decide
  obtain ⟨z1, z2, z3, z4, z5, z6, z7, z8⟩ := z
  have z0 : lsz [] = 0 := rfl
  have h1 := lsz_map (fun s : DSlot => lnP [Win, s.name, tyT s.type]) wSlot 64 k.ins (fun s hs => by have := tyT_sz s.type; simp only [line3, ba_size, wSlot]; omega)
  have h2 := lsz_map (fun s : DSlot => lnP [Wout, s.name, tyT s.type]) wSlot 64 k.outs (fun s hs => by have := tyT_sz s.type; simp only [line3, ba_size, wSlot]; omega)
  have h3 := lsz_map (fun x : ByteArray => lnP [Wloc, x]) wStr 64 k.locs (fun s hs => by simp only [line2, ba_size, wStr]; omega)
  have h4 := lsz_map (fun v : Int => lnP [Wmem, dcT v]) (fun _ => 0) 64 k.mems (fun v hv => by have := dcT_sz v (h.mems v hv); simp only [line2, ba_size]; omega)
  have h5 := lsz_map (fun g : Int => lnP [Wuse, nmAt ks g]) (fun _ => 0) 64 k.insts (fun g hg => by have := h.nm g hg; simp only [line2, ba_size]; omega)
  have h6 := lsz_map (fun s : DStm => lnP (stmP s)) wStm 64 k.body (fun s hs => by have := stmP_sz s (h.body s hs); have := lnP_sz (stmP s); omega)
  have e : ∀ l : List Int, wSum (fun _ : Int => 0) l = l.length := by
    intro l
    unfold wSum
    have h9 : ∀ l : List Int, (l.map (fun _ : Int => 0)).sum = 0 := by
      intro l
      induction l with
      | nil => rfl
      | cons x l ih => simpa using ih
    rw [h9]
    omega
  rw [e] at h4 h5
  have e0 : (lnP [Wclass, k.name]).size = 6 + k.name.size := by
    rw [line2]
    simp only [ba_size]
    omega
  have e9 : (lnP [Wendc]).size = 8 := by
    rw [line1]
    exact z7
  unfold clsL wClass
  simp only [lsz_app, lsz_cons, z0, e0, e9]
  omega
theorem mach_sz (ks0 ks : List DClass) (h : ∀ k, k ∈ ks → ClOK ks0 k) : lsz (ks.flatMap (clsL ks0)) ≤ 128 * wSum wClass ks := by
  unfold wSum
  induction ks with
  | nil => simp [lsz]
  | cons k ks ih =>
    have h1 := cls_sz ks0 k (h k (List.mem_cons_self ..))
    have h2 := ih (fun y hy => h y (List.mem_cons_of_mem _ hy))
    rw [List.flatMap_cons, lsz_app]
    simp only [List.map_cons, List.sum_cons, List.length_cons]
    omega

end Go.Proofs.YtmglbkndjnflkaaGreatDoor
