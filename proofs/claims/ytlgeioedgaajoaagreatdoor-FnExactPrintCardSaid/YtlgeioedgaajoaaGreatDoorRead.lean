import Derived.Test.YtlgeioedgaajoaaGreatDoorData
import Derived.Test.YtlgeioedgaajoaaGreatDoorProg
import Derived.ProofKit
import Derived.ChangeOld
import Derived.SizedLaws
import Derived.Deep.Slices
namespace Go.Proofs.YtlgeioedgaajoaaGreatDoor
open Go.RowKit Go.ChangeShapes Go.WideShapes
set_option linter.unusedSimpArgs false
set_option linter.unusedVariables false

section
variable {H : Type} {enc : TypeId × Value → H} {w : World} {spare : Nat → Bool} {held : Bool}

/-- All that the datum d weighs is within the reach. -/
def WOK (t : TypeId) (d : DataW H) : Prop := ∀ n, n ∈ d.weights Tryz.prog t → n ≤ 140737488355328

theorem weightsAll_mem {e : TypeId} {l : List (DataW H)} {d : DataW H} (hd : d ∈ l) {n : Nat} (hn : n ∈ d.weights Tryz.prog e) : n ∈ DataW.weightsAll Tryz.prog e l := by
  induction l with
  | nil => cases hd
  | cons x xs ih =>
    simp only [DataW.weightsAll, List.mem_append]
    rcases List.mem_cons.1 hd with rfl | hd
    · exact Or.inl hn
    · exact Or.inr (ih hd)

theorem rd_slice {α : Type} {sz byt : Nat} {R : Nat → World → List Value → α → Prop} {t e : TypeId} (ht : Tryz.prog.underlying t = some (.slice e)) (hsz : Tryz.prog.cellsOf e = sz) (hby : Tryz.prog.bytesOf e = byt) (h0 : 0 < sz) (h1 : 0 < byt)
    (hel : ∀ n cs d pl, DataW.trod enc Tryz.prog w 0 spare held n e cs = some (d, pl) → WOK e d → ∃ x : α, R 0 w cs x)
    {fuel : Nat} {cs : List Value} {y : DataW H × List MemPlace} (h : DataW.trod enc Tryz.prog w 0 spare held fuel t cs = some y) (hw : WOK t y.1) : ∃ v xs, cs = [v] ∧ SlAt sz byt R 0 w v xs := by
  rcases Deep.open_slice ht h with ⟨rfl, _⟩ | ⟨a, len, cap, m, n, D, Pl, rfl, hb, hl, hm, hmm, rfl, hcl⟩
  · exact ⟨_, [], rfl, none, 0, rfl, ⟨by simp [Len], Nat.le_refl _⟩, by simp [Len], fun i hi => absurd hi (Nat.not_lt_zero _)⟩
  · have hlm : len ≤ m := by rw [hmm]; split <;> omega
    unfold WOK at hw
    simp only [DataW.weights, ht, hby] at hw
    have hbytes : len * byt ≤ 140737488355328 := by
      have := hw _ (List.mem_cons_self ..)
      simp only [List.length_map, List.length_range] at this
      exact Nat.le_trans (Nat.mul_le_mul_right _ (Nat.le_add_right _ _)) this
    have hlen : len ≤ 140737488355328 := Nat.le_trans (Nat.le_mul_of_pos_right _ h1) hbytes
    have he : ∀ i, i < len → ∃ x : α, ∃ cs', w.cells? 0 (a.add (i * sz)) sz = some cs' ∧ R 0 w cs' x := fun i hi => by
      obtain ⟨cs', hc1, hc2⟩ := hcl i (by omega)
      rw [hsz] at hc1
      obtain ⟨x, hx⟩ := hel n cs' (D i) (Pl i) hc2 (fun k hk => hw k (List.mem_cons_of_mem _ (List.mem_append_left _ (weightsAll_mem (List.mem_map.2 ⟨i, by simpa using hi, rfl⟩) hk))))
      exact ⟨x, cs', hc1, hx⟩
    refine ⟨_, List.ofFn (fun i : Fin len => Classical.choose (he i.1 i.2)), rfl, some a, cap, by rw [List.length_ofFn], ⟨by unfold Len; rw [List.length_ofFn]; exact hbytes, by rw [List.length_ofFn]; exact hl⟩, by unfold Len; rw [List.length_ofFn]; exact hlen, fun i hi => ?_⟩
    have hi' : i < len := by simpa using hi
    obtain ⟨cs', hc, hR⟩ := Classical.choose_spec (he i hi')
    obtain ⟨_, hcl', hcell⟩ := World.cells?_some hc
    have hblk := World.cells?_block hc h0
    obtain ⟨b, o, sp⟩ := a
    have hspot : sp = none := by
      obtain ⟨_, cs0, hc0, _⟩ := he 0 (by omega)
      obtain ⟨_, hl0, hcell0⟩ := World.cells?_some hc0
      have c0 := hcell0 0 h0
      rw [List.getElem?_eq_getElem (by omega)] at c0
      have := World.cell?_spot c0
      simpa [Addr.add] using this
    subst hspot
    rw [Addr.add_lit] at hblk
    refine ⟨b, o, cs', rfl, Nat.zero_le _, hblk, hcl', fun j hj => ?_, ?_⟩
    · have cj := hcell j (by omega)
      rw [Addr.add_lit, Addr.add_lit, List.getElem?_eq_getElem hj] at cj
      exact cj
    · rw [List.getElem_ofFn]
      exact hR

theorem list1 {α : Type} {l : List α} (h : l.length = 1) : ∃ a, l = [a] := by
  match l, h with
  | [a], _ => exact ⟨a, rfl⟩
theorem list2 {α : Type} {l : List α} (h : l.length = 2) : ∃ a b, l = [a, b] := by
  match l, h with
  | [a, b], _ => exact ⟨a, b, rfl⟩
theorem list3 {α : Type} {l : List α} (h : l.length = 3) : ∃ a b c, l = [a, b, c] := by
  match l, h with
  | [a, b, c], _ => exact ⟨a, b, c, rfl⟩
theorem list4 {α : Type} {l : List α} (h : l.length = 4) : ∃ a b c d, l = [a, b, c, d] := by
  match l, h with
  | [a, b, c, d], _ => exact ⟨a, b, c, d, rfl⟩
theorem list5 {α : Type} {l : List α} (h : l.length = 5) : ∃ a b c d e, l = [a, b, c, d, e] := by
  match l, h with
  | [a, b, c, d, e], _ => exact ⟨a, b, c, d, e, rfl⟩

theorem wf_I64 {n : Int} (h : (Lit.int .i64 n).wf = true) : I64 n := by
  simp [Lit.wf, IntKind.min, IntKind.max, IntKind.signed, IntKind.bits] at h
  exact ⟨by omega, by omega⟩

theorem rd_str {fuel : Nat} {cs : List Value} {y : DataW H × List MemPlace} (h : DataW.trod enc Tryz.prog w 0 spare held fuel 9 cs = some y) (hw : WOK 9 y.1) : ∃ s, cs = [.string s] ∧ Len s.size := by
  obtain ⟨s, rfl, rfl, _⟩ := DataW.trod_string Tryz.underlying9 h
  refine ⟨s, rfl, ?_⟩
  have := hw s.data.toList.length (by simp [DataW.weights])
  rw [Array.length_toList] at this
  exact this

theorem cells_string : Tryz.prog.cellsOf 9 = 1 := by kernel_rfl
theorem cells_bool : Tryz.prog.cellsOf 4 = 1 := by kernel_rfl
theorem cells_int : Tryz.prog.cellsOf 3 = 1 := by kernel_rfl

theorem cells_SCond : Tryz.prog.cellsOf 100 = 1 := by kernel_rfl

theorem cells_SItem : Tryz.prog.cellsOf 104 = 1 := by kernel_rfl

theorem cells_SStr : Tryz.prog.cellsOf 40 = 1 := by kernel_rfl

theorem cells_SItems : Tryz.prog.cellsOf 105 = 1 := by kernel_rfl

theorem cells_SVar : Tryz.prog.cellsOf 56 = 1 := by kernel_rfl

theorem cells_SEq : Tryz.prog.cellsOf 57 = 1 := by kernel_rfl

theorem cells_SNode : Tryz.prog.cellsOf 22 = 1 := by kernel_rfl

theorem cells_Cond : Tryz.prog.cellsOf 146 = 2 := by kernel_rfl

theorem cells_Item : Tryz.prog.cellsOf 148 = 3 := by kernel_rfl

theorem cells_Var : Tryz.prog.cellsOf 102 = 3 := by kernel_rfl

theorem cells_Eq : Tryz.prog.cellsOf 107 = 4 := by kernel_rfl

theorem cells_Node : Tryz.prog.cellsOf 59 = 5 := by kernel_rfl

theorem cells_Prog : Tryz.prog.cellsOf 24 = 1 := by kernel_rfl

theorem bytes_Cond : Tryz.prog.bytesOf 146 = 24 := by kernel_rfl

theorem bytes_Item : Tryz.prog.bytesOf 148 = 32 := by kernel_rfl

theorem bytes_string : Tryz.prog.bytesOf 9 = 16 := by kernel_rfl

theorem bytes_SItem : Tryz.prog.bytesOf 104 = 24 := by kernel_rfl

theorem bytes_Var : Tryz.prog.bytesOf 102 = 48 := by kernel_rfl

theorem bytes_Eq : Tryz.prog.bytesOf 107 = 88 := by kernel_rfl

theorem bytes_Node : Tryz.prog.bytesOf 59 = 112 := by kernel_rfl

theorem rd_Cond (n : Nat) (cs : List Value) (d : DataW H) (pl : List MemPlace) (h : DataW.trod enc Tryz.prog w 0 spare held n 146 cs = some (d, pl)) (hw : WOK 146 d) : ∃ x : DCond, RCond 0 w cs x := by
  obtain ⟨ys, m, _, hx, hl, hyl, hf⟩ := DataW.trod_struct Tryz.underlying146 h
  rw [cells_Cond] at hl
  obtain ⟨c0, c1, rfl⟩ := list2 hl
  obtain ⟨y0, y1, rfl⟩ := list2 (show ys.length = 2 from hyl)
  have f0 : DataW.trod enc Tryz.prog w 0 spare held m 9 (([c0, c1].drop 0).take (Tryz.prog.cellsOf 9)) = some y0 := hf 0 _ rfl
  rw [cells_string] at f0
  replace f0 : DataW.trod enc Tryz.prog w 0 spare held m 9 [c0] = some y0 := f0
  have f1 : DataW.trod enc Tryz.prog w 0 spare held m 4 (([c0, c1].drop 1).take (Tryz.prog.cellsOf 4)) = some y1 := hf 1 _ rfl
  rw [cells_bool] at f1
  replace f1 : DataW.trod enc Tryz.prog w 0 spare held m 4 [c1] = some y1 := f1
  simp only [Prod.mk.injEq] at hx
  obtain ⟨rfl, rfl⟩ := hx
  unfold WOK at hw
  simp only [List.map_cons, List.map_nil, DataW.weights, Tryz.underlying146, DataW.weightsEach, List.append_nil, List.mem_append] at hw
  have w0 : WOK 9 y0.1 := fun k hk => hw k (Or.inl hk)
  have w1 : WOK 4 y1.1 := fun k hk => hw k (Or.inr (hk))
  obtain ⟨s0, hc0, hs0⟩ := rd_str f0 w0
  obtain rfl : c0 = .string s0 := by simpa using hc0
  obtain ⟨b1, hc1, _⟩ := DataW.trod_bool Tryz.underlying4 f1
  obtain rfl : c1 = .bool b1 := by simpa using hc1
  exact ⟨⟨s0, b1⟩, rfl, hs0⟩

theorem rd_Item (n : Nat) (cs : List Value) (d : DataW H) (pl : List MemPlace) (h : DataW.trod enc Tryz.prog w 0 spare held n 148 cs = some (d, pl)) (hw : WOK 148 d) : ∃ x : DItem, RItem 0 w cs x := by
  obtain ⟨ys, m, _, hx, hl, hyl, hf⟩ := DataW.trod_struct Tryz.underlying148 h
  rw [cells_Item] at hl
  obtain ⟨c0, c1, c2, rfl⟩ := list3 hl
  obtain ⟨y0, y1, y2, rfl⟩ := list3 (show ys.length = 3 from hyl)
  have f0 : DataW.trod enc Tryz.prog w 0 spare held m 3 (([c0, c1, c2].drop 0).take (Tryz.prog.cellsOf 3)) = some y0 := hf 0 _ rfl
  rw [cells_int] at f0
  replace f0 : DataW.trod enc Tryz.prog w 0 spare held m 3 [c0] = some y0 := f0
  have f1 : DataW.trod enc Tryz.prog w 0 spare held m 3 (([c0, c1, c2].drop 1).take (Tryz.prog.cellsOf 3)) = some y1 := hf 1 _ rfl
  rw [cells_int] at f1
  replace f1 : DataW.trod enc Tryz.prog w 0 spare held m 3 [c1] = some y1 := f1
  have f2 : DataW.trod enc Tryz.prog w 0 spare held m 9 (([c0, c1, c2].drop 2).take (Tryz.prog.cellsOf 9)) = some y2 := hf 2 _ rfl
  rw [cells_string] at f2
  replace f2 : DataW.trod enc Tryz.prog w 0 spare held m 9 [c2] = some y2 := f2
  simp only [Prod.mk.injEq] at hx
  obtain ⟨rfl, rfl⟩ := hx
  unfold WOK at hw
  simp only [List.map_cons, List.map_nil, DataW.weights, Tryz.underlying148, DataW.weightsEach, List.append_nil, List.mem_append] at hw
  have w0 : WOK 3 y0.1 := fun k hk => hw k (Or.inl hk)
  have w1 : WOK 3 y1.1 := fun k hk => hw k (Or.inr (Or.inl hk))
  have w2 : WOK 9 y2.1 := fun k hk => hw k (Or.inr (Or.inr (hk)))
  obtain ⟨n0, hc0, _, hs0⟩ := DataW.trod_int Tryz.underlying3 f0
  obtain rfl : c0 = .int .i64 n0 := by simpa using hc0
  obtain ⟨n1, hc1, _, hs1⟩ := DataW.trod_int Tryz.underlying3 f1
  obtain rfl : c1 = .int .i64 n1 := by simpa using hc1
  obtain ⟨s2, hc2, hs2⟩ := rd_str f2 w2
  obtain rfl : c2 = .string s2 := by simpa using hc2
  exact ⟨⟨n0, n1, s2⟩, rfl, hs2, wf_I64 hs0, wf_I64 hs1⟩

theorem rd_Var (n : Nat) (cs : List Value) (d : DataW H) (pl : List MemPlace) (h : DataW.trod enc Tryz.prog w 0 spare held n 102 cs = some (d, pl)) (hw : WOK 102 d) : ∃ x : DVar, RVar 0 w cs x := by
  obtain ⟨ys, m, _, hx, hl, hyl, hf⟩ := DataW.trod_struct Tryz.underlying102 h
  rw [cells_Var] at hl
  obtain ⟨c0, c1, c2, rfl⟩ := list3 hl
  obtain ⟨y0, y1, y2, rfl⟩ := list3 (show ys.length = 3 from hyl)
  have f0 : DataW.trod enc Tryz.prog w 0 spare held m 9 (([c0, c1, c2].drop 0).take (Tryz.prog.cellsOf 9)) = some y0 := hf 0 _ rfl
  rw [cells_string] at f0
  replace f0 : DataW.trod enc Tryz.prog w 0 spare held m 9 [c0] = some y0 := f0
  have f1 : DataW.trod enc Tryz.prog w 0 spare held m 3 (([c0, c1, c2].drop 1).take (Tryz.prog.cellsOf 3)) = some y1 := hf 1 _ rfl
  rw [cells_int] at f1
  replace f1 : DataW.trod enc Tryz.prog w 0 spare held m 3 [c1] = some y1 := f1
  have f2 : DataW.trod enc Tryz.prog w 0 spare held m 100 (([c0, c1, c2].drop 2).take (Tryz.prog.cellsOf 100)) = some y2 := hf 2 _ rfl
  rw [cells_SCond] at f2
  replace f2 : DataW.trod enc Tryz.prog w 0 spare held m 100 [c2] = some y2 := f2
  simp only [Prod.mk.injEq] at hx
  obtain ⟨rfl, rfl⟩ := hx
  unfold WOK at hw
  simp only [List.map_cons, List.map_nil, DataW.weights, Tryz.underlying102, DataW.weightsEach, List.append_nil, List.mem_append] at hw
  have w0 : WOK 9 y0.1 := fun k hk => hw k (Or.inl hk)
  have w1 : WOK 3 y1.1 := fun k hk => hw k (Or.inr (Or.inl hk))
  have w2 : WOK 100 y2.1 := fun k hk => hw k (Or.inr (Or.inr (hk)))
  obtain ⟨s0, hc0, hs0⟩ := rd_str f0 w0
  obtain rfl : c0 = .string s0 := by simpa using hc0
  obtain ⟨n1, hc1, _, hs1⟩ := DataW.trod_int Tryz.underlying3 f1
  obtain rfl : c1 = .int .i64 n1 := by simpa using hc1
  obtain ⟨v2, l2, hv2, hs2⟩ := rd_slice (R := RCond) Tryz.underlying100 cells_Cond bytes_Cond (by decide) (by decide) (fun n cs d pl h hw => rd_Cond n cs d pl h hw) f2 w2
  obtain rfl : c2 = v2 := by simpa using hv2
  exact ⟨⟨s0, n1, l2⟩, c2, rfl, hs0, wf_I64 hs1, hs2⟩

theorem rd_StrEl (n : Nat) (cs : List Value) (d : DataW H) (pl : List MemPlace) (h : DataW.trod enc Tryz.prog w 0 spare held n 9 cs = some (d, pl)) (hw : WOK 9 d) : ∃ x : ByteArray, RStr 0 w cs x := by
  obtain ⟨s, rfl, hs⟩ := rd_str h hw
  exact ⟨s, rfl, hs⟩
theorem rd_Items (n : Nat) (cs : List Value) (d : DataW H) (pl : List MemPlace) (h : DataW.trod enc Tryz.prog w 0 spare held n 104 cs = some (d, pl)) (hw : WOK 104 d) : ∃ x : List DItem, RItems 0 w cs x := by
  obtain ⟨v, l, rfl, hs⟩ := rd_slice (R := RItem) Tryz.underlying104 cells_Item bytes_Item (by decide) (by decide) (fun n cs d pl h hw => rd_Item n cs d pl h hw) h hw
  exact ⟨l, v, rfl, hs⟩

theorem rd_Eq (n : Nat) (cs : List Value) (d : DataW H) (pl : List MemPlace) (h : DataW.trod enc Tryz.prog w 0 spare held n 107 cs = some (d, pl)) (hw : WOK 107 d) : ∃ x : DEq, REq 0 w cs x := by
  obtain ⟨ys, m, _, hx, hl, hyl, hf⟩ := DataW.trod_struct Tryz.underlying107 h
  rw [cells_Eq] at hl
  obtain ⟨c0, c1, c2, c3, rfl⟩ := list4 hl
  obtain ⟨y0, y1, y2, y3, rfl⟩ := list4 (show ys.length = 4 from hyl)
  have f0 : DataW.trod enc Tryz.prog w 0 spare held m 40 (([c0, c1, c2, c3].drop 0).take (Tryz.prog.cellsOf 40)) = some y0 := hf 0 _ rfl
  rw [cells_SStr] at f0
  replace f0 : DataW.trod enc Tryz.prog w 0 spare held m 40 [c0] = some y0 := f0
  have f1 : DataW.trod enc Tryz.prog w 0 spare held m 104 (([c0, c1, c2, c3].drop 1).take (Tryz.prog.cellsOf 104)) = some y1 := hf 1 _ rfl
  rw [cells_SItem] at f1
  replace f1 : DataW.trod enc Tryz.prog w 0 spare held m 104 [c1] = some y1 := f1
  have f2 : DataW.trod enc Tryz.prog w 0 spare held m 9 (([c0, c1, c2, c3].drop 2).take (Tryz.prog.cellsOf 9)) = some y2 := hf 2 _ rfl
  rw [cells_string] at f2
  replace f2 : DataW.trod enc Tryz.prog w 0 spare held m 9 [c2] = some y2 := f2
  have f3 : DataW.trod enc Tryz.prog w 0 spare held m 105 (([c0, c1, c2, c3].drop 3).take (Tryz.prog.cellsOf 105)) = some y3 := hf 3 _ rfl
  rw [cells_SItems] at f3
  replace f3 : DataW.trod enc Tryz.prog w 0 spare held m 105 [c3] = some y3 := f3
  simp only [Prod.mk.injEq] at hx
  obtain ⟨rfl, rfl⟩ := hx
  unfold WOK at hw
  simp only [List.map_cons, List.map_nil, DataW.weights, Tryz.underlying107, DataW.weightsEach, List.append_nil, List.mem_append] at hw
  have w0 : WOK 40 y0.1 := fun k hk => hw k (Or.inl hk)
  have w1 : WOK 104 y1.1 := fun k hk => hw k (Or.inr (Or.inl hk))
  have w2 : WOK 9 y2.1 := fun k hk => hw k (Or.inr (Or.inr (Or.inl hk)))
  have w3 : WOK 105 y3.1 := fun k hk => hw k (Or.inr (Or.inr (Or.inr (hk))))
  obtain ⟨v0, l0, hv0, hs0⟩ := rd_slice (R := RStr) Tryz.underlying40 cells_string bytes_string (by decide) (by decide) (fun n cs d pl h hw => rd_StrEl n cs d pl h hw) f0 w0
  obtain rfl : c0 = v0 := by simpa using hv0
  obtain ⟨v1, l1, hv1, hs1⟩ := rd_slice (R := RItem) Tryz.underlying104 cells_Item bytes_Item (by decide) (by decide) (fun n cs d pl h hw => rd_Item n cs d pl h hw) f1 w1
  obtain rfl : c1 = v1 := by simpa using hv1
  obtain ⟨s2, hc2, hs2⟩ := rd_str f2 w2
  obtain rfl : c2 = .string s2 := by simpa using hc2
  obtain ⟨v3, l3, hv3, hs3⟩ := rd_slice (R := RItems) Tryz.underlying105 cells_SItem bytes_SItem (by decide) (by decide) (fun n cs d pl h hw => rd_Items n cs d pl h hw) f3 w3
  obtain rfl : c3 = v3 := by simpa using hv3
  exact ⟨⟨l0, l1, s2, l3⟩, c0, c1, c3, rfl, hs2, hs0, hs1, hs3⟩

theorem rd_Node (n : Nat) (cs : List Value) (d : DataW H) (pl : List MemPlace) (h : DataW.trod enc Tryz.prog w 0 spare held n 59 cs = some (d, pl)) (hw : WOK 59 d) : ∃ x : DNode, RNode 0 w cs x := by
  obtain ⟨ys, m, _, hx, hl, hyl, hf⟩ := DataW.trod_struct Tryz.underlying59 h
  rw [cells_Node] at hl
  obtain ⟨c0, c1, c2, c3, c4, rfl⟩ := list5 hl
  obtain ⟨y0, y1, y2, y3, y4, rfl⟩ := list5 (show ys.length = 5 from hyl)
  have f0 : DataW.trod enc Tryz.prog w 0 spare held m 9 (([c0, c1, c2, c3, c4].drop 0).take (Tryz.prog.cellsOf 9)) = some y0 := hf 0 _ rfl
  rw [cells_string] at f0
  replace f0 : DataW.trod enc Tryz.prog w 0 spare held m 9 [c0] = some y0 := f0
  have f1 : DataW.trod enc Tryz.prog w 0 spare held m 56 (([c0, c1, c2, c3, c4].drop 1).take (Tryz.prog.cellsOf 56)) = some y1 := hf 1 _ rfl
  rw [cells_SVar] at f1
  replace f1 : DataW.trod enc Tryz.prog w 0 spare held m 56 [c1] = some y1 := f1
  have f2 : DataW.trod enc Tryz.prog w 0 spare held m 56 (([c0, c1, c2, c3, c4].drop 2).take (Tryz.prog.cellsOf 56)) = some y2 := hf 2 _ rfl
  rw [cells_SVar] at f2
  replace f2 : DataW.trod enc Tryz.prog w 0 spare held m 56 [c2] = some y2 := f2
  have f3 : DataW.trod enc Tryz.prog w 0 spare held m 56 (([c0, c1, c2, c3, c4].drop 3).take (Tryz.prog.cellsOf 56)) = some y3 := hf 3 _ rfl
  rw [cells_SVar] at f3
  replace f3 : DataW.trod enc Tryz.prog w 0 spare held m 56 [c3] = some y3 := f3
  have f4 : DataW.trod enc Tryz.prog w 0 spare held m 57 (([c0, c1, c2, c3, c4].drop 4).take (Tryz.prog.cellsOf 57)) = some y4 := hf 4 _ rfl
  rw [cells_SEq] at f4
  replace f4 : DataW.trod enc Tryz.prog w 0 spare held m 57 [c4] = some y4 := f4
  simp only [Prod.mk.injEq] at hx
  obtain ⟨rfl, rfl⟩ := hx
  unfold WOK at hw
  simp only [List.map_cons, List.map_nil, DataW.weights, Tryz.underlying59, DataW.weightsEach, List.append_nil, List.mem_append] at hw
  have w0 : WOK 9 y0.1 := fun k hk => hw k (Or.inl hk)
  have w1 : WOK 56 y1.1 := fun k hk => hw k (Or.inr (Or.inl hk))
  have w2 : WOK 56 y2.1 := fun k hk => hw k (Or.inr (Or.inr (Or.inl hk)))
  have w3 : WOK 56 y3.1 := fun k hk => hw k (Or.inr (Or.inr (Or.inr (Or.inl hk))))
  have w4 : WOK 57 y4.1 := fun k hk => hw k (Or.inr (Or.inr (Or.inr (Or.inr (hk)))))
  obtain ⟨s0, hc0, hs0⟩ := rd_str f0 w0
  obtain rfl : c0 = .string s0 := by simpa using hc0
  obtain ⟨v1, l1, hv1, hs1⟩ := rd_slice (R := RVar) Tryz.underlying56 cells_Var bytes_Var (by decide) (by decide) (fun n cs d pl h hw => rd_Var n cs d pl h hw) f1 w1
  obtain rfl : c1 = v1 := by simpa using hv1
  obtain ⟨v2, l2, hv2, hs2⟩ := rd_slice (R := RVar) Tryz.underlying56 cells_Var bytes_Var (by decide) (by decide) (fun n cs d pl h hw => rd_Var n cs d pl h hw) f2 w2
  obtain rfl : c2 = v2 := by simpa using hv2
  obtain ⟨v3, l3, hv3, hs3⟩ := rd_slice (R := RVar) Tryz.underlying56 cells_Var bytes_Var (by decide) (by decide) (fun n cs d pl h hw => rd_Var n cs d pl h hw) f3 w3
  obtain rfl : c3 = v3 := by simpa using hv3
  obtain ⟨v4, l4, hv4, hs4⟩ := rd_slice (R := REq) Tryz.underlying57 cells_Eq bytes_Eq (by decide) (by decide) (fun n cs d pl h hw => rd_Eq n cs d pl h hw) f4 w4
  obtain rfl : c4 = v4 := by simpa using hv4
  exact ⟨⟨s0, l1, l2, l3, l4⟩, c1, c2, c3, c4, rfl, hs0, hs1, hs2, hs3, hs4⟩

end

end Go.Proofs.YtlgeioedgaajoaaGreatDoor
