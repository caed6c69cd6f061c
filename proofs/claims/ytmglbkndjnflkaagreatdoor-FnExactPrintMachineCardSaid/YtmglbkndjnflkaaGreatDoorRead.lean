import Derived.Test.YtmglbkndjnflkaaGreatDoorData
import Derived.Test.YtmglbkndjnflkaaGreatDoorProg
import Derived.ProofKit
import Derived.ChangeOld
import Derived.SizedLaws
import Derived.Deep.Slices
import Derived.Test.YtmglbkndjnflkaaGreatDoorMData
import Derived.Test.YtmglbkndjnflkaaGreatDoorRows
import Derived.Test.YtmglbkndjnflkaaGreatDoorPI1
import Derived.Lib.LaidTab
import Derived.MakeChecks
import Derived.OpenShut
namespace Go.Proofs.YtmglbkndjnflkaaGreatDoor
open Go.RowKit Go.ChangeShapes Go.WideShapes
set_option linter.unusedSimpArgs false
set_option linter.unusedVariables false

section
variable {H : Type} {enc : TypeId × Value → H} {w : World} {spare : Nat → Bool} {held : Bool}

/-- All that the datum d weighs is within the reach. -/
def WOK (t : TypeId) (d : DataW H) : Prop := ∀ n, n ∈ d.weights Tryz.prog t → n ≤ 140737488355328

theorem weightsAll_mem {e : TypeId} {l : List (DataW H)} {d : DataW H} (hd : d ∈ l) {n : Nat} (hn : n ∈ d.weights Tryz.prog e) : n ∈ DataW.weightsAll Tryz.prog e l := by
  induction l with
  | nil => cases hd
  | cons x xs ih =>
    simp only [DataW.weightsAll, List.mem_append]
    rcases List.mem_cons.1 hd with rfl | hd
    · exact Or.inl hn
    · exact Or.inr (ih hd)

theorem rd_slice {α : Type} {sz byt : Nat} {R : Nat → World → List Value → α → Prop} {t e : TypeId} (ht : Tryz.prog.underlying t = some (.slice e)) (hsz : Tryz.prog.cellsOf e = sz) (hby : Tryz.prog.bytesOf e = byt) (h0 : 0 < sz) (h1 : 0 < byt)
    (hel : ∀ n cs d pl, DataW.trod enc Tryz.prog w 0 spare held n e cs = some (d, pl) → WOK e d → ∃ x : α, R 0 w cs x)
    {fuel : Nat} {cs : List Value} {y : DataW H × List MemPlace} (h : DataW.trod enc Tryz.prog w 0 spare held fuel t cs = some y) (hw : WOK t y.1) : ∃ v xs, cs = [v] ∧ SlAt sz byt R 0 w v xs := by
  rcases Deep.open_slice ht h with ⟨rfl, _⟩ | ⟨a, len, cap, m, n, D, Pl, rfl, hb, hl, hm, hmm, rfl, hcl⟩
  · exact ⟨_, [], rfl, none, 0, rfl, ⟨by simp [Len], Nat.le_refl _⟩, by simp [Len], fun i hi => absurd hi (Nat.not_lt_zero _)⟩
  · have hlm : len ≤ m := by rw [hmm]; split <;> omega
    unfold WOK at hw
    simp only [DataW.weights, ht, hby] at hw
    have hbytes : len * byt ≤ 140737488355328 := by
      have := hw _ (List.mem_cons_self ..)
      simp only [List.length_map, List.length_range] at this
      exact Nat.le_trans (Nat.mul_le_mul_right _ (Nat.le_add_right _ _)) this
    have hlen : len ≤ 140737488355328 := Nat.le_trans (Nat.le_mul_of_pos_right _ h1) hbytes
    have he : ∀ i, i < len → ∃ x : α, ∃ cs', w.cells? 0 (a.add (i * sz)) sz = some cs' ∧ R 0 w cs' x := fun i hi => by
      obtain ⟨cs', hc1, hc2⟩ := hcl i (by omega)
      rw [hsz] at hc1
      obtain ⟨x, hx⟩ := hel n cs' (D i) (Pl i) hc2 (fun k hk => hw k (List.mem_cons_of_mem _ (List.mem_append_left _ (weightsAll_mem (List.mem_map.2 ⟨i, by simpa using hi, rfl⟩) hk))))
      exact ⟨x, cs', hc1, hx⟩
    refine ⟨_, List.ofFn (fun i : Fin len => Classical.choose (he i.1 i.2)), rfl, some a, cap, by rw [List.length_ofFn], ⟨by unfold Len; rw [List.length_ofFn]; exact hbytes, by rw [List.length_ofFn]; exact hl⟩, by unfold Len; rw [List.length_ofFn]; exact hlen, fun i hi => ?_⟩
    have hi' : i < len := by simpa using hi
    obtain ⟨cs', hc, hR⟩ := Classical.choose_spec (he i hi')
    obtain ⟨_, hcl', hcell⟩ := World.cells?_some hc
    have hblk := World.cells?_block hc h0
    obtain ⟨b, o, sp⟩ := a
    have hspot : sp = none := by
      obtain ⟨_, cs0, hc0, _⟩ := he 0 (by omega)
      obtain ⟨_, hl0, hcell0⟩ := World.cells?_some hc0
      have c0 := hcell0 0 h0
      rw [List.getElem?_eq_getElem (by omega)] at c0
      have := World.cell?_spot c0
      simpa [Addr.add] using this
    subst hspot
    rw [Addr.add_lit] at hblk
    refine ⟨b, o, cs', rfl, Nat.zero_le _, hblk, hcl', fun j hj => ?_, ?_⟩
    · have cj := hcell j (by omega)
      rw [Addr.add_lit, Addr.add_lit, List.getElem?_eq_getElem hj] at cj
      exact cj
    · rw [List.getElem_ofFn]
      exact hR

theorem list1 {α : Type} {l : List α} (h : l.length = 1) : ∃ a, l = [a] := by
  match l, h with
  | [a], _ => exact ⟨a, rfl⟩
theorem list2 {α : Type} {l : List α} (h : l.length = 2) : ∃ a b, l = [a, b] := by
  match l, h with
  | [a, b], _ => exact ⟨a, b, rfl⟩
theorem list3 {α : Type} {l : List α} (h : l.length = 3) : ∃ a b c, l = [a, b, c] := by
  match l, h with
  | [a, b, c], _ => exact ⟨a, b, c, rfl⟩
theorem list4 {α : Type} {l : List α} (h : l.length = 4) : ∃ a b c d, l = [a, b, c, d] := by
  match l, h with
  | [a, b, c, d], _ => exact ⟨a, b, c, d, rfl⟩
theorem list5 {α : Type} {l : List α} (h : l.length = 5) : ∃ a b c d e, l = [a, b, c, d, e] := by
  match l, h with
  | [a, b, c, d, e], _ => exact ⟨a, b, c, d, e, rfl⟩

theorem wf_I64 {n : Int} (h : (Lit.int .i64 n).wf = true) : I64 n := by
  simp [Lit.wf, IntKind.min, IntKind.max, IntKind.signed, IntKind.bits] at h
  exact ⟨by omega, by omega⟩

theorem rd_str {fuel : Nat} {cs : List Value} {y : DataW H × List MemPlace} (h : DataW.trod enc Tryz.prog w 0 spare held fuel 9 cs = some y) (hw : WOK 9 y.1) : ∃ s, cs = [.string s] ∧ Len s.size := by
  obtain ⟨s, rfl, rfl, _⟩ := DataW.trod_string Tryz.underlying9 h
  refine ⟨s, rfl, ?_⟩
  have := hw s.data.toList.length (by simp [DataW.weights])
  rw [Array.length_toList] at this
  exact this

theorem cells_string : Tryz.prog.cellsOf 9 = 1 := by kernel_rfl
theorem cells_bool : Tryz.prog.cellsOf 4 = 1 := by kernel_rfl
theorem cells_int : Tryz.prog.cellsOf 3 = 1 := by kernel_rfl

theorem cells_SItem : Tryz.prog.cellsOf 117 = 1 := by kernel_rfl

theorem cells_SStr : Tryz.prog.cellsOf 35 = 1 := by kernel_rfl

theorem cells_SItems : Tryz.prog.cellsOf 118 = 1 := by kernel_rfl

theorem cells_Item : Tryz.prog.cellsOf 165 = 3 := by kernel_rfl

theorem bytes_Item : Tryz.prog.bytesOf 165 = 32 := by kernel_rfl

theorem bytes_string : Tryz.prog.bytesOf 9 = 16 := by kernel_rfl

theorem bytes_SItem : Tryz.prog.bytesOf 117 = 24 := by kernel_rfl

theorem rd_Item (n : Nat) (cs : List Value) (d : DataW H) (pl : List MemPlace) (h : DataW.trod enc Tryz.prog w 0 spare held n 165 cs = some (d, pl)) (hw : WOK 165 d) : ∃ x : DItem, RItem 0 w cs x := by
  obtain ⟨ys, m, _, hx, hl, hyl, hf⟩ := DataW.trod_struct Tryz.underlying165 h
  rw [cells_Item] at hl
  obtain ⟨c0, c1, c2, rfl⟩ := list3 hl
  obtain ⟨y0, y1, y2, rfl⟩ := list3 (show ys.length = 3 from hyl)
  have f0 : DataW.trod enc Tryz.prog w 0 spare held m 3 (([c0, c1, c2].drop 0).take (Tryz.prog.cellsOf 3)) = some y0 := hf 0 _ rfl
  rw [cells_int] at f0
  replace f0 : DataW.trod enc Tryz.prog w 0 spare held m 3 [c0] = some y0 := f0
  have f1 : DataW.trod enc Tryz.prog w 0 spare held m 3 (([c0, c1, c2].drop 1).take (Tryz.prog.cellsOf 3)) = some y1 := hf 1 _ rfl
  rw [cells_int] at f1
  replace f1 : DataW.trod enc Tryz.prog w 0 spare held m 3 [c1] = some y1 := f1
  have f2 : DataW.trod enc Tryz.prog w 0 spare held m 9 (([c0, c1, c2].drop 2).take (Tryz.prog.cellsOf 9)) = some y2 := hf 2 _ rfl
  rw [cells_string] at f2
  replace f2 : DataW.trod enc Tryz.prog w 0 spare held m 9 [c2] = some y2 := f2
  simp only [Prod.mk.injEq] at hx
  obtain ⟨rfl, rfl⟩ := hx
  unfold WOK at hw
  simp only [List.map_cons, List.map_nil, DataW.weights, Tryz.underlying165, DataW.weightsEach, List.append_nil, List.mem_append] at hw
  have w0 : WOK 3 y0.1 := fun k hk => hw k (Or.inl hk)
  have w1 : WOK 3 y1.1 := fun k hk => hw k (Or.inr (Or.inl hk))
  have w2 : WOK 9 y2.1 := fun k hk => hw k (Or.inr (Or.inr (hk)))
  obtain ⟨n0, hc0, _, hs0⟩ := DataW.trod_int Tryz.underlying3 f0
  obtain rfl : c0 = .int .i64 n0 := by simpa using hc0
  obtain ⟨n1, hc1, _, hs1⟩ := DataW.trod_int Tryz.underlying3 f1
  obtain rfl : c1 = .int .i64 n1 := by simpa using hc1
  obtain ⟨s2, hc2, hs2⟩ := rd_str f2 w2
  obtain rfl : c2 = .string s2 := by simpa using hc2
  exact ⟨⟨n0, n1, s2⟩, rfl, hs2, wf_I64 hs0, wf_I64 hs1⟩

theorem rd_StrEl (n : Nat) (cs : List Value) (d : DataW H) (pl : List MemPlace) (h : DataW.trod enc Tryz.prog w 0 spare held n 9 cs = some (d, pl)) (hw : WOK 9 d) : ∃ x : ByteArray, RStr 0 w cs x := by
  obtain ⟨s, rfl, hs⟩ := rd_str h hw
  exact ⟨s, rfl, hs⟩
theorem rd_Items (n : Nat) (cs : List Value) (d : DataW H) (pl : List MemPlace) (h : DataW.trod enc Tryz.prog w 0 spare held n 117 cs = some (d, pl)) (hw : WOK 117 d) : ∃ x : List DItem, RItems 0 w cs x := by
  obtain ⟨v, l, rfl, hs⟩ := rd_slice (R := RItem) Tryz.underlying117 cells_Item bytes_Item (by decide) (by decide) (fun n cs d pl h hw => rd_Item n cs d pl h hw) h hw
  exact ⟨l, v, rfl, hs⟩

end

end Go.Proofs.YtmglbkndjnflkaaGreatDoor
namespace Go.Proofs.YtmglbkndjnflkaaGreatDoor
open Go.RowKit Go.ChangeShapes Go.WideShapes
set_option linter.unusedSimpArgs false
set_option linter.unusedVariables false

section
variable {H : Type} {enc : TypeId × Value → H} {w : World} {spare : Nat → Bool} {held : Bool}

theorem list6 {α : Type} {l : List α} (h : l.length = 6) : ∃ a b c d e f, l = [a, b, c, d, e, f] := by
  match l, h with
  | [a, b, c, d, e, f], _ => exact ⟨a, b, c, d, e, f, rfl⟩
theorem list7 {α : Type} {l : List α} (h : l.length = 7) : ∃ a b c d e f g, l = [a, b, c, d, e, f, g] := by
  match l, h with
  | [a, b, c, d, e, f, g], _ => exact ⟨a, b, c, d, e, f, g, rfl⟩

theorem cells_Slot : Tryz.prog.cellsOf 115 = 2 := by kernel_rfl
theorem cells_Stm : Tryz.prog.cellsOf 120 = 6 := by kernel_rfl
theorem cells_Class : Tryz.prog.cellsOf 61 = 7 := by kernel_rfl
theorem cells_SSlot : Tryz.prog.cellsOf 58 = 1 := by kernel_rfl
theorem cells_SStm : Tryz.prog.cellsOf 59 = 1 := by kernel_rfl
theorem cells_SClass : Tryz.prog.cellsOf 22 = 1 := by kernel_rfl
theorem cells_SInt : Tryz.prog.cellsOf 37 = 1 := by kernel_rfl
theorem cells_Mach : Tryz.prog.cellsOf 24 = 1 := by kernel_rfl
theorem bytes_Slot : Tryz.prog.bytesOf 115 = 24 := by kernel_rfl
theorem bytes_Stm : Tryz.prog.bytesOf 120 = 104 := by kernel_rfl
theorem bytes_Class : Tryz.prog.bytesOf 61 = 160 := by kernel_rfl
theorem bytes_int : Tryz.prog.bytesOf 3 = 8 := by kernel_rfl

theorem rd_IntEl (n : Nat) (cs : List Value) (d : DataW H) (pl : List MemPlace) (h : DataW.trod enc Tryz.prog w 0 spare held n 3 cs = some (d, pl)) (hw : WOK 3 d) : ∃ x : Int, RInt 0 w cs x := by
  obtain ⟨n, rfl, _, hs⟩ := DataW.trod_int Tryz.underlying3 h
  exact ⟨n, rfl, wf_I64 hs⟩

theorem rd_Slot (n : Nat) (cs : List Value) (d : DataW H) (pl : List MemPlace) (h : DataW.trod enc Tryz.prog w 0 spare held n 115 cs = some (d, pl)) (hw : WOK 115 d) : ∃ x : DSlot, RSlot 0 w cs x := by
  obtain ⟨ys, m, _, hx, hl, hyl, hf⟩ := DataW.trod_struct Tryz.underlying115 h
  rw [cells_Slot] at hl
  obtain ⟨c0, c1, rfl⟩ := list2 hl
  obtain ⟨y0, y1, rfl⟩ := list2 (show ys.length = 2 from hyl)
  have f0 : DataW.trod enc Tryz.prog w 0 spare held m 9 (([c0, c1].drop 0).take (Tryz.prog.cellsOf 9)) = some y0 := hf 0 _ rfl
  rw [cells_string] at f0
  replace f0 : DataW.trod enc Tryz.prog w 0 spare held m 9 [c0] = some y0 := f0
  have f1 : DataW.trod enc Tryz.prog w 0 spare held m 3 (([c0, c1].drop 1).take (Tryz.prog.cellsOf 3)) = some y1 := hf 1 _ rfl
  rw [cells_int] at f1
  replace f1 : DataW.trod enc Tryz.prog w 0 spare held m 3 [c1] = some y1 := f1
  simp only [Prod.mk.injEq] at hx
  obtain ⟨rfl, rfl⟩ := hx
  unfold WOK at hw
  simp only [List.map_cons, List.map_nil, DataW.weights, Tryz.underlying115, DataW.weightsEach, List.append_nil, List.mem_append] at hw
  have w0 : WOK 9 y0.1 := fun k hk => hw k (Or.inl hk)
  have w1 : WOK 3 y1.1 := fun k hk => hw k (Or.inr (hk))
  obtain ⟨s0, hc0, hs0⟩ := rd_str f0 w0
  obtain rfl : c0 = .string s0 := by simpa using hc0
  obtain ⟨n1, hc1, _, hs1⟩ := DataW.trod_int Tryz.underlying3 f1
  obtain rfl : c1 = .int .i64 n1 := by simpa using hc1
  exact ⟨⟨s0, n1⟩, rfl, hs0, wf_I64 hs1⟩

theorem rd_Stm (n : Nat) (cs : List Value) (d : DataW H) (pl : List MemPlace) (h : DataW.trod enc Tryz.prog w 0 spare held n 120 cs = some (d, pl)) (hw : WOK 120 d) : ∃ x : DStm, RStm 0 w cs x := by
  obtain ⟨ys, m, _, hx, hl, hyl, hf⟩ := DataW.trod_struct Tryz.underlying120 h
  rw [cells_Stm] at hl
  obtain ⟨c0, c1, c2, c3, c4, c5, rfl⟩ := list6 hl
  obtain ⟨y0, y1, y2, y3, y4, y5, rfl⟩ := list6 (show ys.length = 6 from hyl)
  have f0 : DataW.trod enc Tryz.prog w 0 spare held m 3 (([c0, c1, c2, c3, c4, c5].drop 0).take (Tryz.prog.cellsOf 3)) = some y0 := hf 0 _ rfl
  rw [cells_int] at f0
  replace f0 : DataW.trod enc Tryz.prog w 0 spare held m 3 [c0] = some y0 := f0
  have f1 : DataW.trod enc Tryz.prog w 0 spare held m 9 (([c0, c1, c2, c3, c4, c5].drop 1).take (Tryz.prog.cellsOf 9)) = some y1 := hf 1 _ rfl
  rw [cells_string] at f1
  replace f1 : DataW.trod enc Tryz.prog w 0 spare held m 9 [c1] = some y1 := f1
  have f2 : DataW.trod enc Tryz.prog w 0 spare held m 3 (([c0, c1, c2, c3, c4, c5].drop 2).take (Tryz.prog.cellsOf 3)) = some y2 := hf 2 _ rfl
  rw [cells_int] at f2
  replace f2 : DataW.trod enc Tryz.prog w 0 spare held m 3 [c2] = some y2 := f2
  have f3 : DataW.trod enc Tryz.prog w 0 spare held m 35 (([c0, c1, c2, c3, c4, c5].drop 3).take (Tryz.prog.cellsOf 35)) = some y3 := hf 3 _ rfl
  rw [cells_SStr] at f3
  replace f3 : DataW.trod enc Tryz.prog w 0 spare held m 35 [c3] = some y3 := f3
  have f4 : DataW.trod enc Tryz.prog w 0 spare held m 117 (([c0, c1, c2, c3, c4, c5].drop 4).take (Tryz.prog.cellsOf 117)) = some y4 := hf 4 _ rfl
  rw [cells_SItem] at f4
  replace f4 : DataW.trod enc Tryz.prog w 0 spare held m 117 [c4] = some y4 := f4
  have f5 : DataW.trod enc Tryz.prog w 0 spare held m 118 (([c0, c1, c2, c3, c4, c5].drop 5).take (Tryz.prog.cellsOf 118)) = some y5 := hf 5 _ rfl
  rw [cells_SItems] at f5
  replace f5 : DataW.trod enc Tryz.prog w 0 spare held m 118 [c5] = some y5 := f5
  simp only [Prod.mk.injEq] at hx
  obtain ⟨rfl, rfl⟩ := hx
  unfold WOK at hw
  simp only [List.map_cons, List.map_nil, DataW.weights, Tryz.underlying120, DataW.weightsEach, List.append_nil, List.mem_append] at hw
  have w0 : WOK 3 y0.1 := fun k hk => hw k (Or.inl hk)
  have w1 : WOK 9 y1.1 := fun k hk => hw k (Or.inr (Or.inl hk))
  have w2 : WOK 3 y2.1 := fun k hk => hw k (Or.inr (Or.inr (Or.inl hk)))
  have w3 : WOK 35 y3.1 := fun k hk => hw k (Or.inr (Or.inr (Or.inr (Or.inl hk))))
  have w4 : WOK 117 y4.1 := fun k hk => hw k (Or.inr (Or.inr (Or.inr (Or.inr (Or.inl hk)))))
  have w5 : WOK 118 y5.1 := fun k hk => hw k (Or.inr (Or.inr (Or.inr (Or.inr (Or.inr (hk))))))
  obtain ⟨n0, hc0, _, hs0⟩ := DataW.trod_int Tryz.underlying3 f0
  obtain rfl : c0 = .int .i64 n0 := by simpa using hc0
  obtain ⟨s1, hc1, hs1⟩ := rd_str f1 w1
  obtain rfl : c1 = .string s1 := by simpa using hc1
  obtain ⟨n2, hc2, _, hs2⟩ := DataW.trod_int Tryz.underlying3 f2
  obtain rfl : c2 = .int .i64 n2 := by simpa using hc2
  obtain ⟨v3, l3, hv3, hs3⟩ := rd_slice (R := RStr) Tryz.underlying35 cells_string bytes_string (by decide) (by decide) (fun n cs d pl h hw => rd_StrEl n cs d pl h hw) f3 w3
  obtain rfl : c3 = v3 := by simpa using hv3
  obtain ⟨v4, l4, hv4, hs4⟩ := rd_slice (R := RItem) Tryz.underlying117 cells_Item bytes_Item (by decide) (by decide) (fun n cs d pl h hw => rd_Item n cs d pl h hw) f4 w4
  obtain rfl : c4 = v4 := by simpa using hv4
  obtain ⟨v5, l5, hv5, hs5⟩ := rd_slice (R := RItems) Tryz.underlying118 cells_SItem bytes_SItem (by decide) (by decide) (fun n cs d pl h hw => rd_Items n cs d pl h hw) f5 w5
  obtain rfl : c5 = v5 := by simpa using hv5
  exact ⟨⟨n0, s1, n2, l3, l4, l5⟩, c3, c4, c5, rfl, hs1, wf_I64 hs0, wf_I64 hs2, hs3, hs4, hs5⟩

theorem rd_Class (n : Nat) (cs : List Value) (d : DataW H) (pl : List MemPlace) (h : DataW.trod enc Tryz.prog w 0 spare held n 61 cs = some (d, pl)) (hw : WOK 61 d) : ∃ x : DClass, RClass 0 w cs x := by
  obtain ⟨ys, m, _, hx, hl, hyl, hf⟩ := DataW.trod_struct Tryz.underlying61 h
  rw [cells_Class] at hl
  obtain ⟨c0, c1, c2, c3, c4, c5, c6, rfl⟩ := list7 hl
  obtain ⟨y0, y1, y2, y3, y4, y5, y6, rfl⟩ := list7 (show ys.length = 7 from hyl)
  have f0 : DataW.trod enc Tryz.prog w 0 spare held m 9 (([c0, c1, c2, c3, c4, c5, c6].drop 0).take (Tryz.prog.cellsOf 9)) = some y0 := hf 0 _ rfl
  rw [cells_string] at f0
  replace f0 : DataW.trod enc Tryz.prog w 0 spare held m 9 [c0] = some y0 := f0
  have f1 : DataW.trod enc Tryz.prog w 0 spare held m 58 (([c0, c1, c2, c3, c4, c5, c6].drop 1).take (Tryz.prog.cellsOf 58)) = some y1 := hf 1 _ rfl
  rw [cells_SSlot] at f1
  replace f1 : DataW.trod enc Tryz.prog w 0 spare held m 58 [c1] = some y1 := f1
  have f2 : DataW.trod enc Tryz.prog w 0 spare held m 58 (([c0, c1, c2, c3, c4, c5, c6].drop 2).take (Tryz.prog.cellsOf 58)) = some y2 := hf 2 _ rfl
  rw [cells_SSlot] at f2
  replace f2 : DataW.trod enc Tryz.prog w 0 spare held m 58 [c2] = some y2 := f2
  have f3 : DataW.trod enc Tryz.prog w 0 spare held m 35 (([c0, c1, c2, c3, c4, c5, c6].drop 3).take (Tryz.prog.cellsOf 35)) = some y3 := hf 3 _ rfl
  rw [cells_SStr] at f3
  replace f3 : DataW.trod enc Tryz.prog w 0 spare held m 35 [c3] = some y3 := f3
  have f4 : DataW.trod enc Tryz.prog w 0 spare held m 37 (([c0, c1, c2, c3, c4, c5, c6].drop 4).take (Tryz.prog.cellsOf 37)) = some y4 := hf 4 _ rfl
  rw [cells_SInt] at f4
  replace f4 : DataW.trod enc Tryz.prog w 0 spare held m 37 [c4] = some y4 := f4
  have f5 : DataW.trod enc Tryz.prog w 0 spare held m 37 (([c0, c1, c2, c3, c4, c5, c6].drop 5).take (Tryz.prog.cellsOf 37)) = some y5 := hf 5 _ rfl
  rw [cells_SInt] at f5
  replace f5 : DataW.trod enc Tryz.prog w 0 spare held m 37 [c5] = some y5 := f5
  have f6 : DataW.trod enc Tryz.prog w 0 spare held m 59 (([c0, c1, c2, c3, c4, c5, c6].drop 6).take (Tryz.prog.cellsOf 59)) = some y6 := hf 6 _ rfl
  rw [cells_SStm] at f6
  replace f6 : DataW.trod enc Tryz.prog w 0 spare held m 59 [c6] = some y6 := f6
  simp only [Prod.mk.injEq] at hx
  obtain ⟨rfl, rfl⟩ := hx
  unfold WOK at hw
  simp only [List.map_cons, List.map_nil, DataW.weights, Tryz.underlying61, DataW.weightsEach, List.append_nil, List.mem_append] at hw
  have w0 : WOK 9 y0.1 := fun k hk => hw k (Or.inl hk)
  have w1 : WOK 58 y1.1 := fun k hk => hw k (Or.inr (Or.inl hk))
  have w2 : WOK 58 y2.1 := fun k hk => hw k (Or.inr (Or.inr (Or.inl hk)))
  have w3 : WOK 35 y3.1 := fun k hk => hw k (Or.inr (Or.inr (Or.inr (Or.inl hk))))
  have w4 : WOK 37 y4.1 := fun k hk => hw k (Or.inr (Or.inr (Or.inr (Or.inr (Or.inl hk)))))
  have w5 : WOK 37 y5.1 := fun k hk => hw k (Or.inr (Or.inr (Or.inr (Or.inr (Or.inr (Or.inl hk))))))
  have w6 : WOK 59 y6.1 := fun k hk => hw k (Or.inr (Or.inr (Or.inr (Or.inr (Or.inr (Or.inr (hk)))))))
  obtain ⟨s0, hc0, hs0⟩ := rd_str f0 w0
  obtain rfl : c0 = .string s0 := by simpa using hc0
  obtain ⟨v1, l1, hv1, hs1⟩ := rd_slice (R := RSlot) Tryz.underlying58 cells_Slot bytes_Slot (by decide) (by decide) (fun n cs d pl h hw => rd_Slot n cs d pl h hw) f1 w1
  obtain rfl : c1 = v1 := by simpa using hv1
  obtain ⟨v2, l2, hv2, hs2⟩ := rd_slice (R := RSlot) Tryz.underlying58 cells_Slot bytes_Slot (by decide) (by decide) (fun n cs d pl h hw => rd_Slot n cs d pl h hw) f2 w2
  obtain rfl : c2 = v2 := by simpa using hv2
  obtain ⟨v3, l3, hv3, hs3⟩ := rd_slice (R := RStr) Tryz.underlying35 cells_string bytes_string (by decide) (by decide) (fun n cs d pl h hw => rd_StrEl n cs d pl h hw) f3 w3
  obtain rfl : c3 = v3 := by simpa using hv3
  obtain ⟨v4, l4, hv4, hs4⟩ := rd_slice (R := RInt) Tryz.underlying37 cells_int bytes_int (by decide) (by decide) (fun n cs d pl h hw => rd_IntEl n cs d pl h hw) f4 w4
  obtain rfl : c4 = v4 := by simpa using hv4
  obtain ⟨v5, l5, hv5, hs5⟩ := rd_slice (R := RInt) Tryz.underlying37 cells_int bytes_int (by decide) (by decide) (fun n cs d pl h hw => rd_IntEl n cs d pl h hw) f5 w5
  obtain rfl : c5 = v5 := by simpa using hv5
  obtain ⟨v6, l6, hv6, hs6⟩ := rd_slice (R := RStm) Tryz.underlying59 cells_Stm bytes_Stm (by decide) (by decide) (fun n cs d pl h hw => rd_Stm n cs d pl h hw) f6 w6
  obtain rfl : c6 = v6 := by simpa using hv6
  exact ⟨⟨s0, l1, l2, l3, l4, l5, l6⟩, c1, c2, c3, c4, c5, c6, rfl, hs0, hs1, hs2, hs3, hs4, hs5, hs6⟩
end

end Go.Proofs.YtmglbkndjnflkaaGreatDoor
namespace Go.Proofs.YtmglbkndjnflkaaGreatDoor
open Go.ChangeShapes Go.WideShapes Go.RowKit
set_option linter.unusedSimpArgs false
set_option linter.unusedVariables false

/-! ### What the laid variables give -/
abbrev laid4 : List (String × DataW Unit) := Rows.fnExactPrintMachineRow.laid
theorem gOps : Tryz.prog.globalNamed "loop.example/s0043/impl.operators" = some 1 := by kernel_rfl
theorem gB32 : Tryz.prog.globalNamed "math/bits.deBruijn32tab" = some 2 := by kernel_rfl
theorem tOps : (Tryz.prog.globals[1]?).map (·.type) = some 186 := by kernel_rfl
theorem tPow : (Tryz.prog.globals[0]?).map (·.type) = some 179 := by kernel_rfl
theorem cOp : Tryz.prog.cellsOf 185 = 3 := by kernel_rfl
theorem cStr : Tryz.prog.cellsOf 9 = 1 := by kernel_rfl
theorem cInt : Tryz.prog.cellsOf 3 = 1 := by kernel_rfl
theorem cOps : Tryz.prog.cellsOf 186 = 42 := by kernel_rfl
theorem cU64 : Tryz.prog.cellsOf 157 = 1 := by kernel_rfl
theorem cPow : Tryz.prog.cellsOf 179 = 20 := by kernel_rfl

theorem lst3 {α : Type} {l : List α} (h : l.length = 3) : ∃ a b c, l = [a, b, c] := by
  match l, h with
  | [a, b, c], _ => exact ⟨a, b, c, rfl⟩

def opD (x : ByteArray × Int × Int) : DataW Unit := .agg [.lit (.string x.1.data.toList), .lit (.int .i64 x.2.1), .lit (.int .i64 x.2.2)]

theorem op_elem {enc : TypeId × Value → Unit} {w : World} {base : Nat} {sp : Nat → Bool} {held : Bool} {fuel : Nat} {cs : List Value} {y : DataW Unit × List MemPlace} (x : ByteArray × Int × Int)
    (h : DataW.trod enc Tryz.prog w base sp held fuel 185 cs = some y) (hy : y.1 = opD x) : cs = opCs x := by
  obtain ⟨xs, n, _, hx, hl, hyl, hfl⟩ := DataW.trod_struct Tryz.underlying185 h
  rw [cOp] at hl
  obtain ⟨c0, c1, c2, rfl⟩ := lst3 hl
  obtain ⟨x0, x1, x2, rfl⟩ := lst3 (show xs.length = 3 from hyl)
  have f0 : DataW.trod enc Tryz.prog w base sp held n 9 (([c0, c1, c2].drop 0).take (Tryz.prog.cellsOf 9)) = some x0 := hfl 0 _ rfl
  have f1 : DataW.trod enc Tryz.prog w base sp held n 3 (([c0, c1, c2].drop 1).take (Tryz.prog.cellsOf 3)) = some x1 := hfl 1 _ rfl
  have f2 : DataW.trod enc Tryz.prog w base sp held n 3 (([c0, c1, c2].drop 2).take (Tryz.prog.cellsOf 3)) = some x2 := hfl 2 _ rfl
  rw [cStr] at f0
  rw [cInt] at f1 f2
  replace f0 : DataW.trod enc Tryz.prog w base sp held n 9 [c0] = some x0 := f0
  replace f1 : DataW.trod enc Tryz.prog w base sp held n 3 [c1] = some x1 := f1
  replace f2 : DataW.trod enc Tryz.prog w base sp held n 3 [c2] = some x2 := f2
  obtain ⟨s, e0, g0, _⟩ := DataW.trod_string Tryz.underlying9 f0
  obtain ⟨k1, e1, g1, _⟩ := DataW.trod_int Tryz.underlying3 f1
  obtain ⟨k2, e2, g2, _⟩ := DataW.trod_int Tryz.underlying3 f2
  subst g0 g1 g2
  subst hx
  simp only [opD, List.map_cons, List.map_nil, DataW.agg.injEq, List.cons.injEq, DataW.lit.injEq, Lit.string.injEq, Lit.int.injEq, true_and, and_true] at hy
  obtain ⟨q0, q1, q2⟩ := hy
  have es : s = x.1 := ByteArray.ext (Array.ext' q0)
  subst es q1 q2
  have e0' : c0 = _ := (List.cons.inj e0).1
  have e1' : c1 = _ := (List.cons.inj e1).1
  have e2' : c2 = _ := (List.cons.inj e2).1
  rw [e0', e1', e2']
  rfl

theorem chunks {α β : Type} (f : α → List β) (hf : ∀ x, (f x).length = 3) : ∀ (tab : List α) (l : List β), l.length = tab.length * 3 → (∀ i (h : i < tab.length), (l.drop (i * 3)).take 3 = f tab[i]) → l = tab.flatMap f
  | [], l, hl, _ => by simpa using hl
  | x :: tab, l, hl, h => by
    have h0 := h 0 (by simp)
    simp only [Nat.zero_mul, List.drop_zero, List.getElem_cons_zero] at h0
    have ih := chunks f hf tab (l.drop 3) (by simp at hl ⊢; omega) (fun i hi => by
      have := h (i + 1) (by simpa using hi)
      rw [List.drop_drop]
      simpa [Nat.add_mul, Nat.add_comm] using this)
    rw [List.flatMap_cons, ← h0, ← ih, List.take_append_drop]

theorem ops_data : (Rows.laid_loop_example_s0043_impl_operators : DataW Unit) = .agg (opTab.map opD) := rfl
theorem pow_data : (Rows.laid_internal_strconv_uint64pow10 : DataW Unit) = Lib.tabData .u64 Lib.pow10Tab := rfl

theorem ops_cells {enc : TypeId × Value → Unit} {w : World} {base : Nat} {sp : Nat → Bool} {held : Bool} {fuel : Nat} {cs : List Value} {p : List MemPlace}
    (h : DataW.trod enc Tryz.prog w base sp held fuel 186 cs = some (.agg (opTab.map opD), p)) : cs = opCells := by
  obtain ⟨xs, m, _, hx, hl, hn, hel⟩ := DataW.trod_array Tryz.underlying186 h
  rw [cOps] at hl
  rw [cOp] at hel
  simp only [Prod.mk.injEq, DataW.agg.injEq] at hx
  refine chunks opCs (fun _ => rfl) opTab cs hl (fun i hi => ?_)
  have hi' : i < 14 := hi
  have h1 := hel i hi'
  have hix : i < xs.length := by omega
  rw [List.getElem?_eq_getElem hix] at h1
  refine op_elem opTab[i] h1 ?_
  have h2 := congrArg (fun l => l[i]?) hx.1
  simp only [List.getElem?_map, List.getElem?_eq_getElem hix, List.getElem?_eq_getElem hi, Option.map_some, Option.some.injEq] at h2
  exact h2.symm

theorem env_of_laid {W : World} (h : laidMetH Tryz.prog laid4 W) : Env W := by
  rw [MakeChecks.laidMetH_plain _ _ _ (by kernel_rfl)] at h
  obtain ⟨ps, ⟨g0, t0, cs0, f0, p0, q0, hg0, ht0, hv0, hd0, ⟨g1, t1, cs1, f1, p1, q1, hg1, ht1, hv1, hd1, ⟨g2, t2, cs2, f2, p2, q2, hg2, ht2, hv2, hd2, ⟨g3, t3, cs3, f3, p3, q3, hg3, ht3, hv3, hd3, _, _⟩, _⟩, _⟩, _⟩, _, _⟩ := h
  obtain rfl := Option.some.inj (gPow.symm.trans hg2)
  obtain rfl := Option.some.inj (tPow.symm.trans ht2)
  obtain rfl := Option.some.inj (gOps.symm.trans hg3)
  obtain rfl := Option.some.inj (tOps.symm.trans ht3)
  rw [ops_data] at hd3
  rw [pow_data] at hd2
  have e3 := ops_cells hd3
  refine ⟨fun j v hv => ?_, ?_, ?_⟩
  · have := World.var?_cell hg3 hv3 j
    rw [Nat.zero_add, this]
    rw [← e3] at hv
    simpa using hv
  · unfold Lib.TabIs
    rw [hv2, ← Lib.cells_of_tab Tryz.underlying179 Tryz.underlying157 cU64 cPow hd2]
  · obtain rfl := Option.some.inj (gB32.symm.trans hg0)
    have hv2' := hv0
    simp only [World.var?, hg0, Option.bind_some] at hv2'
    rcases Nat.lt_or_ge 2 W.heap.size with h | h
    · exact h
    · rw [Array.getElem?_eq_none h] at hv2'
      cases hv2'

end Go.Proofs.YtmglbkndjnflkaaGreatDoor
