import Derived.Test.YtjjldnkhadakcaaGreatData
import Derived.Test.YtjjldnkhadakcaaGreatProg
import Derived.ProofKit
import Derived.ChangeOld
import Derived.SizedLaws
import Derived.Deep.Slices
import Derived.Test.YtjjldnkhadakcaaGreatMData
import Derived.Test.YtjjldnkhadakcaaGreatRows
import Derived.Test.YtjjldnkhadakcaaGreatMLStep
import Derived.OpenShut
import Derived.Test.YtjjldnkhadakcaaGreatIS11
namespace Go.Proofs.YtjjldnkhadakcaaGreat
open Go.RowKit Go.ChangeShapes Go.WideShapes
set_option linter.unusedSimpArgs false
set_option linter.unusedVariables false
section
variable {H : Type} {enc : TypeId × Value → H} {w : World} {spare : Nat → Bool} {held : Bool}
def WOK (t : TypeId) (d : DataW H) : Prop:=∀ n,n ∈ d.weights Tryz.prog t → n ≤ 140737488355328
theorem weightsAll_mem {e : TypeId} {l : List (DataW H)} {d : DataW H} (hd : d ∈ l) {n : Nat} (hn : n ∈ d.weights Tryz.prog e) : n ∈ DataW.weightsAll Tryz.prog e l:=by
 induction l with
 | nil => cases hd
 | cons x xs ih =>
  simp only [DataW.weightsAll,List.mem_append]
  rcases List.mem_cons.1 hd with rfl | hd
  ·exact Or.inl hn
  ·exact Or.inr (ih hd)
theorem rd_slice {α : Type} {sz byt : Nat} {R : Nat → World → List Value → α → Prop} {t e : TypeId} (ht : Tryz.prog.underlying t = some (.slice e)) (hsz : Tryz.prog.cellsOf e = sz) (hby : Tryz.prog.bytesOf e = byt) (h0 : 0 < sz) (h1 : 0 < byt)
  (hel : ∀ n cs d pl,DataW.trod enc Tryz.prog w 0 spare held n e cs = some (d,pl) → WOK e d → ∃ x : α,R 0 w cs x)
  {fuel : Nat} {cs : List Value} {y : DataW H × List MemPlace} (h : DataW.trod enc Tryz.prog w 0 spare held fuel t cs = some y) (hw : WOK t y.1) : ∃ v xs,cs = [v] ∧ SlAt sz byt R 0 w v xs:=by
 rcases Deep.open_slice ht h with ⟨rfl,_⟩ | ⟨a,len,cap,m,n,D,Pl,rfl,hb,hl,hm,hmm,rfl,hcl⟩
 ·exact ⟨_,[],rfl,none,0,rfl,⟨by simp [Len],Nat.le_refl _⟩,by simp [Len],fun i hi => absurd hi (Nat.not_lt_zero _)⟩
 ·have hlm : len ≤ m:=by rw [hmm]; split <;> omega
  unfold WOK at hw
  simp only [DataW.weights,ht,hby] at hw
  have hbytes : len * byt ≤ 140737488355328:=by
   have:=hw _ (List.mem_cons_self ..)
   simp only [List.length_map,List.length_range] at this
   exact Nat.le_trans (Nat.mul_le_mul_right _ (Nat.le_add_right _ _)) this
  have hlen : len ≤ 140737488355328:=Nat.le_trans (Nat.le_mul_of_pos_right _ h1) hbytes
  have he : ∀ i,i < len → ∃ x : α,∃ cs',w.cells? 0 (a.add (i * sz)) sz = some cs' ∧ R 0 w cs' x:=fun i hi => by
   obtain ⟨cs',hc1,hc2⟩:=hcl i (by omega)
   rw [hsz] at hc1
   obtain ⟨x,hx⟩:=hel n cs' (D i) (Pl i) hc2 (fun k hk => hw k (List.mem_cons_of_mem _ (List.mem_append_left _ (weightsAll_mem (List.mem_map.2 ⟨i,by simpa using hi,rfl⟩) hk))))
   exact ⟨x,cs',hc1,hx⟩
  refine ⟨_,List.ofFn (fun i : Fin len => Classical.choose (he i.1 i.2)),rfl,some a,cap,by rw [List.length_ofFn],⟨by unfold Len; rw [List.length_ofFn]; exact hbytes,by rw [List.length_ofFn]; exact hl⟩,by unfold Len; rw [List.length_ofFn]; exact hlen,fun i hi => ?_⟩
  have hi' : i < len:=by simpa using hi
  obtain ⟨cs',hc,hR⟩:=Classical.choose_spec (he i hi')
  obtain ⟨_,hcl',hcell⟩:=World.cells?_some hc
  have hblk:=World.cells?_block hc h0
  obtain ⟨b,o,sp⟩:=a
  have hspot : sp = none:=by
   obtain ⟨_,cs0,hc0,_⟩:=he 0 (by omega)
   obtain ⟨_,hl0,hcell0⟩:=World.cells?_some hc0
   have c0:=hcell0 0 h0
   rw [List.getElem?_eq_getElem (by omega)] at c0
   have:=World.cell?_spot c0
   simpa [Addr.add] using this
  subst hspot
  rw [Addr.add_lit] at hblk
  refine ⟨b,o,cs',rfl,Nat.zero_le _,hblk,hcl',fun j hj => ?_,?_⟩
  ·have cj:=hcell j (by omega)
   rw [Addr.add_lit,Addr.add_lit,List.getElem?_eq_getElem hj] at cj
   exact cj
  ·rw [List.getElem_ofFn]
   exact hR
theorem list1 {α : Type} {l : List α} (h : l.length = 1) : ∃ a,l = [a]:=by
 match l,h with
 | [a],_ => exact ⟨a,rfl⟩
theorem list2 {α : Type} {l : List α} (h : l.length = 2) : ∃ a b,l = [a,b]:=by
 match l,h with
 | [a,b],_ => exact ⟨a,b,rfl⟩
theorem list3 {α : Type} {l : List α} (h : l.length = 3) : ∃ a b c,l = [a,b,c]:=by
 match l,h with
 | [a,b,c],_ => exact ⟨a,b,c,rfl⟩
theorem wf_I64 {n : Int} (h : (Lit.int .i64 n).wf = true) : I64 n:=by
 simp [Lit.wf,IntKind.min,IntKind.max,IntKind.signed,IntKind.bits] at h
 exact ⟨by omega,by omega⟩
theorem rd_str {fuel : Nat} {cs : List Value} {y : DataW H × List MemPlace} (h : DataW.trod enc Tryz.prog w 0 spare held fuel 9 cs = some y) (hw : WOK 9 y.1) : ∃ s,cs = [.string s] ∧ Len s.size:=by
 obtain ⟨s,rfl,rfl,_⟩:=DataW.trod_string Tryz.underlying9 h
 refine ⟨s,rfl,?_⟩
 have:=hw s.data.toList.length (by simp [DataW.weights])
 rw [Array.length_toList] at this
 exact this
theorem cells_string : Tryz.prog.cellsOf 9 = 1:=by kernel_rfl
theorem cells_int : Tryz.prog.cellsOf 3 = 1:=by kernel_rfl
theorem cells_SItem : Tryz.prog.cellsOf 152 = 1:=by kernel_rfl
theorem cells_SStr : Tryz.prog.cellsOf 62 = 1:=by kernel_rfl
theorem cells_SItems : Tryz.prog.cellsOf 153 = 1:=by kernel_rfl
theorem cells_Item : Tryz.prog.cellsOf 198 = 3:=by kernel_rfl
theorem bytes_Item : Tryz.prog.bytesOf 198 = 32:=by kernel_rfl
theorem bytes_string : Tryz.prog.bytesOf 9 = 16:=by kernel_rfl
theorem bytes_SItem : Tryz.prog.bytesOf 152 = 24:=by kernel_rfl
theorem rd_Item (n : Nat) (cs : List Value) (d : DataW H) (pl : List MemPlace) (h : DataW.trod enc Tryz.prog w 0 spare held n 198 cs = some (d,pl)) (hw : WOK 198 d) : ∃ x : DItem,RItem 0 w cs x:=by
 obtain ⟨ys,m,_,hx,hl,hyl,hf⟩:=DataW.trod_struct Tryz.underlying198 h
 rw [cells_Item] at hl
 obtain ⟨c0,c1,c2,rfl⟩:=list3 hl
 obtain ⟨y0,y1,y2,rfl⟩:=list3 (show ys.length = 3 from hyl)
 have f0 : DataW.trod enc Tryz.prog w 0 spare held m 3 (([c0,c1,c2].drop 0).take (Tryz.prog.cellsOf 3)) = some y0:=hf 0 _ rfl
 rw [cells_int] at f0
 replace f0 : DataW.trod enc Tryz.prog w 0 spare held m 3 [c0] = some y0:=f0
 have f1 : DataW.trod enc Tryz.prog w 0 spare held m 3 (([c0,c1,c2].drop 1).take (Tryz.prog.cellsOf 3)) = some y1:=hf 1 _ rfl
 rw [cells_int] at f1
 replace f1 : DataW.trod enc Tryz.prog w 0 spare held m 3 [c1] = some y1:=f1
 have f2 : DataW.trod enc Tryz.prog w 0 spare held m 9 (([c0,c1,c2].drop 2).take (Tryz.prog.cellsOf 9)) = some y2:=hf 2 _ rfl
 rw [cells_string] at f2
 replace f2 : DataW.trod enc Tryz.prog w 0 spare held m 9 [c2] = some y2:=f2
 simp only [Prod.mk.injEq] at hx
 obtain ⟨rfl,rfl⟩:=hx
 unfold WOK at hw
 simp only [List.map_cons,List.map_nil,DataW.weights,Tryz.underlying198,DataW.weightsEach,List.append_nil,List.mem_append] at hw
 have w0 : WOK 3 y0.1:=fun k hk => hw k (Or.inl hk)
 have w1 : WOK 3 y1.1:=fun k hk => hw k (Or.inr (Or.inl hk))
 have w2 : WOK 9 y2.1:=fun k hk => hw k (Or.inr (Or.inr (hk)))
 obtain ⟨n0,hc0,_,hs0⟩:=DataW.trod_int Tryz.underlying3 f0
 obtain rfl : c0 = .int .i64 n0:=by simpa using hc0
 obtain ⟨n1,hc1,_,hs1⟩:=DataW.trod_int Tryz.underlying3 f1
 obtain rfl : c1 = .int .i64 n1:=by simpa using hc1
 obtain ⟨s2,hc2,hs2⟩:=rd_str f2 w2
 obtain rfl : c2 = .string s2:=by simpa using hc2
 exact ⟨⟨n0,n1,s2⟩,rfl,hs2,wf_I64 hs0,wf_I64 hs1⟩
theorem rd_StrEl (n : Nat) (cs : List Value) (d : DataW H) (pl : List MemPlace) (h : DataW.trod enc Tryz.prog w 0 spare held n 9 cs = some (d,pl)) (hw : WOK 9 d) : ∃ x : ByteArray,RStr 0 w cs x:=by
 obtain ⟨s,rfl,hs⟩:=rd_str h hw
 exact ⟨s,rfl,hs⟩
theorem rd_Items (n : Nat) (cs : List Value) (d : DataW H) (pl : List MemPlace) (h : DataW.trod enc Tryz.prog w 0 spare held n 152 cs = some (d,pl)) (hw : WOK 152 d) : ∃ x : List DItem,RItems 0 w cs x:=by
 obtain ⟨v,l,rfl,hs⟩:=rd_slice (R:=RItem) Tryz.underlying152 cells_Item bytes_Item (by decide) (by decide) (fun n cs d pl h hw => rd_Item n cs d pl h hw) h hw
 exact ⟨l,v,rfl,hs⟩
end
end Go.Proofs.YtjjldnkhadakcaaGreat
namespace Go.Proofs.YtjjldnkhadakcaaGreat
open Go.RowKit Go.ChangeShapes Go.WideShapes
set_option linter.unusedSimpArgs false
set_option linter.unusedVariables false
section
variable {H : Type} {enc : TypeId × Value → H} {w : World} {spare : Nat → Bool} {held : Bool}
theorem list6 {α : Type} {l : List α} (h : l.length = 6) : ∃ a b c d e f,l = [a,b,c,d,e,f]:=by
 match l,h with
 | [a,b,c,d,e,f],_ => exact ⟨a,b,c,d,e,f,rfl⟩
theorem list7 {α : Type} {l : List α} (h : l.length = 7) : ∃ a b c d e f g,l = [a,b,c,d,e,f,g]:=by
 match l,h with
 | [a,b,c,d,e,f,g],_ => exact ⟨a,b,c,d,e,f,g,rfl⟩
theorem cells_Slot : Tryz.prog.cellsOf 150 = 2:=by kernel_rfl
theorem cells_Stm : Tryz.prog.cellsOf 155 = 6:=by kernel_rfl
theorem cells_Class : Tryz.prog.cellsOf 74 = 7:=by kernel_rfl
theorem cells_SSlot : Tryz.prog.cellsOf 71 = 1:=by kernel_rfl
theorem cells_SStm : Tryz.prog.cellsOf 72 = 1:=by kernel_rfl
theorem cells_SClass : Tryz.prog.cellsOf 22 = 1:=by kernel_rfl
theorem cells_SInt : Tryz.prog.cellsOf 35 = 1:=by kernel_rfl
theorem cells_Mach : Tryz.prog.cellsOf 24 = 1:=by kernel_rfl
theorem bytes_Slot : Tryz.prog.bytesOf 150 = 24:=by kernel_rfl
theorem bytes_Stm : Tryz.prog.bytesOf 155 = 104:=by kernel_rfl
theorem bytes_Class : Tryz.prog.bytesOf 74 = 160:=by kernel_rfl
theorem bytes_int : Tryz.prog.bytesOf 3 = 8:=by kernel_rfl
theorem rd_IntEl (n : Nat) (cs : List Value) (d : DataW H) (pl : List MemPlace) (h : DataW.trod enc Tryz.prog w 0 spare held n 3 cs = some (d,pl)) (hw : WOK 3 d) : ∃ x : Int,RInt 0 w cs x:=by
 obtain ⟨n,rfl,_,hs⟩:=DataW.trod_int Tryz.underlying3 h
 exact ⟨n,rfl,wf_I64 hs⟩
theorem rd_Slot (n : Nat) (cs : List Value) (d : DataW H) (pl : List MemPlace) (h : DataW.trod enc Tryz.prog w 0 spare held n 150 cs = some (d,pl)) (hw : WOK 150 d) : ∃ x : DSlot,RSlot 0 w cs x:=by
 obtain ⟨ys,m,_,hx,hl,hyl,hf⟩:=DataW.trod_struct Tryz.underlying150 h
 rw [cells_Slot] at hl
 obtain ⟨c0,c1,rfl⟩:=list2 hl
 obtain ⟨y0,y1,rfl⟩:=list2 (show ys.length = 2 from hyl)
 have f0 : DataW.trod enc Tryz.prog w 0 spare held m 9 (([c0,c1].drop 0).take (Tryz.prog.cellsOf 9)) = some y0:=hf 0 _ rfl
 rw [cells_string] at f0
 replace f0 : DataW.trod enc Tryz.prog w 0 spare held m 9 [c0] = some y0:=f0
 have f1 : DataW.trod enc Tryz.prog w 0 spare held m 3 (([c0,c1].drop 1).take (Tryz.prog.cellsOf 3)) = some y1:=hf 1 _ rfl
 rw [cells_int] at f1
 replace f1 : DataW.trod enc Tryz.prog w 0 spare held m 3 [c1] = some y1:=f1
 simp only [Prod.mk.injEq] at hx
 obtain ⟨rfl,rfl⟩:=hx
 unfold WOK at hw
 simp only [List.map_cons,List.map_nil,DataW.weights,Tryz.underlying150,DataW.weightsEach,List.append_nil,List.mem_append] at hw
 have w0 : WOK 9 y0.1:=fun k hk => hw k (Or.inl hk)
 have w1 : WOK 3 y1.1:=fun k hk => hw k (Or.inr (hk))
 obtain ⟨s0,hc0,hs0⟩:=rd_str f0 w0
 obtain rfl : c0 = .string s0:=by simpa using hc0
 obtain ⟨n1,hc1,_,hs1⟩:=DataW.trod_int Tryz.underlying3 f1
 obtain rfl : c1 = .int .i64 n1:=by simpa using hc1
 exact ⟨⟨s0,n1⟩,rfl,hs0,wf_I64 hs1⟩
theorem rd_Stm (n : Nat) (cs : List Value) (d : DataW H) (pl : List MemPlace) (h : DataW.trod enc Tryz.prog w 0 spare held n 155 cs = some (d,pl)) (hw : WOK 155 d) : ∃ x : DStm,RStm 0 w cs x:=by
 obtain ⟨ys,m,_,hx,hl,hyl,hf⟩:=DataW.trod_struct Tryz.underlying155 h
 rw [cells_Stm] at hl
 obtain ⟨c0,c1,c2,c3,c4,c5,rfl⟩:=list6 hl
 obtain ⟨y0,y1,y2,y3,y4,y5,rfl⟩:=list6 (show ys.length = 6 from hyl)
 have f0 : DataW.trod enc Tryz.prog w 0 spare held m 3 (([c0,c1,c2,c3,c4,c5].drop 0).take (Tryz.prog.cellsOf 3)) = some y0:=hf 0 _ rfl
 rw [cells_int] at f0
 replace f0 : DataW.trod enc Tryz.prog w 0 spare held m 3 [c0] = some y0:=f0
 have f1 : DataW.trod enc Tryz.prog w 0 spare held m 9 (([c0,c1,c2,c3,c4,c5].drop 1).take (Tryz.prog.cellsOf 9)) = some y1:=hf 1 _ rfl
 rw [cells_string] at f1
 replace f1 : DataW.trod enc Tryz.prog w 0 spare held m 9 [c1] = some y1:=f1
 have f2 : DataW.trod enc Tryz.prog w 0 spare held m 3 (([c0,c1,c2,c3,c4,c5].drop 2).take (Tryz.prog.cellsOf 3)) = some y2:=hf 2 _ rfl
 rw [cells_int] at f2
 replace f2 : DataW.trod enc Tryz.prog w 0 spare held m 3 [c2] = some y2:=f2
 have f3 : DataW.trod enc Tryz.prog w 0 spare held m 62 (([c0,c1,c2,c3,c4,c5].drop 3).take (Tryz.prog.cellsOf 62)) = some y3:=hf 3 _ rfl
 rw [cells_SStr] at f3
 replace f3 : DataW.trod enc Tryz.prog w 0 spare held m 62 [c3] = some y3:=f3
 have f4 : DataW.trod enc Tryz.prog w 0 spare held m 152 (([c0,c1,c2,c3,c4,c5].drop 4).take (Tryz.prog.cellsOf 152)) = some y4:=hf 4 _ rfl
 rw [cells_SItem] at f4
 replace f4 : DataW.trod enc Tryz.prog w 0 spare held m 152 [c4] = some y4:=f4
 have f5 : DataW.trod enc Tryz.prog w 0 spare held m 153 (([c0,c1,c2,c3,c4,c5].drop 5).take (Tryz.prog.cellsOf 153)) = some y5:=hf 5 _ rfl
 rw [cells_SItems] at f5
 replace f5 : DataW.trod enc Tryz.prog w 0 spare held m 153 [c5] = some y5:=f5
 simp only [Prod.mk.injEq] at hx
 obtain ⟨rfl,rfl⟩:=hx
 unfold WOK at hw
 simp only [List.map_cons,List.map_nil,DataW.weights,Tryz.underlying155,DataW.weightsEach,List.append_nil,List.mem_append] at hw
 have w0 : WOK 3 y0.1:=fun k hk => hw k (Or.inl hk)
 have w1 : WOK 9 y1.1:=fun k hk => hw k (Or.inr (Or.inl hk))
 have w2 : WOK 3 y2.1:=fun k hk => hw k (Or.inr (Or.inr (Or.inl hk)))
 have w3 : WOK 62 y3.1:=fun k hk => hw k (Or.inr (Or.inr (Or.inr (Or.inl hk))))
 have w4 : WOK 152 y4.1:=fun k hk => hw k (Or.inr (Or.inr (Or.inr (Or.inr (Or.inl hk)))))
 have w5 : WOK 153 y5.1:=fun k hk => hw k (Or.inr (Or.inr (Or.inr (Or.inr (Or.inr (hk))))))
 obtain ⟨n0,hc0,_,hs0⟩:=DataW.trod_int Tryz.underlying3 f0
 obtain rfl : c0 = .int .i64 n0:=by simpa using hc0
 obtain ⟨s1,hc1,hs1⟩:=rd_str f1 w1
 obtain rfl : c1 = .string s1:=by simpa using hc1
 obtain ⟨n2,hc2,_,hs2⟩:=DataW.trod_int Tryz.underlying3 f2
 obtain rfl : c2 = .int .i64 n2:=by simpa using hc2
 obtain ⟨v3,l3,hv3,hs3⟩:=rd_slice (R:=RStr) Tryz.underlying62 cells_string bytes_string (by decide) (by decide) (fun n cs d pl h hw => rd_StrEl n cs d pl h hw) f3 w3
 obtain rfl : c3 = v3:=by simpa using hv3
 obtain ⟨v4,l4,hv4,hs4⟩:=rd_slice (R:=RItem) Tryz.underlying152 cells_Item bytes_Item (by decide) (by decide) (fun n cs d pl h hw => rd_Item n cs d pl h hw) f4 w4
 obtain rfl : c4 = v4:=by simpa using hv4
 obtain ⟨v5,l5,hv5,hs5⟩:=rd_slice (R:=RItems) Tryz.underlying153 cells_SItem bytes_SItem (by decide) (by decide) (fun n cs d pl h hw => rd_Items n cs d pl h hw) f5 w5
 obtain rfl : c5 = v5:=by simpa using hv5
 exact ⟨⟨n0,s1,n2,l3,l4,l5⟩,c3,c4,c5,rfl,hs1,wf_I64 hs0,wf_I64 hs2,hs3,hs4,hs5⟩
theorem rd_Class (n : Nat) (cs : List Value) (d : DataW H) (pl : List MemPlace) (h : DataW.trod enc Tryz.prog w 0 spare held n 74 cs = some (d,pl)) (hw : WOK 74 d) : ∃ x : DClass,RClass 0 w cs x:=by
 obtain ⟨ys,m,_,hx,hl,hyl,hf⟩:=DataW.trod_struct Tryz.underlying74 h
 rw [cells_Class] at hl
 obtain ⟨c0,c1,c2,c3,c4,c5,c6,rfl⟩:=list7 hl
 obtain ⟨y0,y1,y2,y3,y4,y5,y6,rfl⟩:=list7 (show ys.length = 7 from hyl)
 have f0 : DataW.trod enc Tryz.prog w 0 spare held m 9 (([c0,c1,c2,c3,c4,c5,c6].drop 0).take (Tryz.prog.cellsOf 9)) = some y0:=hf 0 _ rfl
 rw [cells_string] at f0
 replace f0 : DataW.trod enc Tryz.prog w 0 spare held m 9 [c0] = some y0:=f0
 have f1 : DataW.trod enc Tryz.prog w 0 spare held m 71 (([c0,c1,c2,c3,c4,c5,c6].drop 1).take (Tryz.prog.cellsOf 71)) = some y1:=hf 1 _ rfl
 rw [cells_SSlot] at f1
 replace f1 : DataW.trod enc Tryz.prog w 0 spare held m 71 [c1] = some y1:=f1
 have f2 : DataW.trod enc Tryz.prog w 0 spare held m 71 (([c0,c1,c2,c3,c4,c5,c6].drop 2).take (Tryz.prog.cellsOf 71)) = some y2:=hf 2 _ rfl
 rw [cells_SSlot] at f2
 replace f2 : DataW.trod enc Tryz.prog w 0 spare held m 71 [c2] = some y2:=f2
 have f3 : DataW.trod enc Tryz.prog w 0 spare held m 62 (([c0,c1,c2,c3,c4,c5,c6].drop 3).take (Tryz.prog.cellsOf 62)) = some y3:=hf 3 _ rfl
 rw [cells_SStr] at f3
 replace f3 : DataW.trod enc Tryz.prog w 0 spare held m 62 [c3] = some y3:=f3
 have f4 : DataW.trod enc Tryz.prog w 0 spare held m 35 (([c0,c1,c2,c3,c4,c5,c6].drop 4).take (Tryz.prog.cellsOf 35)) = some y4:=hf 4 _ rfl
 rw [cells_SInt] at f4
 replace f4 : DataW.trod enc Tryz.prog w 0 spare held m 35 [c4] = some y4:=f4
 have f5 : DataW.trod enc Tryz.prog w 0 spare held m 35 (([c0,c1,c2,c3,c4,c5,c6].drop 5).take (Tryz.prog.cellsOf 35)) = some y5:=hf 5 _ rfl
 rw [cells_SInt] at f5
 replace f5 : DataW.trod enc Tryz.prog w 0 spare held m 35 [c5] = some y5:=f5
 have f6 : DataW.trod enc Tryz.prog w 0 spare held m 72 (([c0,c1,c2,c3,c4,c5,c6].drop 6).take (Tryz.prog.cellsOf 72)) = some y6:=hf 6 _ rfl
 rw [cells_SStm] at f6
 replace f6 : DataW.trod enc Tryz.prog w 0 spare held m 72 [c6] = some y6:=f6
 simp only [Prod.mk.injEq] at hx
 obtain ⟨rfl,rfl⟩:=hx
 unfold WOK at hw
 simp only [List.map_cons,List.map_nil,DataW.weights,Tryz.underlying74,DataW.weightsEach,List.append_nil,List.mem_append] at hw
 have w0 : WOK 9 y0.1:=fun k hk => hw k (Or.inl hk)
 have w1 : WOK 71 y1.1:=fun k hk => hw k (Or.inr (Or.inl hk))
 have w2 : WOK 71 y2.1:=fun k hk => hw k (Or.inr (Or.inr (Or.inl hk)))
 have w3 : WOK 62 y3.1:=fun k hk => hw k (Or.inr (Or.inr (Or.inr (Or.inl hk))))
 have w4 : WOK 35 y4.1:=fun k hk => hw k (Or.inr (Or.inr (Or.inr (Or.inr (Or.inl hk)))))
 have w5 : WOK 35 y5.1:=fun k hk => hw k (Or.inr (Or.inr (Or.inr (Or.inr (Or.inr (Or.inl hk))))))
 have w6 : WOK 72 y6.1:=fun k hk => hw k (Or.inr (Or.inr (Or.inr (Or.inr (Or.inr (Or.inr (hk)))))))
 obtain ⟨s0,hc0,hs0⟩:=rd_str f0 w0
 obtain rfl : c0 = .string s0:=by simpa using hc0
 obtain ⟨v1,l1,hv1,hs1⟩:=rd_slice (R:=RSlot) Tryz.underlying71 cells_Slot bytes_Slot (by decide) (by decide) (fun n cs d pl h hw => rd_Slot n cs d pl h hw) f1 w1
 obtain rfl : c1 = v1:=by simpa using hv1
 obtain ⟨v2,l2,hv2,hs2⟩:=rd_slice (R:=RSlot) Tryz.underlying71 cells_Slot bytes_Slot (by decide) (by decide) (fun n cs d pl h hw => rd_Slot n cs d pl h hw) f2 w2
 obtain rfl : c2 = v2:=by simpa using hv2
 obtain ⟨v3,l3,hv3,hs3⟩:=rd_slice (R:=RStr) Tryz.underlying62 cells_string bytes_string (by decide) (by decide) (fun n cs d pl h hw => rd_StrEl n cs d pl h hw) f3 w3
 obtain rfl : c3 = v3:=by simpa using hv3
 obtain ⟨v4,l4,hv4,hs4⟩:=rd_slice (R:=RInt) Tryz.underlying35 cells_int bytes_int (by decide) (by decide) (fun n cs d pl h hw => rd_IntEl n cs d pl h hw) f4 w4
 obtain rfl : c4 = v4:=by simpa using hv4
 obtain ⟨v5,l5,hv5,hs5⟩:=rd_slice (R:=RInt) Tryz.underlying35 cells_int bytes_int (by decide) (by decide) (fun n cs d pl h hw => rd_IntEl n cs d pl h hw) f5 w5
 obtain rfl : c5 = v5:=by simpa using hv5
 obtain ⟨v6,l6,hv6,hs6⟩:=rd_slice (R:=RStm) Tryz.underlying72 cells_Stm bytes_Stm (by decide) (by decide) (fun n cs d pl h hw => rd_Stm n cs d pl h hw) f6 w6
 obtain rfl : c6 = v6:=by simpa using hv6
 exact ⟨⟨s0,l1,l2,l3,l4,l5,l6⟩,c1,c2,c3,c4,c5,c6,rfl,hs0,hs1,hs2,hs3,hs4,hs5,hs6⟩
end
end Go.Proofs.YtjjldnkhadakcaaGreat
namespace Go.Proofs.YtjjldnkhadakcaaGreat
open Go.ChangeShapes Go.WideShapes Go.ChangeAt Go.RowKit
set_option linter.unusedVariables false
theorem own : ownKnob Tryz.prog.godebug = none:=by kernel_rfl
theorem laidOut : laidOutB Tryz.prog = true:=by kernel_rfl
set_option maxRecDepth 100000 in
theorem lifted (hB : ∀ ks nd sl al,I64 nd → ∃ r,StepBoth ks nd sl al r) (os : Os) (started : os.Started) (H : Type) (enc : TypeId × Value → H) :
  ReturnsInHanded {} Tryz.checked os 7 .any (Rows.fnExactStepSpec.pre6 enc Tryz.prog Tryz.f7 Rows.fnExactStepRow.domain false) (Rows.fnExactStepSpec.post enc Tryz.prog Tryz.f7 false true false false):=by
 refine returnsInHanded_of_change_sized (C:=Tryz.checked) own started (by kernel_rfl) Tryz.func7
  (ChangeSpec.witness6 (enc:=enc) (C:=Tryz.checked) false ⟨#[],#[.agg #[.slice none 0 0],.int .i64 0,.slice none 0 0,.slice none 0 0],[]⟩ 8 (by kernel_rfl) (by kernel_rfl) (by kernel_rfl) (by kernel_rfl)) ?_
 intro W base args ds gs before hval0 hW hcnd hsz _
 have hval : ∀ (j : Nat) t v,Tryz.f7.params[j]? = some t → args[j]? = some v → Value.okWide Tryz.prog W .any base t v:=hval0
 have hW':=hW
 obtain ⟨p,q,hA0,hV,rfl,hfz,hnd⟩:=hW
 have hA : DataW.TrodAll enc Tryz.prog W 0 (fun _ => true) true Tryz.f7.params.toList args.toList ds p:=hA0
 rw [Tryz.params7] at hA hval
 obtain ⟨v0,vs0,d0,ds0,p0,q0,hargs,rfl,rfl,h0,r00⟩:=trodAll_cons hA
 obtain ⟨v9,vs9,d9,ds9,p9,q9,hargs9,rfl,rfl,h9,r01⟩:=trodAll_cons r00
 obtain ⟨v7,vs7,d7,ds7,p7,q7,hargs7,rfl,rfl,h7,r02⟩:=trodAll_cons r01
 obtain ⟨v8,vs8,d8,ds8,p8,q8,hargs8,rfl,rfl,h8,r0⟩:=trodAll_cons r02
 obtain ⟨rfl,rfl,rfl⟩:=trodAll_nil r0
 obtain rfl : args = #[v0,v9,v7,v8]:=by cases args; simp_all
 have k7:=h7
 have lt7 : ∀ x ∈ p7,x.block < W.heap.size:=by obtain ⟨m,hm⟩:=k7; exact DataW.trod_lt m _ _ _ hm
 have k8:=h8
 have lt8 : ∀ x ∈ p8,x.block < W.heap.size:=by obtain ⟨m,hm⟩:=k8; exact DataW.trod_lt m _ _ _ hm
 have hw7 : WOK 35 d7:=fun n hn => by
  have h2 : decide (n ≤ reachBytes) = true:=List.all_eq_true.1 hsz n (DataW.weights_mem_each (j:=2) (t:=35) rfl rfl n hn)
  have h3:=of_decide_eq_true h2
  unfold reachBytes at h3
  omega
 have hw8 : WOK 35 d8:=fun n hn => by
  have h2 : decide (n ≤ reachBytes) = true:=List.all_eq_true.1 hsz n (DataW.weights_mem_each (j:=3) (t:=35) rfl rfl n hn)
  have h3:=of_decide_eq_true h2
  unfold reachBytes at h3
  omega
 obtain ⟨a7,l7,c7,rfl⟩:=okWide_slice Tryz.underlying35 (hval 2 35 v7 rfl rfl)
 obtain ⟨a8,l8,c8,rfl⟩:=okWide_slice Tryz.underlying35 (hval 3 35 v8 rfl rfl)
 obtain ⟨fu7,hf7⟩:=h7
 obtain ⟨fu8,hf8⟩:=h8
 obtain ⟨u7,sl,hu7,hS7⟩:=rd_slice (R:=RInt) (sz:=1) (byt:=8) Tryz.underlying35 (by kernel_rfl) (by kernel_rfl) (by decide) (by decide) (fun n cs d pl h hw => rd_IntEl n cs d pl h hw) hf7 hw7
 obtain ⟨u8,al,hu8,hS8⟩:=rd_slice (R:=RInt) (sz:=1) (byt:=8) Tryz.underlying35 (by kernel_rfl) (by kernel_rfl) (by decide) (by decide) (fun n cs d pl h hw => rd_IntEl n cs d pl h hw) hf8 hw8
 obtain rfl : Value.slice a7 l7 c7 = u7:=by
  have h3 : [Value.slice a7 l7 c7] = [u7]:=hu7
  simpa using h3
 obtain rfl : Value.slice a8 l8 c8 = u8:=by
  have h3 : [Value.slice a8 l8 c8] = [u8]:=hu8
  simpa using h3
 have k9:=h9
 have lt9 : ∀ x ∈ p9,x.block < W.heap.size:=by obtain ⟨m,hm⟩:=k9; exact DataW.trod_lt m _ _ _ hm
 obtain ⟨nd,rfl,hnd1,hnd2,hnd3⟩:=open_int Tryz.underlying3 (hval 1 3 v9 rfl rfl) h9
 obtain ⟨rfl,rfl⟩:=trodVars_none hV
 have k0:=h0
 have lt0 : ∀ x ∈ p0,x.block < W.heap.size:=by obtain ⟨m,hm⟩:=k0; exact DataW.trod_lt m _ _ _ hm
 obtain ⟨cs,rfl,hcs⟩:=okWide_struct Tryz.underlying24 (hval 0 24 v0 rfl rfl)
 have hwk : WOK 24 d0:=fun n hn => by
  have h2 : decide (n ≤ reachBytes) = true:=List.all_eq_true.1 hsz n (DataW.weights_mem_each (j:=0) (t:=24) rfl rfl n hn)
  have h3:=of_decide_eq_true h2
  unfold reachBytes at h3
  omega
 obtain ⟨fuel,hf⟩:=h0
 obtain ⟨ys,m,_,hx,hl,hyl,hfl⟩:=DataW.trod_struct Tryz.underlying24 hf
 rw [cells_Mach] at hl
 obtain ⟨c0,hc0⟩:=list1 hl
 obtain ⟨y0,rfl⟩:=list1 (show ys.length = 1 from hyl)
 have f0 : DataW.trod enc Tryz.prog W 0 (fun _ => true) true m 22 (((Value.agg cs).cells.toList.drop 0).take (Tryz.prog.cellsOf 22)) = some y0:=hfl 0 _ rfl
 rw [cells_SClass,hc0] at f0
 replace f0 : DataW.trod enc Tryz.prog W 0 (fun _ => true) true m 22 [c0] = some y0:=f0
 have ecs : cs = #[c0]:=by
  have : cs.toList = [c0]:=hc0
  cases cs
  simpa using this
 subst ecs
 simp only [Prod.mk.injEq] at hx
 have hd0 : d0 = .agg [y0.1]:=hx.1
 have w0 : WOK 22 y0.1:=fun n hn => hwk n (by
  rw [hd0]
  simp only [DataW.weights,Tryz.underlying24,List.map_cons,List.map_nil,DataW.weightsEach,List.append_nil]
  exact hn)
 obtain ⟨v,ns,hv,hS⟩:=rd_slice (R:=RClass) Tryz.underlying22 cells_Class bytes_Class (by decide) (by decide) (fun n cs d pl h hw => rd_Class n cs d pl h hw) f0 w0
 obtain rfl : c0 = v:=by simpa using hv
 clear hA0 hval0
 obtain ⟨r,hr⟩:=hB ns nd sl al (by first | exact wf_I64 hnd1 | exact wf_I64 hnd2 | exact wf_I64 hnd3 | (unfold I64; omega))
 refine (lawStep_of ns nd sl al r c0 _ _ W hS hS7 hS8 hr).mono fun e W' ⟨he,bel⟩ => ?_
 subst he
 exact ⟨_,rfl,_,_,_,[],_,[],hW',trodAll_mk1 (shut_bool Tryz.underlying4 _),(trodAll_cons_mk (Below.trod laidOut (by kernel_rfl) (of_decide_eq_true (by kernel_rfl)) k0 bel lt0) (trodAll_cons_mk (Below.trod laidOut (by kernel_rfl) (of_decide_eq_true (by kernel_rfl)) k9 bel lt9) (trodAll_cons_mk (Below.trod laidOut (by kernel_rfl) (of_decide_eq_true (by kernel_rfl)) k7 bel lt7) (trodAll_cons_mk (Below.trod laidOut (by kernel_rfl) (of_decide_eq_true (by kernel_rfl)) k8 bel lt8) trodAll_mk0)))),rfl,bel.frame _,fun h => by cases h⟩
theorem over (hB : ∀ ks nd sl al,I64 nd → ∃ r,StepBoth ks nd sl al r) : Rows.fnExactStepRow.holds Tryz.pinned (OpenSpec.ofChange Rows.fnExactStepSpec) :=
 OpenClaim.holds_of_wide 7 Tryz.f7 rfl rfl rfl rfl rfl rfl rfl ⟨rfl,rfl,rfl,rfl,rfl⟩ rfl rfl rfl rfl rfl (by kernel_rfl) Tryz.func7 (by kernel_rfl)
  (of_decide_eq_true (by kernel_rfl)) (by unfold Func.isWrapper; first | (rw [if_pos (by decide +kernel)]; kernel_rfl) | (rw [if_neg (by decide +kernel)]; exact ⟨rfl,rfl⟩))
  (fun os started H enc _ => lifted hB os started H enc)
end Go.Proofs.YtjjldnkhadakcaaGreat
namespace Go.Proofs.YtjjldnkhadakcaaGreat
open Go.ChangeShapes Go.WideShapes Go.ChangeAt Go.RowKit
set_option linter.unusedVariables false
theorem few_of2 (ks : List DClass) (h : wSum wClass ks ≤ 1048576) : VarsFew ks:=fun i hi => by
 have h1:=sum_geC wClass ks ks[i] (List.getElem_mem hi)
 have h2 : ks[i].ins.length + ks[i].outs.length + ks[i].locs.length ≤ wClass ks[i]:=by
  simp only [wClass,wSum]
  omega
 unfold wSum at h
 omega
theorem stepA_len (ks : List DClass) (c : Int) (st ar : List Int) : (stepA ks c st ar).1.length ≤ 1000000 ∧ (stepA ks c st ar).2.1.length ≤ 1000000:=by
 unfold stepA
 split
 ·rename_i h
  unfold stepOK at h
  simp only [Bool.and_eq_true] at h
  obtain ⟨h1,h2,h3,h4,h5⟩:=h
  obtain ⟨k,hk,h6⟩:=of_decide_eq_true h3
  obtain ⟨p1,p2,p3⟩:=plans_of_has ks c h1
  have q32 : ∀ xs : List Int,xs.all memB = true → ∀ x,x ∈ xs → Q32 x:=fun xs hx x hm => by
   rw [all_val] at hx
   have h9:=List.all_eq_true.1 hx x hm
   unfold valB at h9
   unfold Q32
   exact of_decide_eq_true h9
  obtain ⟨⟨g1,g2⟩,_⟩:=walk_wok ks p1 ks.length c.toNat k hk (by omega) st ar (of_decide_eq_true h2) h6 (q32 st h4) (q32 ar h5)
  have h7:=(fok_of ks p1).len c.toNat (by omega)
  have h8:=(vars_pos p1 hk).2
  have h9:=vars_len k
  simp only
  omega
 ·simp
theorem stepBoth (ks : List DClass) (nd : Int) (sl al : List Int) (h : I64 nd) : StepBoth ks nd sl al (stepA ks nd sl al):=fun hw =>
 ⟨stepA_len ks nd sl al,fun v sv av w h1 h2 h3 => specStep_ok ks v sv av nd sl al w h1 h2 h3 (few_of2 ks hw) h,fun v sv av w h1 h2 h3 => implStep_ok ks v sv av nd sl al w h1 h2 h3⟩
theorem step_holds : Rows.FnExactStepSaid:=over (fun ks nd sl al h => ⟨_,stepBoth ks nd sl al h⟩)
#print axioms step_holds
end Go.Proofs.YtjjldnkhadakcaaGreat
