import Derived.Test.YtajabbnlbopcbaaGreatDoorVP4
import Derived.Test.YtajabbnlbopcbaaGreatDoorPGL
import Derived.Test.YtajabbnlbopcbaaGreatDoorTI6
import Derived.Test.YtajabbnlbopcbaaGreatDoorRows
import Derived.Test.YtajabbnlbopcbaaGreatDoorTI2
import Derived.Lib.LaidTab
import Derived.MakeChecks
import Derived.OpenShut
namespace Go.Proofs.YtajabbnlbopcbaaGreatDoor
open Go.RowKit
set_option linter.unusedSimpArgs false
set_option linter.unusedVariables false
set_option maxHeartbeats 8000000 in
set_option maxRecDepth 8000 in
theorem law_ok (code : List Int) (cv : Value) (w : World) (hE : Env w) (hc : SlAt 1 1 RByte 0 w cv code) :
  Calls Tryz.prog 3 #[cv] w (Ans (.bool true) w):=by
 obtain ⟨ca,cc,rfl⟩:=hc.shape
 have hl:=hc.len
 unfold Len at hl
 by_cases hm : code.length ≤ 1048576
 case neg =>
  have hd : decide ((code.length : Int) > 1048576) = true:=by
   rw [decide_eq_true_iff]
   omega
  go_enter Tryz.func3,Tryz.ntmps3
  go_wp2
  go_ret
  exact ⟨rfl,Below.refl _ _⟩
 case pos =>
  have hd : decide ((code.length : Int) > 1048576) = false:=by
   rw [decide_eq_false_iff_not]
   omega
  obtain ⟨ql,hq,ho⟩:=prF_pr code c00
  have HC:=hide hc
  have HE:=hide hE
  have HD:=hide (fun Y (hY : Below w.heap.size w Y) => drawn_ok (hc.stays RByte_kept hY) hm)
  have HPT : Hid (ptT (prF code c00).1 = flP (prP ql)):=by
   show ptT (prF code c00).1 = flP (prP ql)
   rw [prP_fl (fun n hn e he => ((ho.2 n hn).2.2.2.2.1 e he).1),hq]
   unfold ptT
   rw [if_pos (hq ▸ sh_of ho)]
  have hLS : Len (flP (prP ql)).size:=by
   have h1:=prT_size (sh_of ho) _ (Nat.le_refl _)
   rw [prP_fl (fun n hn e he => ((ho.2 n hn).2.2.2.2.1 e he).1)]
   unfold Len prT
   omega
  have HOK:=hide ho
  have HQ:=hide hq
  have D1:=hide (uh HD w (Below.refl _ _))
  clear hc hE ho hq
  go_enter Tryz.func3,Tryz.ntmps3
  go_wp2_with fail
  refine (uh D1).mono ?_
  rintro e w1 ⟨t1,a,n,cap,ra,rn,rc,rfl,hS,hb⟩
  obtain ⟨A,hAA⟩ : ∃ A,A = w1.alloc (.cells #[.slice a n cap] 25):=⟨_,rfl⟩
  have hA : Below w1.heap.size w1 A:=hAA ▸ (Below.refl _ _).alloc (Nat.le_refl _) _
  have hp : BlkAt A w1.heap.size 25 #[.slice a n cap]:=hAA ▸ blk_box w1 _ _
  have p0:=hp.cell (i:=0) (v:=.slice a n cap) rfl
  have HAA:=hide hAA
  rw [hAA] at p0
  have hbA:=hb.trans (hA.mono hb.size)
  have C2 : Hid (Calls Tryz.prog 5 #[.agg #[.slice a n cap]] A (Ans (.string (flP (prP ql))) A)):=by
   have h9:=implPrint_ok _ _ _ ((uh HE).below hbA (uh HE).three) ((hS.lower RNode_lowers (Nat.zero_le _)).stays RNode_kept hA)
   rw [uh HPT] at h9
   exact h9
  have HBA:=hide hbA
  clear hS hb hA hp hAA D1
  go_wp2_with fail
  rw [← uh HAA]
  refine (uh C2).mono ?_
  rintro e w2 ⟨rfl,hb2⟩
  have HB2:=hide ((uh HBA).trans (hb2.mono (uh HBA).size))
  clear C2 p0 hb2
  by_cases hz : (flP (prP ql)).size ≤ 20000
  case neg =>
   have C3:=hide (Parse_long (Nat.lt_of_not_le hz) hLS w2)
   generalize flP (prP ql) = s at *
   have hd2 : decide ((s.size : Int) > 20000) = true:=by
    rw [decide_eq_true_iff]
    omega
   unfold Len at hLS
   go_wp2_with fail
   refine (uh C3).mono ?_
   rintro e w3 ⟨rfl,hb3⟩
   have HB3:=hide (((uh HB2).trans (hb3.mono (uh HB2).size)).alloc ((uh HB2).trans (hb3.mono (uh HB2).size)).size (.cells #[.slice none 0 0] 25))
   clear hb3 C3
   go_wp2
   go_ret
   exact ⟨rfl,uh HB3⟩
  case pos =>
   have HE2:=hide ((uh HE).below (uh HB2) (uh HE).three)
   have C3:=hide (Parse_ok (uh HOK) hz w2 (uh HE2).ops (by have:=(uh HE2).three; omega))
   generalize flP (prP ql) = s at *
   have hd2 : decide ((s.size : Int) > 20000) = false:=by
    rw [decide_eq_false_iff_not]
    omega
   go_wp2_with fail
   refine (uh C3).mono ?_
   rintro e w3 ⟨b,m,bc,rfl,hS3,hb3⟩
   obtain ⟨B,hBB⟩ : ∃ B,B = w3.alloc (.cells #[.slice b m bc] 25):=⟨_,rfl⟩
   have hB : Below w3.heap.size w3 B:=hBB ▸ (Below.refl _ _).alloc (Nat.le_refl _) _
   have hbb : BlkAt B w3.heap.size 25 #[.slice b m bc]:=hBB ▸ blk_box w3 _ _
   have hb3':=(uh HB2).trans (hb3.mono (uh HB2).size)
   have HB3:=hide (hb3'.trans (hB.mono hb3'.size))
   have C4:=hide (uh HD B (uh HB3))
   have HS3:=hide (hS3.stays RNode_kept hB)
   have HBB:=hide hBB
   have HBK:=hide hbb
   clear hB hBB hbb hb3' hS3 hb3 C3
   go_wp2_with fail
   rw [← uh HBB]
   refine (uh C4).mono ?_
   rintro e w4 ⟨t4,d,k,dc,ra4,rn4,rc4,rfl,hS4,hb4⟩
   obtain ⟨C,hCC⟩ : ∃ C,C = w4.alloc (.cells #[.slice d k dc] 25):=⟨_,rfl⟩
   have hC : Below w4.heap.size w4 C:=hCC ▸ (Below.refl _ _).alloc (Nat.le_refl _) _
   have hdb : BlkAt C w4.heap.size 25 #[.slice d k dc]:=hCC ▸ blk_box w4 _ _
   have hBC : Below B.heap.size B C:=hb4.trans (hC.mono hb4.size)
   have hbC:=(uh HBK).below hBC (uh HBK).lt
   have C5:=hide (hProgram_ok _ _ _ C ((uh HS3).stays RNode_kept hBC) ((uh HQ).symm ▸ (hS4.lower RNode_lowers (Nat.zero_le _)).stays RNode_kept hC))
   have HB4:=hide ((uh HB3).trans (hBC.mono (uh HB3).size))
   have c1:=hbC.cell (i:=0) (v:=.slice b m bc) rfl
   have c2:=hdb.cell (i:=0) (v:=.slice d k dc) rfl
   have HCC:=hide hCC
   rw [hCC] at c1 c2
   clear hC hdb hBC hbC hS4 hb4 C4 hCC HBB HBK HD HE HE2 HS3
   go_wp2_with fail
   rw [← uh HCC]
   refine (uh C5).mono ?_
   rintro e w5 ⟨rfl,hb5⟩
   go_wp2
   go_ret
   exact ⟨rfl,(uh HB4).trans (hb5.mono (uh HB4).size)⟩
end Go.Proofs.YtajabbnlbopcbaaGreatDoor
namespace Go.Proofs.YtajabbnlbopcbaaGreatDoor
open Go.ChangeShapes Go.WideShapes Go.RowKit
set_option linter.unusedSimpArgs false
set_option linter.unusedVariables false
abbrev laid4 : List (String × DataW Unit):=Rows.fnRoundRow.laid
theorem gOps : Tryz.prog.globalNamed "loop.example/s0043/impl.operators" = some 1 := by kernel_rfl
theorem tOps : (Tryz.prog.globals[1]?).map (·.type) = some 146:=by kernel_rfl
theorem tPow : (Tryz.prog.globals[2]?).map (·.type) = some 162:=by kernel_rfl
theorem cOp : Tryz.prog.cellsOf 145 = 3:=by kernel_rfl
theorem cStr : Tryz.prog.cellsOf 9 = 1:=by kernel_rfl
theorem cInt : Tryz.prog.cellsOf 3 = 1:=by kernel_rfl
theorem cOps : Tryz.prog.cellsOf 146 = 42:=by kernel_rfl
theorem cU64 : Tryz.prog.cellsOf 156 = 1:=by kernel_rfl
theorem cPow : Tryz.prog.cellsOf 162 = 20:=by kernel_rfl
theorem lst3 {α : Type} {l : List α} (h : l.length = 3) : ∃ a b c,l = [a,b,c]:=by
 match l,h with
 | [a,b,c],_ => exact ⟨a,b,c,rfl⟩
def opD (x : ByteArray × Int × Int) : DataW Unit:=.agg [.lit (.string x.1.data.toList),.lit (.int .i64 x.2.1),.lit (.int .i64 x.2.2)]
theorem op_elem {enc : TypeId × Value → Unit} {w : World} {base : Nat} {sp : Nat → Bool} {held : Bool} {fuel : Nat} {cs : List Value} {y : DataW Unit × List MemPlace} (x : ByteArray × Int × Int)
  (h : DataW.trod enc Tryz.prog w base sp held fuel 145 cs = some y) (hy : y.1 = opD x) : cs = opCs x:=by
 obtain ⟨xs,n,_,hx,hl,hyl,hfl⟩:=DataW.trod_struct Tryz.underlying145 h
 rw [cOp] at hl
 obtain ⟨c0,c1,c2,rfl⟩:=lst3 hl
 obtain ⟨x0,x1,x2,rfl⟩:=lst3 (show xs.length = 3 from hyl)
 have f0 : DataW.trod enc Tryz.prog w base sp held n 9 (([c0,c1,c2].drop 0).take (Tryz.prog.cellsOf 9)) = some x0:=hfl 0 _ rfl
 have f1 : DataW.trod enc Tryz.prog w base sp held n 3 (([c0,c1,c2].drop 1).take (Tryz.prog.cellsOf 3)) = some x1:=hfl 1 _ rfl
 have f2 : DataW.trod enc Tryz.prog w base sp held n 3 (([c0,c1,c2].drop 2).take (Tryz.prog.cellsOf 3)) = some x2:=hfl 2 _ rfl
 rw [cStr] at f0
 rw [cInt] at f1 f2
 replace f0 : DataW.trod enc Tryz.prog w base sp held n 9 [c0] = some x0:=f0
 replace f1 : DataW.trod enc Tryz.prog w base sp held n 3 [c1] = some x1:=f1
 replace f2 : DataW.trod enc Tryz.prog w base sp held n 3 [c2] = some x2:=f2
 obtain ⟨s,e0,g0,_⟩:=DataW.trod_string Tryz.underlying9 f0
 obtain ⟨k1,e1,g1,_⟩:=DataW.trod_int Tryz.underlying3 f1
 obtain ⟨k2,e2,g2,_⟩:=DataW.trod_int Tryz.underlying3 f2
 subst g0 g1 g2
 subst hx
 simp only [opD,List.map_cons,List.map_nil,DataW.agg.injEq,List.cons.injEq,DataW.lit.injEq,Lit.string.injEq,Lit.int.injEq,true_and,and_true] at hy
 obtain ⟨q0,q1,q2⟩:=hy
 have es : s = x.1:=ByteArray.ext (Array.ext' q0)
 subst es q1 q2
 have e0' : c0 = _:=(List.cons.inj e0).1
 have e1' : c1 = _:=(List.cons.inj e1).1
 have e2' : c2 = _:=(List.cons.inj e2).1
 rw [e0',e1',e2']
 rfl
theorem chunks {α β : Type} (f : α → List β) (hf : ∀ x,(f x).length = 3) : ∀ (tab : List α) (l : List β),l.length = tab.length * 3 → (∀ i (h : i < tab.length),(l.drop (i * 3)).take 3 = f tab[i]) → l = tab.flatMap f
 | [],l,hl,_ => by simpa using hl
 | x :: tab,l,hl,h => by
  have h0:=h 0 (by simp)
  simp only [Nat.zero_mul,List.drop_zero,List.getElem_cons_zero] at h0
  have ih:=chunks f hf tab (l.drop 3) (by simp at hl ⊢; omega) (fun i hi => by
   have:=h (i + 1) (by simpa using hi)
   rw [List.drop_drop]
   simpa [Nat.add_mul,Nat.add_comm] using this)
  rw [List.flatMap_cons,← h0,← ih,List.take_append_drop]
theorem ops_data : (Rows.laid_loop_example_s0043_impl_operators : DataW Unit) = .agg (opTab.map opD):=rfl
theorem pow_data : (Rows.laid_internal_strconv_uint64pow10 : DataW Unit) = Lib.tabData .u64 Lib.pow10Tab:=rfl
theorem ops_cells {enc : TypeId × Value → Unit} {w : World} {base : Nat} {sp : Nat → Bool} {held : Bool} {fuel : Nat} {cs : List Value} {p : List MemPlace}
  (h : DataW.trod enc Tryz.prog w base sp held fuel 146 cs = some (.agg (opTab.map opD),p)) : cs = opCells:=by
 obtain ⟨xs,m,_,hx,hl,hn,hel⟩:=DataW.trod_array Tryz.underlying146 h
 rw [cOps] at hl
 rw [cOp] at hel
 simp only [Prod.mk.injEq,DataW.agg.injEq] at hx
 refine chunks opCs (fun _ => rfl) opTab cs hl (fun i hi => ?_)
 have hi' : i < 14:=hi
 have h1:=hel i hi'
 have hix : i < xs.length:=by omega
 rw [List.getElem?_eq_getElem hix] at h1
 refine op_elem opTab[i] h1 ?_
 have h2:=congrArg (fun l => l[i]?) hx.1
 simp only [List.getElem?_map,List.getElem?_eq_getElem hix,List.getElem?_eq_getElem hi,Option.map_some,Option.some.injEq] at h2
 exact h2.symm
theorem env_of_laid {W : World} (h : laidMetH Tryz.prog laid4 W) : Env W:=by
 rw [MakeChecks.laidMetH_plain _ _ _ (by kernel_rfl)] at h
 obtain ⟨ps,⟨g0,t0,cs0,f0,p0,q0,hg0,ht0,hv0,hd0,⟨g1,t1,cs1,f1,p1,q1,hg1,ht1,hv1,hd1,⟨g2,t2,cs2,f2,p2,q2,hg2,ht2,hv2,hd2,⟨g3,t3,cs3,f3,p3,q3,hg3,ht3,hv3,hd3,_,_⟩,_⟩,_⟩,_⟩,_,_⟩:=h
 obtain rfl:=Option.some.inj (gPow.symm.trans hg2)
 obtain rfl:=Option.some.inj (tPow.symm.trans ht2)
 obtain rfl:=Option.some.inj (gOps.symm.trans hg3)
 obtain rfl:=Option.some.inj (tOps.symm.trans ht3)
 rw [ops_data] at hd3
 rw [pow_data] at hd2
 have e3:=ops_cells hd3
 refine ⟨fun j v hv => ?_,?_,?_⟩
 ·have:=World.var?_cell hg3 hv3 j
  rw [Nat.zero_add,this]
  rw [← e3] at hv
  simpa using hv
 ·unfold Lib.TabIs
  rw [hv2,← Lib.cells_of_tab Tryz.underlying162 Tryz.underlying156 cU64 cPow hd2]
 ·have hv2':=hv2
  simp only [World.var?,hg2,Option.bind_some] at hv2'
  rcases Nat.lt_or_ge 2 W.heap.size with h | h
  ·exact h
  ·rw [Array.getElem?_eq_none h] at hv2'
   cases hv2'
end Go.Proofs.YtajabbnlbopcbaaGreatDoor
