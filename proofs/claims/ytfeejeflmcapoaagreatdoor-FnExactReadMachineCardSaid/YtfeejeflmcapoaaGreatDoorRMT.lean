import Derived.Test.YtfeejeflmcapoaaGreatDoorRows
import Derived.Test.YtfeejeflmcapoaaGreatDoorRI3
import Derived.Lib.LaidTab
import Derived.MakeChecks
import Derived.OpenShut
set_option linter.unusedSimpArgs false
set_option linter.unusedVariables false
namespace Go.Proofs.YtfeejeflmcapoaaGreatDoor
open Go.ChangeShapes Go.WideShapes Go.RowKit
abbrev ajn:List (String×DataW Unit):=Rows.fnExactReadMachineRow.laid
theorem atp : Tryz.prog.globalNamed "loop.example/s0043/impl.operators" = some 3 := by kernel_rfl
theorem bdt : Tryz.prog.globalNamed "math/bits.deBruijn64tab" = some 8 := by kernel_rfl
theorem bae : Tryz.prog.globalNamed "strconv.ErrSyntax" = some 1 := by kernel_rfl
theorem baf : Tryz.prog.globalNamed "strconv.ErrRange" = some 2 := by kernel_rfl
theorem bdu:(Tryz.prog.globals[1]?).map (·.type)=some 91:=by kernel_rfl
theorem bdv:(Tryz.prog.globals[2]?).map (·.type)=some 91:=by kernel_rfl
theorem az1:(Tryz.prog.globals[3]?).map (·.type)=some 161:=by kernel_rfl
theorem bdw:(Tryz.prog.globals[6]?).map (·.type)=some 204:=by kernel_rfl
theorem cOp:Tryz.prog.cellsOf 160=3:=by kernel_rfl
theorem cStr:Tryz.prog.cellsOf 9=1:=by kernel_rfl
theorem bdx:Tryz.prog.cellsOf 3=1:=by kernel_rfl
theorem bdy:Tryz.prog.cellsOf 161=42:=by kernel_rfl
theorem bdz:Tryz.prog.cellsOf 153=1:=by kernel_rfl
theorem bd0:Tryz.prog.cellsOf 204=20:=by kernel_rfl
theorem bag {α:Type} {l:List α} (h:l.length=3):∃a b c,l=[a,b,c]:=by
 match l,h with
 | [a,b,c],_=>exact⟨a,b,c,rfl⟩
def opD (x:dh×Int×Int):DataW Unit:=.agg [.lit (.string x.1.data.toList),.lit (.int .i64 x.2.1),.lit (.int .i64 x.2.2)]
theorem a5y {enc:TypeId×Value->Unit} {w:cu} {base:Nat} {sp:Nat->Bool} {held:Bool} {fuel:Nat} {cs:List Value} {y:DataW Unit×List MemPlace} (x:dh×Int×Int)
  (h:DataW.trod enc Tryz.prog w base sp held fuel 160 cs=some y) (hy:y.1=opD x):cs=a1p x:=by
 obtain⟨xs,n,_,hx,hl,hyl,hfl⟩:=DataW.trod_struct Tryz.underlying160 h;rw[cOp] at hl;obtain⟨c0,c1,c2,rfl⟩:=bag hl;obtain⟨x0,x1,x2,rfl⟩:=bag (show xs.length=3 from hyl);have f0:DataW.trod enc Tryz.prog w base sp held n 9 (([c0,c1,c2].drop 0).take (Tryz.prog.cellsOf 9))=some x0:=hfl 0 _ rfl;have f1:DataW.trod enc Tryz.prog w base sp held n 3 (([c0,c1,c2].drop 1).take (Tryz.prog.cellsOf 3))=some x1:=hfl 1 _ rfl;have f2:DataW.trod enc Tryz.prog w base sp held n 3 (([c0,c1,c2].drop 2).take (Tryz.prog.cellsOf 3))=some x2:=hfl 2 _ rfl;rw[cStr] at f0;rw[bdx] at f1 f2;replace f0:DataW.trod enc Tryz.prog w base sp held n 9 [c0]=some x0:=f0;replace f1:DataW.trod enc Tryz.prog w base sp held n 3 [c1]=some x1:=f1;replace f2:DataW.trod enc Tryz.prog w base sp held n 3 [c2]=some x2:=f2;obtain⟨s,e0,g0,_⟩:=DataW.trod_string Tryz.underlying9 f0;obtain⟨k1,e1,g1,_⟩:=DataW.trod_int Tryz.underlying3 f1;obtain⟨k2,e2,g2,_⟩:=DataW.trod_int Tryz.underlying3 f2;subst g0 g1 g2;subst hx;simp only[opD,Ai,Fv,DataW.agg.injEq,List.cons.injEq,DataW.lit.injEq,Lit.string.injEq,Lit.int.injEq,true_and,and_true] at hy;obtain⟨q0,q1,q2⟩:=hy;have es:s=x.1:=ByteArray.ext (Array.ext' q0);subst es q1 q2;have e0':c0=_:=(List.cons.inj e0).1;have e1':c1=_:=(List.cons.inj e1).1;have e2':c2=_:=(List.cons.inj e2).1;rw[e0',e1',e2'];rfl
theorem chunks {α β:Type} (f:α->List β) (hf:∀x,(f x).length=3):∀(tab:List α) (l:List β),l.length=tab.length*3->(∀i (h:i<tab.length),(l.drop (i*3)).take 3=f tab[i])->l=tab.flatMap f
 | [],l,hl,_=>by simpa using hl
 | x::tab,l,hl,h=>by
  have h0:=h 0 (by simp);simp only[Nat.zero_mul,List.drop_zero,og] at h0
  have ih:=chunks f hf tab (l.drop 3) (by simp at hl ⊢;omega) (fun i hi=>by
   have:=h (i+1) (by simpa using hi);rw[List.drop_drop];simpa[Nat.add_mul,Nat.add_comm] using this)
  rw[List.flatMap_cons,←h0,←ih,O8]
theorem a2f:(Rows.laid_loop_example_s0043_impl_operators:DataW Unit)=.agg (ahe.map opD):=rfl
theorem a2g:(Rows.laid_internal_strconv_uint64pow10:DataW Unit)=Lib.tabData .u64 Lib.pow10Tab:=rfl
theorem axw {enc:TypeId×Value->Unit} {w:cu} {base:Nat} {sp:Nat->Bool} {held:Bool} {fuel:Nat} {cs:List Value} {p:List MemPlace}
  (h:DataW.trod enc Tryz.prog w base sp held fuel 161 cs=some (.agg (ahe.map opD),p)):cs=Fq:=by
 obtain⟨xs,m,_,hx,hl,hn,hel⟩:=DataW.trod_array Tryz.underlying161 h;rw[bdy] at hl;rw[cOp] at hel;simp only[Prod.mk.injEq,DataW.agg.injEq] at hx;refine chunks a1p (fun _=>rfl) ahe cs hl (fun i hi=>?_);have hi':i<14:=hi;have h1:=hel i hi';have hix:i<xs.length:=by omega
 rw[jy hix] at h1;refine a5y ahe[i] h1 ?_;have h2:=ni (fun l=>l[i]?) hx.1;simp only[List.getElem?_map,jy hix,jy hi,Option.map_some,uw] at h2;exact h2.symm
theorem axx {H:Type} {enc:TypeId×Value->H} {P:Program} {w:cu} {base:Nat} {sp:Nat->Bool} {held:Bool} {fuel:Nat} {t:TypeId} {cs:List Value} {ms:_} {n:String} {d:DataW H} {p:List MemPlace} (hu:P.underlying t=some (.interface ms)) (h:DataW.trod enc P w base sp held fuel t cs=some (.iface n d,p)):∃u v,cs=[.iface u v]:=by
 cases fuel with
 | zero=>simp[DataW.trod] at h
 | succ f =>
  unfold DataW.trod at h;rw[hu] at h
  match cs,h with
  | [],h=>cases h
  | [.iface u v],_=>exact⟨u,v,rfl⟩
  | x::y::r,h=>simp at h
  | [.nilIface],h=>simp at h
  | [x],h=>cases x<;>simp at h ⊢
theorem apm {W:cu} {cs:Array Value} {g:Nat} {nm:String} {fuel:Nat} {p:List MemPlace} {n:String} {d:DataW Unit} (hg:Tryz.prog.globalNamed nm=some g) (hv:W.var? Tryz.prog nm=some cs) (hd:DataW.trod (fun _=>()) Tryz.prog W 0 (fun _=>true) false fuel 91 cs.toList=some (.iface n d,p)):∃ev,W.cell? ⟨g,0,none⟩=some ev/\(ev=.nilIface\/∃te pe,ev=.iface te pe):=by
 obtain⟨u,v,h⟩:=axx Tryz.underlying91 hd;refine⟨.iface u v,?_,Or.inr ⟨u,v,rfl⟩⟩;have h9:=World.var?_cell hg hv 0;rw[h9,←Array.getElem?_toList,h];rfl
theorem aqb {W:cu} (h:laidMetH Tryz.prog ajn W):Env W/\(∃ev,W.cell? ⟨1,0,none⟩=some ev/\(ev=.nilIface\/∃te pe,ev=.iface te pe))/\∃ev,W.cell? ⟨2,0,none⟩=some ev/\(ev=.nilIface\/∃te pe,ev=.iface te pe):=by
 rw[MakeChecks.laidMetH_plain _ _ _ (by kernel_rfl)] at h;obtain⟨ps,⟨g0,t0,cs0,f0,p0,q0,hg0,ht0,hv0,hd0,⟨g1,t1,cs1,f1,p1,q1,hg1,ht1,hv1,hd1,⟨g2,t2,cs2,f2,p2,q2,hg2,ht2,hv2,hd2,⟨g3,t3,cs3,f3,p3,q3,hg3,ht3,hv3,hd3,⟨g4,t4,cs4,f4,p4,q4,hg4,ht4,hv4,hd4,⟨g5,t5,cs5,f5,p5,q5,hg5,ht5,hv5,hd5,⟨g6,t6,Pe,f6,p6,q6,hg6,ht6,hv6,hd6,_,_⟩,_⟩,_⟩,_⟩,_⟩,_⟩,_⟩,_,_⟩:=h;obtain rfl:=Gv (a9u.symm.trans hg2);obtain rfl:=Gv (bdw.symm.trans ht2);obtain rfl:=Gv (atp.symm.trans hg6);obtain rfl:=Gv (az1.symm.trans ht6);obtain rfl:=Gv (baf.symm.trans hg4);obtain rfl:=Gv (bdv.symm.trans ht4);obtain rfl:=Gv (bae.symm.trans hg5);obtain rfl:=Gv (bdu.symm.trans ht5);rw[a2f] at hd6;rw[a2g] at hd2;have e6:=axw hd6;refine⟨⟨fun j v hv=>?_,?_,?_⟩,apm bae hv5 hd5,apm baf hv4 hd4⟩
 ·have:=World.var?_cell hg6 hv6 j
  rw[Ba,this];rw[←e6] at hv;simpa using hv
 ·unfold Lib.TabIs
  rw[hv2,←Lib.cells_of_tab Tryz.underlying204 Tryz.underlying153 bdz bd0 hd2]
 ·obtain rfl:=Gv (bdt.symm.trans hg1)
  have a2h:=hv1;simp only[World.var?,hg1,Option.bind_some] at a2h;rcases Nat.lt_or_ge 8 W.heap.size with h|h
  ·exact h
  ·rw[Array.getElem?_eq_none h] at a2h
   cases a2h
end Go.Proofs.YtfeejeflmcapoaaGreatDoor
