import Derived.Test.YtlcgnbcgmljpaaaGreatFB12
import Derived.Test.YtlcgnbcgmljpaaaGreatMI17
import Derived.Test.YtlcgnbcgmljpaaaGreatMI23
namespace Go.Proofs.YtlcgnbcgmljpaaaGreat
open Go.RowKit
set_option linter.unusedSimpArgs false
set_option linter.unusedVariables false
def NM (L:List ByteArray):Prop:=∀j (h:j<L.length),Iy (L.take j) L[j]=true
theorem arb (L:List ByteArray) (j:Nat) (h:j<L.length):Iy (L.take j) L[j]=!Jk L j:=by
 unfold Iy Jk
 rw[List.getElem?_eq_getElem h]
 simp only
 rw[Bool.eq_iff_iff,Bool.and_eq_true,decide_eq_true_iff,Ya]
 rw[Bool.not_eq_true',Bool.or_eq_false_iff,decide_eq_false_iff_not,ac2 L j h,Bool.not_eq_false']
 rw[and_comm]
 refine and_congr_right (fun _=>?_)
 constructor
 ·rintro h1 ⟨i,hi,hij,e⟩
  exact h1 _ (by rw[List.mem_take_iff_getElem];exact⟨i,by omega,rfl⟩) e
 ·intro h1 x hx e
  rw[List.mem_take_iff_getElem] at hx
  obtain⟨i,hi,rfl⟩:=hx
  exact h1 ⟨i,by omega,by omega,e⟩
theorem a1j (L:List ByteArray):NM L↔(List.range L.length).all (fun j=>!Jk L j)=true:=by
 rw[List.all_eq_true]
 constructor
 ·intro h j hj
  rw[←arb L j (List.mem_range.1 hj)]
  exact h j _
 ·intro h j hj
  rw[arb L j hj]
  exact h j (List.mem_range.2 hj)
theorem ard (A B:List ByteArray):NM (A++B)↔NM A∧∀j (h:j<B.length),Iy (A++B.take j) B[j]=true:=by
 constructor
 ·intro h
  refine⟨fun j hj=>?_,fun j hj=>?_⟩
  ·have:=h j (by rw[List.length_append];omega)
   rwa[List.take_append_of_le_length (by omega),List.getElem_append_left hj] at this
  ·have:=h (A.length+j) (by rw[List.length_append];omega)
   rw[List.getElem_append_right (by omega)] at this
   simp only[Nat.add_sub_cancel_left] at this
   rwa[List.take_length_add_append] at this
 ·rintro⟨h1,h2⟩ j hj
  rw[List.length_append] at hj
  by_cases e:j<A.length
  ·rw[List.take_append_of_le_length (by omega),List.getElem_append_left e]
   exact h1 j e
  ·rw[List.getElem_append_right (by omega)]
   obtain⟨q,rfl⟩:∃q,j=A.length+q:=⟨j-A.length,by omega⟩
   simp only[Nat.add_sub_cancel_left]
   rw[List.take_length_add_append]
   exact h2 q (by omega)
theorem ag3 (pre:List ByteArray) (xs:List gy):(List.range xs.length).all (Gz pre xs)=true↔(∀t,t∈xs->t.type=1∨t.type=2)∧∀j (h:j<(xs.map gy.name).length),Iy (pre++(xs.map gy.name).take j) (xs.map gy.name)[j]=true:=by
 rw[List.all_eq_true]
 constructor
 ·intro h
  have hh:∀j (hj:j<xs.length),(xs[j].type=1∨xs[j].type=2)∧Iy (pre++(xs.map gy.name).take j) xs[j].name=true:=fun j hj=>by
   have h9:=h j (List.mem_range.2 hj)
   unfold Gz aai at h9
   rw[List.getElem?_eq_getElem hj] at h9
   simp only[Bool.and_eq_true,decide_eq_true_iff] at h9
   rw[List.map_take] at h9
   exact h9
  refine⟨fun t ht=>?_,fun j hj=>?_⟩
  ·obtain⟨j,hj,rfl⟩:=List.getElem_of_mem ht
   exact(hh j hj).1
  ·rw[List.length_map] at hj
   rw[List.getElem_map]
   exact(hh j hj).2
 ·rintro⟨h1,h2⟩ j hj
  rw[List.mem_range] at hj
  unfold Gz aai
  rw[List.getElem?_eq_getElem hj]
  simp only[Bool.and_eq_true,decide_eq_true_iff]
  have h9:=h2 j (by rw[List.length_map];exact hj)
  rw[List.getElem_map] at h9
  rw[List.map_take]
  exact⟨h1 _ (List.getElem_mem hj),h9⟩
theorem arf (pre:List ByteArray) (xs:List ByteArray):(List.range xs.length).all (Kw pre xs)=true↔∀j (h:j<xs.length),Iy (pre++xs.take j) xs[j]=true:=by
 rw[List.all_eq_true]
 constructor
 ·intro h j hj
  have h9:=h j (List.mem_range.2 hj)
  unfold Kw at h9
  rw[List.getElem?_eq_getElem hj] at h9
  exact h9
 ·intro h j hj
  rw[List.mem_range] at hj
  unfold Kw
  rw[List.getElem?_eq_getElem hj]
  exact h j hj
theorem au9 (k:ak):Hy k=true↔1<=k.outs.length∧(varsOf k).length<=1000∧(List.range (varsOf k).length).all (fun j=>!Jk (varsOf k) j)=true∧(k.ins++k.outs).all (fun t=>decide (1<=t.type∧t.type<=2))=true:=by
 unfold Hy
 rw[Bool.and_eq_true,Bool.and_eq_true,Bool.and_eq_true,decide_eq_true_iff,ag3,ag3,arf,←a1j]
 have hv:(varsOf k).length=k.ins.length+k.outs.length+k.ay.length:=by unfold varsOf;simp;omega
 have e1:NM (varsOf k)↔(NM (k.ins.map gy.name++k.outs.map gy.name)∧∀j (h:j<k.ay.length),Iy ((k.ins.map gy.name++k.outs.map gy.name)++k.ay.take j) k.ay[j]=true):=by unfold varsOf;exact ard _ _
 rw[e1,ard,hv]
 have e2:NM (k.ins.map gy.name)↔∀j (h:j<(k.ins.map gy.name).length),Iy ([]++(k.ins.map gy.name).take j) (k.ins.map gy.name)[j]=true:=by
  unfold NM
  simp only[List.nil_append]
 rw[←e2,List.all_append,Bool.and_eq_true,List.all_eq_true,List.all_eq_true]
 simp only[decide_eq_true_iff]
 have e3:∀xs:List gy,(∀t,t∈xs->t.type=1∨t.type=2)↔∀t,t∈xs->1<=t.type∧t.type<=2:=fun xs=>⟨fun h t ht=>by have:=h t ht;omega,fun h t ht=>by have:=h t ht;omega⟩
 rw[e3,e3]
 constructor
 ·rintro⟨⟨a1,a2⟩,⟨⟨b1,b2⟩,c1,c2⟩,d⟩
  exact⟨a1,a2,⟨⟨b2,c2⟩,d⟩,b1,c1⟩
 ·rintro⟨a1,a2,⟨⟨b2,c2⟩,d⟩,b1,c1⟩
  exact⟨⟨a1,a2⟩,⟨⟨b1,b2⟩,c1,c2⟩,d⟩
theorem ag4 (fs:List (List Int)) (cs aj insts:List Int) (hc:∀j,cs.getD j 0=((fs.getD j []).length:Int)) (q:Nat) (hq:q<=insts.length):((firstTo fs aj insts q).length:Int)=J8 cs aj.length insts q:=by
 induction q with
 | zero=>rw[Qn];rfl
 | succ q ih =>
  rw[Xe fs aj insts q (by omega),List.length_append,Int.natCast_add,ih (by omega),J8,hc]
  rw[List.getD_eq_getElem?_getD (l:=insts),List.getElem?_eq_getElem (by omega),Option.getD_some]
theorem ao4 (fs:List (List Int)) (aj insts:List Int) (q:Nat) (hq:q<insts.length):(firstTo fs aj insts q).length<=(firstTo fs aj insts (q+1)).length:=by
 rw[Xe fs aj insts q hq,List.length_append];omega
theorem arh (fs:List (List Int)) (aj insts:List Int) (d:Nat):∀q,q+d=insts.length->(firstTo fs aj insts q).length<=(firstTo fs aj insts insts.length).length:=by
 induction d with
 | zero=>intro q h;rw[←h];exact Nat.le_refl _
 | succ d ih=>intro q h;exact Nat.le_trans (ao4 fs aj insts q (by omega)) (ih (q+1) (by omega))
theorem axn (fs:List (List Int)) (k:ak):ownB fs k=true↔(k.aj.length<=1000∧k.insts.length<=1000)∧k.aj.all Si=true∧k.insts.all (fun g=>decide (0<=g∧g<(fs.length:Int)))=true∧(firstTo fs k.aj k.insts k.insts.length).length<=20000:=by
 have hm:k.aj.all Si=k.aj.all H9:=by congr 1;funext v;exact axa v
 rw[hm]
 constructor
 ·intro h
  have hl:=adb fs k h
  unfold ownB at h
  simp only[Bool.and_eq_true,List.all_eq_true,decide_eq_true_iff] at h
  obtain⟨h1,h2,h3⟩:=h
  refine⟨h1,List.all_eq_true.2 h2,List.all_eq_true.2 (fun g hg=>?_),hl⟩
  obtain⟨j,hj,rfl⟩:=List.getElem_of_mem hg
  have h9:=h3 j (List.mem_range.2 hj)
  unfold Gt at h9
  rw[List.getElem?_eq_getElem hj] at h9
  simp only[Bool.and_eq_true] at h9
  exact h9.1
 ·rintro⟨h1,h2,h3,h4⟩
  unfold ownB
  rw[Bool.and_eq_true,Bool.and_eq_true,decide_eq_true_iff]
  refine⟨h1,h2,List.all_eq_true.2 (fun j hj=>?_)⟩
  rw[List.mem_range] at hj
  unfold Gt
  rw[List.getElem?_eq_getElem hj]
  simp only[Bool.and_eq_true,decide_eq_true_iff]
  have h9:=List.all_eq_true.1 h3 _ (List.getElem_mem hj)
  refine⟨of_decide_eq_true h9,?_⟩
  exact Nat.le_trans (arh fs k.aj k.insts (k.insts.length-(j+1)) (j+1) (by omega)) h4
theorem ari (ks:List ak) (k:ak) (known:List Int):Ls ks k known=true↔acu ks k=true∧sumF (k.body.length+1) (costs k.insts known k.body)<=400000:=by
 rw[ag2]
 unfold Ls
 constructor
 ·intro h
  split at h
  ·rename_i t heq
   refine⟨⟨t,heq⟩,?_⟩
   rw[ady ks k known t heq]
   exact of_decide_eq_true h
  ·cases h
 ·rintro⟨⟨t,heq⟩,h⟩
  rw[heq]
  simp only
  rw[ady ks k known t heq] at h
  exact decide_eq_true h
theorem ava (ks:List ak) (k:ak) (known:List Int) (h:acu ks k=true):Jy ks k known=sumF (k.body.length+1) (costs k.insts known k.body):=by
 obtain⟨t,heq⟩:=(ag2 ks k).1 h
 rw[ady ks k known t heq]
 unfold Jy
 rw[heq]
def cAt (ks:List ak) (i:Nat):Int:=(Aq ks (i+1)).getD i 0
def bAt (ks:List ak) (i:Nat):Int:=(D5 ks (i+1)).getD i 0
theorem Zh (ks:List ak) (n j:Nat) (h:j<n):(Aq ks n).getD j 0=cAt ks j:=by
 induction n with
 | zero=>omega
 | succ n ih =>
  by_cases e:j=n
  ·subst e;rfl
  ·rw[Aq,List.getD_eq_getElem?_getD,List.getElem?_append_left (by rw[Fe];omega),←List.getD_eq_getElem?_getD]
   exact ih (by omega)
theorem al6 (ks:List ak) (n j:Nat) (h:j<n):(D5 ks n).getD j 0=bAt ks j:=by
 induction n with
 | zero=>omega
 | succ n ih =>
  by_cases e:j=n
  ·subst e;rfl
  ·rw[D5,List.getD_eq_getElem?_getD,List.getElem?_append_left (by rw[Gy];omega),←List.getD_eq_getElem?_getD]
   exact ih (by omega)
theorem ajz (ks:List ak) (i:Nat) (hi:i<ks.length):cAt ks i=Ph (J8 (Aq ks i) ks[i].aj.length ks[i].insts ks[i].insts.length):=by
 unfold cAt
 rw[Aq,List.getD_eq_getElem?_getD,List.getElem?_append_right (by rw[Fe];exact Nat.le_refl _),Fe,Nat.sub_self,List.getElem?_eq_getElem hi]
 rfl
theorem a1k (ks:List ak) (i:Nat) (hi:i<ks.length):bAt ks i=sumF (ks[i].body.length+1) (costs ks[i].insts (D5 ks i) ks[i].body):=by
 unfold bAt
 rw[D5,List.getD_eq_getElem?_getD,List.getElem?_append_right (by rw[Gy];exact Nat.le_refl _),Gy,Nat.sub_self,List.getElem?_eq_getElem hi]
 rfl
theorem aj0 (n:Int):Ph n<=20000↔n<=20000:=by unfold Ph;split<;>omega
theorem axo (n:Int) (h:n<=20000):Ph n=n:=by unfold Ph;rw[if_neg (by omega)]
theorem ag5 (ks:List ak) (i:Nat) (hi:i<ks.length):Bf ks i=true↔nameB ks[i].name=true∧Hy ks[i]=true∧((ks[i].aj.length<=1000∧ks[i].insts.length<=1000)∧ks[i].aj.all Si=true∧ks[i].insts.all (fun g=>decide (0<=g∧g<(i:Int)))=true)∧ks[i].body.length<=30000∧acu ks ks[i]=true∧newName ks i=true:=by
 unfold Bf newName acu
 rw[List.getElem?_eq_getElem hi,au9]
 simp only[Bool.and_eq_true,decide_eq_true_iff]
 constructor
 ·rintro⟨⟨⟨⟨⟨a1,a2⟩,a3⟩,a4⟩,a5⟩,b,c,d,e,f,g,h,j,l⟩
  exact⟨a1,⟨a2,c,d,e⟩,⟨⟨a3,a4⟩,f,g⟩,a5,⟨h,j,l⟩,b⟩
 ·rintro⟨a1,⟨a2,c,d,e⟩,⟨⟨a3,a4⟩,f,g⟩,a5,⟨h,j,l⟩,b⟩
  exact⟨⟨⟨⟨⟨a1,a2⟩,a3⟩,a4⟩,a5⟩,b,c,d,e,f,g,h,j,l⟩
def Same (ks:List ak) (i:Nat):Prop:=J5 ks i=D5 ks i∧∀j,(Aq ks i).getD j 0=(((Gu ks i).getD j []).length:Int)
theorem aj1 (ks:List ak) (i:Nat) (hi:i<ks.length) (hs:Same ks i):Qo ks i=true↔Bf ks i=true∧cAt ks i<=20000∧bAt ks i<=400000:=by
 obtain⟨s1,s2⟩:=hs
 have hsum:=ag4 (Gu ks i) (Aq ks i) ks[i].aj ks[i].insts s2 ks[i].insts.length (Nat.le_refl _)
 rw[ag5 ks i hi,ajz ks i hi,a1k ks i hi,aj0,←hsum]
 unfold Qo Qm
 rw[List.getElem?_eq_getElem hi]
 simp only[Bool.and_eq_true,decide_eq_true_iff]
 rw[axn,ari,s1,Nr]
 constructor
 ·rintro⟨⟨a,b,⟨c1,c2,c3,c4⟩,d,e1,e2⟩,f⟩
  exact⟨⟨a,b,⟨c1,c2,c3⟩,d,e1,f⟩,by omega,e2⟩
 ·rintro⟨⟨a,b,⟨c1,c2,c3⟩,d,e1,f⟩,c4,e2⟩
  exact⟨⟨a,b,⟨c1,c2,c3,by omega⟩,d,e1,e2⟩,f⟩
theorem arj (ks:List ak) (i:Nat) (hi:i<ks.length) (hs:Same ks i) (hok:Qo ks i=true):Same ks (i+1):=by
 have h0:=(aj1 ks i hi hs).1 hok
 have hcl:=(ag5 ks i hi).1 h0.1
 obtain⟨s1,s2⟩:=hs
 constructor
 ·rw[J5,D5,s1,List.getElem?_eq_getElem hi]
  show D5 ks i++[Jy ks ks[i] (D5 ks i)]=_
  rw[ava ks ks[i] _ hcl.2.2.2.2.1]
 ·intro j
  have hsum:=ag4 (Gu ks i) (Aq ks i) ks[i].aj ks[i].insts s2 ks[i].insts.length (Nat.le_refl _)
  have hc:=h0.2.1
  rw[ajz ks i hi,aj0] at hc
  by_cases e:j<i
  ·rw[Zh ks (i+1) j (by omega),←Zh ks i j e,s2 j]
   rw[Gu,List.getD_eq_getElem?_getD (l:=Gu ks i++_),List.getElem?_append_left (by rw[Nr];exact e),←List.getD_eq_getElem?_getD]
  ·by_cases e2:j=i
   ·subst e2
    rw[Zh ks (j+1) j (by omega),ajz ks j hi,axo _ hc,←hsum]
    rw[Gu,List.getD_eq_getElem?_getD (l:=Gu ks j++_),List.getElem?_append_right (by rw[Nr];exact Nat.le_refl _),Nr,Nat.sub_self,List.getElem?_eq_getElem hi]
    rfl
   ·rw[List.getD_eq_getElem?_getD,List.getElem?_eq_none (by rw[Fe];omega),List.getD_eq_getElem?_getD,List.getElem?_eq_none (by rw[Nr];omega)]
    rfl
theorem ark (ks:List ak):Same ks 0:=⟨rfl,fun j=>by simp[Aq,Gu]⟩
theorem al7 (ks:List ak) (n:Nat) (hn:n<=ks.length) (h:∀j,j<n->Qo ks j=true):Same ks n:=by
 induction n with
 | zero=>exact ark ks
 | succ n ih=>exact arj ks n (by omega) (ih (by omega) (fun j hj=>h j (by omega))) (h n (by omega))
theorem a1l (ks:List ak) (n:Nat) (hn:n<=ks.length):(∀j,j<n->Qo ks j=true)↔∀j,j<n->(Bf ks j=true∧cAt ks j<=20000∧bAt ks j<=400000):=by
 induction n with
 | zero=>exact⟨fun _ j hj=>absurd hj (Nat.not_lt_zero _),fun _ j hj=>absurd hj (Nat.not_lt_zero _)⟩
 | succ n ih =>
  have ih:=ih (by omega)
  constructor
  ·intro h j hj
   by_cases e:j=n
   ·subst e
    exact(aj1 ks j (by omega) (al7 ks j (by omega) (fun q hq=>h q (by omega)))).1 (h j hj)
   ·exact ih.1 (fun q hq=>h q (by omega)) j (by omega)
  ·intro h j hj
   have h9:=ih.2 (fun q hq=>h q (by omega))
   by_cases e:j=n
   ·subst e
    exact(aj1 ks j (by omega) (al7 ks j (by omega) h9)).2 (h j hj)
   ·exact h9 j (by omega)
theorem aep (ks:List ak):(Gv ks&&decide (1<=ks.length))=aad ks:=by
 rw[Bool.eq_iff_iff]
 unfold Gv aad
 simp only[Bool.and_eq_true,decide_eq_true_iff]
 rw[List.all_eq_true,List.all_eq_true,List.all_eq_true,List.all_eq_true]
 simp only[List.mem_range,decide_eq_true_iff]
 have hc:(∀x,x∈Aq ks ks.length->x<=20000)↔∀j,j<ks.length->cAt ks j<=20000:=by
  constructor
  ·intro h j hj
   rw[←Zh ks ks.length j hj,List.getD_eq_getElem?_getD,List.getElem?_eq_getElem (by rw[Fe];exact hj)]
   exact h _ (List.getElem_mem _)
  ·intro h x hx
   obtain⟨j,hj,rfl⟩:=List.getElem_of_mem hx
   rw[Fe] at hj
   have:=h j hj
   rwa[←Zh ks ks.length j hj,List.getD_eq_getElem?_getD,List.getElem?_eq_getElem (by rw[Fe];exact hj)] at this
 have hb:(∀x,x∈D5 ks ks.length->x<=400000)↔∀j,j<ks.length->bAt ks j<=400000:=by
  constructor
  ·intro h j hj
   rw[←al6 ks ks.length j hj,List.getD_eq_getElem?_getD,List.getElem?_eq_getElem (by rw[Gy];exact hj)]
   exact h _ (List.getElem_mem _)
  ·intro h x hx
   obtain⟨j,hj,rfl⟩:=List.getElem_of_mem hx
   rw[Gy] at hj
   have:=h j hj
   rwa[←al6 ks ks.length j hj,List.getD_eq_getElem?_getD,List.getElem?_eq_getElem (by rw[Gy];exact hj)] at this
 rw[hc,hb]
 have ha:=a1l ks ks.length (Nat.le_refl _)
 constructor
 ·rintro⟨⟨h1,h2⟩,h3⟩
  have h4:=ha.1 h2
  exact⟨⟨h3,h1⟩,fun j hj=>(h4 j hj).1,fun j hj=>(h4 j hj).2.1,fun j hj=>(h4 j hj).2.2⟩
 ·rintro⟨⟨h3,h1⟩,h4,h5,h6⟩
  exact⟨⟨h1,ha.2 (fun j hj=>⟨h4 j hj,h5 j hj,h6 j hj⟩)⟩,h3⟩
def PL.Xh:PL->BF
 | ⟨none⟩=>.nil
 | ⟨some (s, r, none)⟩=>.node s .nil .nil r.Xh
 | ⟨some (s, r, some (_, a, _, b))⟩=>.node s a.Xh b.Xh r.Xh
theorem avb {b:ByteArray} (h:b.size=0):b=⟨#[]⟩:=by
 obtain⟨d⟩:=b
 have h9:d.size=0:=h
 rw[Array.eq_empty_of_size_eq_zero h9]
theorem awi {ks:List ak} {k:ak} {s:dh} (h:ny ks k s=true) (hk:s.kind=5∨s.kind=6):s=⟨s.kind,⟨#[]⟩,0,[],[],[]⟩:=by
 unfold ny at h
 by_cases h1:¬(s.kind=1∨s.kind=4)∧s.name.size≠0
 ·rw[if_pos h1] at h;cases h
 rw[if_neg h1] at h
 by_cases h2:s.kind≠2∧s.kind≠3∧s.at_≠0
 ·rw[if_pos h2] at h;cases h
 rw[if_neg h2] at h
 by_cases h3:s.kind≠3∧(s.outs.length≠0∨s.args.length≠0)
 ·rw[if_pos h3] at h;cases h
 rw[if_neg h3] at h
 by_cases h4:s.kind≠1∧s.kind≠2∧s.code.length≠0
 ·rw[if_pos h4] at h;cases h
 have e1:s.name=⟨#[]⟩:=avb (by omega)
 have e2:s.at_=0:=by omega
 have e3:s.outs=[]:=List.eq_nil_of_length_eq_zero (by omega)
 have e4:s.args=[]:=List.eq_nil_of_length_eq_zero (by omega)
 have e5:s.code=[]:=List.eq_nil_of_length_eq_zero (by omega)
 obtain⟨kd,nm,at9,ou,co,ar⟩:=s
 simp only at e1 e2 e3 e4 e5
 subst e1 e2 e3 e4 e5
 rfl
theorem axp {ks:List ak} {k:ak} (t:PL) (h:t.wf) (hs:∀s,s∈t.flat->ny ks k s=true):t.Xh.flat=t.flat∧t.Xh.wf:=by
 induction t using PL.ind with
 | nil=>exact⟨rfl,trivial⟩
 | leaf s r ih =>
  obtain⟨⟨h1,h2,h3⟩,h4⟩:=h
  obtain⟨g1,g2⟩:=ih h4 (fun x hx=>hs x (by simp[PL.flat,hx]))
  refine⟨?_,h2,h3,fun _=>⟨rfl,rfl⟩,trivial,trivial,g2⟩
  show (BF.node s .nil .nil r.Xh).flat=_
  rw[jd,if_neg h1,g1]
  rfl
 | br s a el b en r iha ihb ihr =>
  obtain⟨⟨h1,h2,h3⟩,h4,h5,h6⟩:=h
  obtain⟨a1,a2⟩:=iha h4 (fun x hx=>hs x (by simp[PL.flat,hx]))
  obtain⟨b1,b2⟩:=ihb h5 (fun x hx=>hs x (by simp[PL.flat,hx]))
  obtain⟨r1,r2⟩:=ihr h6 (fun x hx=>hs x (by simp[PL.flat,hx]))
  have e1:=awi (hs el (by simp[PL.flat])) (Or.inl h2)
  have e2:=awi (hs en (by simp[PL.flat])) (Or.inr h3)
  rw[h2] at e1
  rw[h3] at e2
  refine⟨?_,by rw[h1];decide,by rw[h1];decide,fun h9=>absurd h1 h9,a2,b2,r2⟩
  show (BF.node s a.Xh b.Xh r.Xh).flat=_
  rw[jd,if_pos h1,a1,b1,r1,PL.flat,e1,e2]
  rfl
theorem axq {ks:List ak} {i:Nat} {k:ak} (hk:ks[i]?=some k) (h:Bf ks i=true):∃t:BF,t.wf∧t.flat=k.body∧t.flat.length<=1000000:=by
 unfold Bf at h
 rw[hk] at h
 simp only[Bool.and_eq_true,decide_eq_true_iff] at h
 obtain⟨⟨_,hlen⟩,_,_,_,_,_,_,hst,hne,_⟩:=h
 obtain⟨t,h1,h2,_⟩:=agz (k.body.length+1) k.body 0 (Nat.lt_succ_self _) hne (Or.inl (by omega))
 obtain⟨g1,g2⟩:=axp (ks:=ks) (k:=k) t h2 (fun s hs=>List.all_eq_true.1 hst s (by rw[←h1];exact hs))
 exact⟨t.Xh,g2,g1.trans h1,by rw[g1,h1];omega⟩
theorem aw8 {ks:List ak} (h:(Gv ks&&decide (1<=ks.length))=true):∃ts:List BF,ts.length=ks.length∧∀i (h1:i<ts.length) (h2:i<ks.length),ts[i].wf∧ts[i].flat=ks[i].body∧ts[i].flat.length<=1000000:=by
 rw[aep] at h
 unfold aad at h
 simp only[Bool.and_eq_true] at h
 have hall:∀i (hi:i<ks.length),∃t:BF,t.wf∧t.flat=ks[i].body∧t.flat.length<=1000000:=fun i hi=>axq (List.getElem?_eq_getElem hi) (List.all_eq_true.1 h.2.1 i (List.mem_range.2 hi))
 clear h
 have key:∀(l:List ak),(∀i (hi:i<l.length),∃t:BF,t.wf∧t.flat=l[i].body∧t.flat.length<=1000000)->∃ts:List BF,ts.length=l.length∧∀i (h1:i<ts.length) (h2:i<l.length),ts[i].wf∧ts[i].flat=l[i].body∧ts[i].flat.length<=1000000:=by
  intro l
  induction l with
  | nil=>intro _;exact⟨[],rfl,fun i h1=>absurd h1 (Nat.not_lt_zero _)⟩
  | cons k l ih =>
   intro hl
   obtain⟨t,ht⟩:=hl 0 (by simp)
   obtain⟨ts,h1,h2⟩:=ih (fun i hi=>hl (i+1) (by simpa using hi))
   refine⟨t::ts,by simp[h1],fun i g1 g2=>?_⟩
   cases i with
   | zero=>exact ht
   | succ i=>exact h2 i (by simpa using g1) (by simpa using g2)
 exact key ks hall
end Go.Proofs.YtlcgnbcgmljpaaaGreat
