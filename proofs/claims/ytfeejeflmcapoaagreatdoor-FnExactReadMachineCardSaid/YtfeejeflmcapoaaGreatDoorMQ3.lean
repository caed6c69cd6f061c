import Derived.Test.YtfeejeflmcapoaaGreatDoorMI21
import Derived.Test.YtfeejeflmcapoaaGreatDoorMI17
set_option linter.unusedSimpArgs false
set_option linter.unusedVariables false
namespace Go.Proofs.YtfeejeflmcapoaaGreatDoor
open Go.RowKit
def NM (L:List dh):Prop:=∀j (h:j<L.length),Sv (L.take j) L[j]=true
theorem awt (L:List dh) (j:Nat) (h:j<L.length):Sv (L.take j) L[j]=!Qk L j:=by
 unfold Sv Qk;rw[jy h];simp only;rw[Oc,uq,Eh,acn];rw[Bool.not_eq_true',Bool.or_eq_false_iff,Nl,ahl L j h,Bool.not_eq_false'];rw[and_comm];refine and_congr_right (fun _=>?_);constructor
 ·rintro h1 ⟨i,hi,hij,e⟩
  exact h1 _ (by rw[List.mem_take_iff_getElem];exact⟨i,by omega,rfl⟩) e
 ·intro h1 x hx e
  rw[List.mem_take_iff_getElem] at hx;obtain⟨i,hi,rfl⟩:=hx;exact h1 ⟨i,by omega,by omega,e⟩
theorem a9e (L:List dh):NM L↔(List.range L.length).all (fun j=>!Qk L j)=true:=by
 rw[xw];constructor
 ·intro h j hj
  rw[←awt L j (uw.1 hj)];exact h j _
 ·intro h j hj
  rw[awt L j hj];exact h j (uw.2 hj)
theorem awu (A B:List dh):NM (A++B)↔NM A∧∀j (h:j<B.length),Sv (A++B.take j) B[j]=true:=by
 constructor
 ·intro h
  refine⟨fun j hj=>?_,fun j hj=>?_⟩
  ·have:=h j (by rw[je];omega)
   rwa[List.take_append_of_le_length (by omega),Rh hj] at this
  ·have:=h (A.length+j) (by rw[je];omega)
   rw[List.getElem_append_right (by omega)] at this;simp only[Nat.add_sub_cancel_left] at this;rwa[List.take_length_add_append] at this
 ·rintro⟨h1,h2⟩ j hj
  rw[je] at hj
  by_cases e:j<A.length
  ·rw[List.take_append_of_le_length (by omega),Rh e]
   exact h1 j e
  ·rw[List.getElem_append_right (by omega)]
   obtain⟨q,rfl⟩:∃q,j=A.length+q:=⟨j-A.length,by omega⟩;simp only[Nat.add_sub_cancel_left];rw[List.take_length_add_append];exact h2 q (by omega)
theorem al4 (pre:List dh) (xs:List jw):(List.range xs.length).all (Pv pre xs)=true↔(∀t,t∈xs->t.type=1∨t.type=2)∧∀j (h:j<(xs.map jw.name).length),Sv (pre++(xs.map jw.name).take j) (xs.map jw.name)[j]=true:=by
 rw[xw];constructor
 ·intro h
  have hh:∀j (hj:j<xs.length),(xs[j].type=1∨xs[j].type=2)∧Sv (pre++(xs.map jw.name).take j) xs[j].name=true:=fun j hj=>by
   have h9:=h j (uw.2 hj);unfold Pv aek at h9;rw[jy hj] at h9;simp only[uq,Eh] at h9;rw[List.map_take] at h9;exact h9
  refine⟨fun t ht=>?_,fun j hj=>?_⟩
  ·obtain⟨j,hj,rfl⟩:=List.getElem_of_mem ht
   exact(hh j hj).1
  ·rw[Ad] at hj
   rw[List.getElem_map];exact(hh j hj).2
 ·rintro⟨h1,h2⟩ j hj
  rw[uw] at hj;unfold Pv aek;rw[jy hj];simp only[uq,Eh];have h9:=h2 j (by rw[Ad];exact hj);rw[List.getElem_map] at h9;rw[List.map_take];exact⟨h1 _ (pz hj),h9⟩
theorem awv (pre:List dh) (xs:List dh):(List.range xs.length).all (U4 pre xs)=true↔∀j (h:j<xs.length),Sv (pre++xs.take j) xs[j]=true:=by
 rw[xw];constructor
 ·intro h j hj
  have h9:=h j (uw.2 hj);unfold U4 at h9;rw[jy hj] at h9;exact h9
 ·intro h j hj
  rw[uw] at hj;unfold U4;rw[jy hj];exact h j hj
theorem a0g (k:dw):Qu k=true↔1<=k.ak.length∧(varsOf k).length<=1000∧(List.range (varsOf k).length).all (fun j=>!Qk (varsOf k) j)=true∧(k.ins++k.ak).all (fun t=>decide (1<=t.type∧t.type<=2))=true:=by
 unfold Qu;rw[uq,uq,uq,Eh,al4,al4,awv,←a9e];have hv:(varsOf k).length=k.ins.length+k.ak.length+k.iq.length:=by unfold varsOf;simp;omega
 have e1:NM (varsOf k)↔(NM (k.ins.map jw.name++k.ak.map jw.name)∧∀j (h:j<k.iq.length),Sv ((k.ins.map jw.name++k.ak.map jw.name)++k.iq.take j) k.iq[j]=true):=by unfold varsOf;exact awu _ _
 rw[e1,awu,hv]
 have e2:NM (k.ins.map jw.name)↔∀j (h:j<(k.ins.map jw.name).length),Sv ([]++(k.ins.map jw.name).take j) (k.ins.map jw.name)[j]=true:=by
  unfold NM;simp only[Gu]
 rw[←e2,List.all_append,uq,xw,xw];simp only[Eh];have e3:∀xs:List jw,(∀t,t∈xs->t.type=1∨t.type=2)↔∀t,t∈xs->1<=t.type∧t.type<=2:=fun xs=>⟨fun h t ht=>by have:=h t ht;omega,fun h t ht=>by have:=h t ht;omega⟩
 rw[e3,e3];constructor
 ·rintro⟨⟨a1,a2⟩,⟨⟨b1,b2⟩,c1,c2⟩,d⟩
  exact⟨a1,a2,⟨⟨b2,c2⟩,d⟩,b1,c1⟩
 ·rintro⟨a1,a2,⟨⟨b2,c2⟩,d⟩,b1,c1⟩
  exact⟨⟨a1,a2⟩,⟨⟨b1,b2⟩,c1,c2⟩,d⟩
theorem al5 (fs:List (List Int)) (cs eu au:List Int) (hc:∀j,cs.getD j 0=((fs.getD j []).length:Int)) (q:Nat) (hq:q<=au.length):((firstTo fs eu au q).length:Int)=U3 cs eu.length au q:=by
 induction q with
 | zero=>rw[Y5];rfl
 | succ q ih =>
  rw[abt fs eu au q (by omega),je,Int.natCast_add,ih (by omega),U3,hc];rw[yw (l:=au),jy (by omega),Kz]
theorem atx (fs:List (List Int)) (eu au:List Int) (q:Nat) (hq:q<au.length):(firstTo fs eu au q).length<=(firstTo fs eu au (q+1)).length:=by
 rw[abt fs eu au q hq,je];omega
theorem aww (fs:List (List Int)) (eu au:List Int) (d:Nat):∀q,q+d=au.length->(firstTo fs eu au q).length<=(firstTo fs eu au au.length).length:=by
 induction d with
 | zero=>intro q h;rw[←h];exact gq _
 | succ d ih=>intro q h;exact jq (atx fs eu au q (by omega)) (ih (q+1) (by omega))
theorem a4x (fs:List (List Int)) (k:dw):ownB fs k=true↔(k.eu.length<=1000∧k.au.length<=1000)∧k.eu.all Xc=true∧k.au.all (fun g=>decide (0<=g∧g<(fs.length:Int)))=true∧(firstTo fs k.eu k.au k.au.length).length<=20000:=by
 have hm:k.eu.all Xc=k.eu.all Qx:=by congr 1;funext v;exact aqy v
 rw[hm];constructor
 ·intro h
  have hl:=aif fs k h;unfold ownB at h;simp only[uq,xw,Eh] at h;obtain⟨h1,h2,h3⟩:=h;refine⟨h1,xw.2 h2,xw.2 (fun g hg=>?_),hl⟩;obtain⟨j,hj,rfl⟩:=List.getElem_of_mem hg;have h9:=h3 j (uw.2 hj);unfold Pm at h9;rw[jy hj] at h9;simp only[uq] at h9;exact h9.1
 ·rintro⟨h1,h2,h3,h4⟩
  unfold ownB;rw[uq,uq,Eh];refine⟨h1,h2,xw.2 (fun j hj=>?_)⟩;rw[uw] at hj;unfold Pm;rw[jy hj];simp only[uq,Eh];have h9:=xw.1 h3 _ (pz hj);refine⟨xq h9,?_⟩;exact jq (aww fs k.eu k.au (k.au.length-(j+1)) (j+1) (by omega)) h4
theorem awx (ks:List dw) (k:dw) (known:List Int):Vx ks k known=true↔ag8 ks k=true∧sumF (k.body.length+1) (costs k.au known k.body)<=400000:=by
 rw[al3];unfold Vx;constructor
 ·intro h
  split at h
  ·rename_i t heq
   refine⟨⟨t,heq⟩,?_⟩;rw[ail ks k known t heq];exact xq h
  ·cases h
 ·rintro⟨⟨t,heq⟩,h⟩
  rw[heq];simp only;rw[ail ks k known t heq] at h;exact jf h
theorem a0h (ks:List dw) (k:dw) (known:List Int) (h:ag8 ks k=true):Un ks k known=sumF (k.body.length+1) (costs k.au known k.body):=by
 obtain⟨t,heq⟩:=(al3 ks k).1 h;rw[ail ks k known t heq];unfold Un;rw[heq]
def cAt (ks:List dw) (i:Nat):Int:=(Iq ks (i+1)).getD i 0
def bAt (ks:List dw) (i:Nat):Int:=(L6 ks (i+1)).getD i 0
theorem adz (ks:List dw) (n j:Nat) (h:j<n):(Iq ks n).getD j 0=cAt ks j:=by
 induction n with
 | zero=>omega
 | succ n ih =>
  by_cases e:j=n
  ·subst e;rfl
  ·rw[Iq,yw,List.getElem?_append_left (by rw[Oa];omega),←yw]
   exact ih (by omega)
theorem aq8 (ks:List dw) (n j:Nat) (h:j<n):(L6 ks n).getD j 0=bAt ks j:=by
 induction n with
 | zero=>omega
 | succ n ih =>
  by_cases e:j=n
  ·subst e;rfl
  ·rw[L6,yw,List.getElem?_append_left (by rw[Px];omega),←yw]
   exact ih (by omega)
theorem aoj (ks:List dw) (i:Nat) (hi:i<ks.length):cAt ks i=X6 (U3 (Iq ks i) ks[i].eu.length ks[i].au ks[i].au.length):=by
 unfold cAt;rw[Iq,yw,Ux (by rw[Oa];exact gq _),Oa,Nat.sub_self,jy hi];rfl
theorem a9f (ks:List dw) (i:Nat) (hi:i<ks.length):bAt ks i=sumF (ks[i].body.length+1) (costs ks[i].au (L6 ks i) ks[i].body):=by
 unfold bAt;rw[L6,yw,Ux (by rw[Px];exact gq _),Px,Nat.sub_self,jy hi];rfl
theorem aok (n:Int):X6 n<=20000↔n<=20000:=by unfold X6;split<;>omega
theorem a4y (n:Int) (h:n<=20000):X6 n=n:=by unfold X6;rw[ay (by omega)]
theorem al6 (ks:List dw) (i:Nat) (hi:i<ks.length):He ks i=true↔nameB ks[i].name=true∧Qu ks[i]=true∧((ks[i].eu.length<=1000∧ks[i].au.length<=1000)∧ks[i].eu.all Xc=true∧ks[i].au.all (fun g=>decide (0<=g∧g<(i:Int)))=true)∧ks[i].body.length<=30000∧ag8 ks ks[i]=true∧newName ks i=true:=by
 unfold He newName ag8;rw[jy hi,a0g];simp only[uq,Eh];constructor
 ·rintro⟨⟨⟨⟨⟨a1,a2⟩,a3⟩,a4⟩,a5⟩,b,c,d,e,f,g,h,j,l⟩
  exact⟨a1,⟨a2,c,d,e⟩,⟨⟨a3,a4⟩,f,g⟩,a5,⟨h,j,l⟩,b⟩
 ·rintro⟨a1,⟨a2,c,d,e⟩,⟨⟨a3,a4⟩,f,g⟩,a5,⟨h,j,l⟩,b⟩
  exact⟨⟨⟨⟨⟨a1,a2⟩,a3⟩,a4⟩,a5⟩,b,c,d,e,f,g,h,j,l⟩
def Same (ks:List dw) (i:Nat):Prop:=Uz ks i=L6 ks i∧∀j,(Iq ks i).getD j 0=(((Po ks i).getD j []).length:Int)
theorem aol (ks:List dw) (i:Nat) (hi:i<ks.length) (hs:Same ks i):Za ks i=true↔He ks i=true∧cAt ks i<=20000∧bAt ks i<=400000:=by
 obtain⟨s1,s2⟩:=hs;have hsum:=al5 (Po ks i) (Iq ks i) ks[i].eu ks[i].au s2 ks[i].au.length (gq _);rw[al6 ks i hi,aoj ks i hi,a9f ks i hi,aok,←hsum];unfold Za Y9;rw[jy hi];simp only[uq,Eh];rw[a4x,awx,s1,Wn];constructor
 ·rintro⟨⟨a,b,⟨c1,c2,c3,c4⟩,d,e1,e2⟩,f⟩
  exact⟨⟨a,b,⟨c1,c2,c3⟩,d,e1,f⟩,by omega,e2⟩
 ·rintro⟨⟨a,b,⟨c1,c2,c3⟩,d,e1,f⟩,c4,e2⟩
  exact⟨⟨a,b,⟨c1,c2,c3,by omega⟩,d,e1,e2⟩,f⟩
theorem awy (ks:List dw) (i:Nat) (hi:i<ks.length) (hs:Same ks i) (hok:Za ks i=true):Same ks (i+1):=by
 have h0:=(aol ks i hi hs).1 hok;have hcl:=(al6 ks i hi).1 h0.1;obtain⟨s1,s2⟩:=hs;constructor
 ·rw[Uz,L6,s1,jy hi]
  show L6 ks i++[Un ks ks[i] (L6 ks i)]=_;rw[a0h ks ks[i] _ hcl.2.2.2.2.1]
 ·intro j
  have hsum:=al5 (Po ks i) (Iq ks i) ks[i].eu ks[i].au s2 ks[i].au.length (gq _);have hc:=h0.2.1;rw[aoj ks i hi,aok] at hc
  by_cases e:j<i
  ·rw[adz ks (i+1) j (by omega),←adz ks i j e,s2 j]
   rw[Po,yw (l:=Po ks i++_),List.getElem?_append_left (by rw[Wn];exact e),←yw]
  ·by_cases e2:j=i
   ·subst e2
    rw[adz ks (j+1) j (by omega),aoj ks j hi,a4y _ hc,←hsum];rw[Po,yw (l:=Po ks j++_),Ux (by rw[Wn];exact gq _),Wn,Nat.sub_self,jy hi];rfl
   ·rw[yw,List.getElem?_eq_none (by rw[Oa];omega),yw,List.getElem?_eq_none (by rw[Wn];omega)]
    rfl
theorem awz (ks:List dw):Same ks 0:=⟨rfl,fun j=>by simp[Iq,Po]⟩
theorem aq9 (ks:List dw) (n:Nat) (hn:n<=ks.length) (h:∀j,j<n->Za ks j=true):Same ks n:=by
 induction n with
 | zero=>exact awz ks
 | succ n ih=>exact awy ks n (by omega) (ih (by omega) (fun j hj=>h j (by omega))) (h n (by omega))
theorem a9g (ks:List dw) (n:Nat) (hn:n<=ks.length):(∀j,j<n->Za ks j=true)↔∀j,j<n->(He ks j=true∧cAt ks j<=20000∧bAt ks j<=400000):=by
 induction n with
 | zero=>exact⟨fun _ j hj=>absurd hj (yt _),fun _ j hj=>absurd hj (yt _)⟩
 | succ n ih =>
  have ih:=ih (by omega);constructor
  ·intro h j hj
   by_cases e:j=n
   ·subst e
    exact(aol ks j (by omega) (aq9 ks j (by omega) (fun q hq=>h q (by omega)))).1 (h j hj)
   ·exact ih.1 (fun q hq=>h q (by omega)) j (by omega)
  ·intro h j hj
   have h9:=ih.2 (fun q hq=>h q (by omega))
   by_cases e:j=n
   ·subst e
    exact(aol ks j (by omega) (aq9 ks j (by omega) h9)).2 (h j hj)
   ·exact h9 j (by omega)
theorem asz (ks:List dw):(abx ks&&decide (1<=ks.length))=Py ks:=by
 rw[Oc];unfold abx Py;simp only[uq,Eh];rw[xw,xw,xw,xw];simp only[uw,Eh]
 have hc:(∀x,x∈Iq ks ks.length->x<=20000)↔∀j,j<ks.length->cAt ks j<=20000:=by
  constructor
  ·intro h j hj
   rw[←adz ks ks.length j hj,yw,jy (by rw[Oa];exact hj)];exact h _ (pz _)
  ·intro h x hx
   obtain⟨j,hj,rfl⟩:=List.getElem_of_mem hx;rw[Oa] at hj;have:=h j hj;rwa[←adz ks ks.length j hj,yw,jy (by rw[Oa];exact hj)] at this
 have hb:(∀x,x∈L6 ks ks.length->x<=400000)↔∀j,j<ks.length->bAt ks j<=400000:=by
  constructor
  ·intro h j hj
   rw[←aq8 ks ks.length j hj,yw,jy (by rw[Px];exact hj)];exact h _ (pz _)
  ·intro h x hx
   obtain⟨j,hj,rfl⟩:=List.getElem_of_mem hx;rw[Px] at hj;have:=h j hj;rwa[←aq8 ks ks.length j hj,yw,jy (by rw[Px];exact hj)] at this
 rw[hc,hb];have ha:=a9g ks ks.length (gq _);constructor
 ·rintro⟨⟨h1,h2⟩,h3⟩
  have h4:=ha.1 h2;exact⟨⟨h3,h1⟩,fun j hj=>(h4 j hj).1,fun j hj=>(h4 j hj).2.1,fun j hj=>(h4 j hj).2.2⟩
 ·rintro⟨⟨h3,h1⟩,h4,h5,h6⟩
  exact⟨⟨h1,ha.2 (fun j hj=>⟨h4 j hj,h5 j hj,h6 j hj⟩)⟩,h3⟩
theorem avr (v:Int) (w:bf) :
  Calls Tryz.prog 82 #[.int .i64 v] w fun e w'=>e=.returned (.int .i64 (IntKind.i32.wrap v))∧w'=w:=by
 go_enter Tryz.func82,Tryz.ntmps82;go_wp2;go_ret;exact⟨Td (by unfold wrap64 wrap32;rw[IntKind.wrap_i32];omega),rfl⟩
end Go.Proofs.YtfeejeflmcapoaaGreatDoor
