import Derived.Test.YtfeejeflmcapoaaGreatDoorMI21
import Derived.Test.YtfeejeflmcapoaaGreatDoorMI17
set_option linter.unusedSimpArgs false
set_option linter.unusedVariables false
namespace Go.Proofs.YtfeejeflmcapoaaGreatDoor
open Go.RowKit
def NM (L:List dh):Prop:=∀j (h:j<L.length),Ry (L.take j) L[j]=true
theorem awp (L:List dh) (j:Nat) (h:j<L.length):Ry (L.take j) L[j]=!Qc L j:=by
 unfold Ry Qc;rw[jy h];simp only;rw[Oa,uy,D8,ach];rw[Bool.not_eq_true',Bool.or_eq_false_iff,Nh,ahj L j h,Bool.not_eq_false'];rw[and_comm];refine and_congr_right (fun _=>?_);constructor
 ·rintro h1 ⟨i,hi,hij,e⟩
  exact h1 _ (by rw[List.mem_take_iff_getElem];exact⟨i,by omega,rfl⟩) e
 ·intro h1 x hx e
  rw[List.mem_take_iff_getElem] at hx;obtain⟨i,hi,rfl⟩:=hx;exact h1 ⟨i,by omega,by omega,e⟩
theorem a8r (L:List dh):NM L↔(List.range L.length).all (fun j=>!Qc L j)=true:=by
 rw[yc];constructor
 ·intro h j hj
  rw[←awp L j (uz.1 hj)];exact h j _
 ·intro h j hj
  rw[awp L j hj];exact h j (uz.2 hj)
theorem awq (A B:List dh):NM (A++B)↔NM A/\∀j (h:j<B.length),Ry (A++B.take j) B[j]=true:=by
 constructor
 ·intro h
  refine⟨fun j hj=>?_,fun j hj=>?_⟩
  ·have:=h j (by rw[jh];omega)
   rwa[List.take_append_of_le_length (by omega),Qx hj] at this
  ·have:=h (A.length+j) (by rw[jh];omega)
   rw[List.getElem_append_right (by omega)] at this;simp only[Nat.add_sub_cancel_left] at this;rwa[List.take_length_add_append] at this
 ·rintro⟨h1,h2⟩ j hj
  rw[jh] at hj
  by_cases e:j<A.length
  ·rw[List.take_append_of_le_length (by omega),Qx e]
   exact h1 j e
  ·rw[List.getElem_append_right (by omega)]
   obtain⟨q,rfl⟩:∃q,j=A.length+q:=⟨j-A.length,by omega⟩;simp only[Nat.add_sub_cancel_left];rw[List.take_length_add_append];exact h2 q (by omega)
theorem al3 (pre:List dh) (xs:List jw):(List.range xs.length).all (Pj pre xs)=true↔(∀t,t∈xs->t.type=1\/t.type=2)/\∀j (h:j<(xs.map jw.name).length),Ry (pre++(xs.map jw.name).take j) (xs.map jw.name)[j]=true:=by
 rw[yc];constructor
 ·intro h
  have hh:∀j (hj:j<xs.length),(xs[j].type=1\/xs[j].type=2)/\Ry (pre++(xs.map jw.name).take j) xs[j].name=true:=fun j hj=>by
   have h9:=h j (uz.2 hj);unfold Pj aei at h9;rw[jy hj] at h9;simp only[uy,D8] at h9;rw[List.map_take] at h9;exact h9
  refine⟨fun t ht=>?_,fun j hj=>?_⟩
  ·obtain⟨j,hj,rfl⟩:=List.getElem_of_mem ht
   exact(hh j hj).1
  ·rw[zy] at hj
   rw[List.getElem_map];exact(hh j hj).2
 ·rintro⟨h1,h2⟩ j hj
  rw[uz] at hj;unfold Pj aei;rw[jy hj];simp only[uy,D8];have h9:=h2 j (by rw[zy];exact hj);rw[List.getElem_map] at h9;rw[List.map_take];exact⟨h1 _ (o7 hj),h9⟩
theorem awr (pre:List dh) (xs:List dh):(List.range xs.length).all (U0 pre xs)=true↔∀j (h:j<xs.length),Ry (pre++xs.take j) xs[j]=true:=by
 rw[yc];constructor
 ·intro h j hj
  have h9:=h j (uz.2 hj);unfold U0 at h9;rw[jy hj] at h9;exact h9
 ·intro h j hj
  rw[uz] at hj;unfold U0;rw[jy hj];exact h j hj
theorem a0b (k:dw):Ql k=true↔1<=k.au.length/\(varsOf k).length<=1000/\(List.range (varsOf k).length).all (fun j=>!Qc (varsOf k) j)=true/\(k.ins++k.au).all (fun t=>decide (1<=t.type/\t.type<=2))=true:=by
 unfold Ql;rw[uy,uy,uy,D8,al3,al3,awr,←a8r];have hv:(varsOf k).length=k.ins.length+k.au.length+k.iw.length:=by unfold varsOf;simp;omega
 have e1:NM (varsOf k)↔(NM (k.ins.map jw.name++k.au.map jw.name)/\∀j (h:j<k.iw.length),Ry ((k.ins.map jw.name++k.au.map jw.name)++k.iw.take j) k.iw[j]=true):=by unfold varsOf;exact awq _ _
 rw[e1,awq,hv]
 have e2:NM (k.ins.map jw.name)↔∀j (h:j<(k.ins.map jw.name).length),Ry ([]++(k.ins.map jw.name).take j) (k.ins.map jw.name)[j]=true:=by
  unfold NM;simp only[Gm]
 rw[←e2,List.all_append,uy,yc,yc];simp only[D8];have e3:∀xs:List jw,(∀t,t∈xs->t.type=1\/t.type=2)↔∀t,t∈xs->1<=t.type/\t.type<=2:=fun xs=>⟨fun h t ht=>by have:=h t ht;omega,fun h t ht=>by have:=h t ht;omega⟩
 rw[e3,e3];constructor
 ·rintro⟨⟨a1,a2⟩,⟨⟨b1,b2⟩,c1,c2⟩,d⟩
  exact⟨a1,a2,⟨⟨b2,c2⟩,d⟩,b1,c1⟩
 ·rintro⟨a1,a2,⟨⟨b2,c2⟩,d⟩,b1,c1⟩
  exact⟨⟨a1,a2⟩,⟨⟨b1,b2⟩,c1,c2⟩,d⟩
theorem al4 (fs:List (List Int)) (cs gq ay:List Int) (hc:∀j,cs.getD j 0=((fs.getD j []).length:Int)) (q:Nat) (hq:q<=ay.length):((firstTo fs gq ay q).length:Int)=Uz cs gq.length ay q:=by
 induction q with
 | zero=>rw[Y3];rfl
 | succ q ih =>
  rw[abp fs gq ay q (by omega),jh,Int.natCast_add,ih (by omega),Uz,hc];rw[yw (l:=ay),jy (by omega),Kw]
theorem atu (fs:List (List Int)) (gq ay:List Int) (q:Nat) (hq:q<ay.length):(firstTo fs gq ay q).length<=(firstTo fs gq ay (q+1)).length:=by
 rw[abp fs gq ay q hq,jh];omega
theorem awt (fs:List (List Int)) (gq ay:List Int) (d:Nat):∀q,q+d=ay.length->(firstTo fs gq ay q).length<=(firstTo fs gq ay ay.length).length:=by
 induction d with
 | zero=>intro q h;rw[←h];exact gu _
 | succ d ih=>intro q h;exact ku (atu fs gq ay q (by omega)) (ih (q+1) (by omega))
theorem a4m (fs:List (List Int)) (k:dw):ownB fs k=true↔(k.gq.length<=1000/\k.ay.length<=1000)/\k.gq.all Wy=true/\k.ay.all (fun g=>decide (0<=g/\g<(fs.length:Int)))=true/\(firstTo fs k.gq k.ay k.ay.length).length<=20000:=by
 have hm:k.gq.all Wy=k.gq.all Qq:=by congr 1;funext v;exact aqx v
 rw[hm];constructor
 ·intro h
  have hl:=aic fs k h;unfold ownB at h;simp only[uy,yc,D8] at h;obtain⟨h1,h2,h3⟩:=h;refine⟨h1,yc.2 h2,yc.2 (fun g hg=>?_),hl⟩;obtain⟨j,hj,rfl⟩:=List.getElem_of_mem hg;have h9:=h3 j (uz.2 hj);unfold O9 at h9;rw[jy hj] at h9;simp only[uy] at h9;exact h9.1
 ·rintro⟨h1,h2,h3,h4⟩
  unfold ownB;rw[uy,uy,D8];refine⟨h1,h2,yc.2 (fun j hj=>?_)⟩;rw[uz] at hj;unfold O9;rw[jy hj];simp only[uy,D8];have h9:=yc.1 h3 _ (o7 hj);refine⟨xw h9,?_⟩;exact ku (awt fs k.gq k.ay (k.ay.length-(j+1)) (j+1) (by omega)) h4
theorem awu (ks:List dw) (k:dw) (known:List Int):Vs ks k known=true↔ag6 ks k=true/\sumF (k.body.length+1) (costs k.ay known k.body)<=400000:=by
 rw[al2];unfold Vs;constructor
 ·intro h
  split at h
  ·rename_i t heq
   refine⟨⟨t,heq⟩,?_⟩;rw[aij ks k known t heq];exact xw h
  ·cases h
 ·rintro⟨⟨t,heq⟩,h⟩
  rw[heq];simp only;rw[aij ks k known t heq] at h;exact jf h
theorem a0c (ks:List dw) (k:dw) (known:List Int) (h:ag6 ks k=true):Uj ks k known=sumF (k.body.length+1) (costs k.ay known k.body):=by
 obtain⟨t,heq⟩:=(al2 ks k).1 h;rw[aij ks k known t heq];unfold Uj;rw[heq]
def cAt (ks:List dw) (i:Nat):Int:=(Ij ks (i+1)).getD i 0
def bAt (ks:List dw) (i:Nat):Int:=(Lu ks (i+1)).getD i 0
theorem adx (ks:List dw) (n j:Nat) (h:j<n):(Ij ks n).getD j 0=cAt ks j:=by
 induction n with
 | zero=>omega
 | succ n ih =>
  by_cases e:j=n
  ·subst e;rfl
  ·rw[Ij,yw,List.getElem?_append_left (by rw[N8];omega),←yw]
   exact ih (by omega)
theorem aq7 (ks:List dw) (n j:Nat) (h:j<n):(Lu ks n).getD j 0=bAt ks j:=by
 induction n with
 | zero=>omega
 | succ n ih =>
  by_cases e:j=n
  ·subst e;rfl
  ·rw[Lu,yw,List.getElem?_append_left (by rw[Pm];omega),←yw]
   exact ih (by omega)
theorem aoi (ks:List dw) (i:Nat) (hi:i<ks.length):cAt ks i=Xz (Uz (Ij ks i) ks[i].gq.length ks[i].ay ks[i].ay.length):=by
 unfold cAt;rw[Ij,yw,Us (by rw[N8];exact gu _),N8,Nat.sub_self,jy hi];rfl
theorem a8s (ks:List dw) (i:Nat) (hi:i<ks.length):bAt ks i=sumF (ks[i].body.length+1) (costs ks[i].ay (Lu ks i) ks[i].body):=by
 unfold bAt;rw[Lu,yw,Us (by rw[Pm];exact gu _),Pm,Nat.sub_self,jy hi];rfl
theorem aoj (n:Int):Xz n<=20000↔n<=20000:=by unfold Xz;split<;>omega
theorem a4n (n:Int) (h:n<=20000):Xz n=n:=by unfold Xz;rw[bf (by omega)]
theorem al5 (ks:List dw) (i:Nat) (hi:i<ks.length):Gw ks i=true↔nameB ks[i].name=true/\Ql ks[i]=true/\((ks[i].gq.length<=1000/\ks[i].ay.length<=1000)/\ks[i].gq.all Wy=true/\ks[i].ay.all (fun g=>decide (0<=g/\g<(i:Int)))=true)/\ks[i].body.length<=30000/\ag6 ks ks[i]=true/\newName ks i=true:=by
 unfold Gw newName ag6;rw[jy hi,a0b];simp only[uy,D8];constructor
 ·rintro⟨⟨⟨⟨⟨a1,a2⟩,a3⟩,a4⟩,a5⟩,b,c,d,e,f,g,h,j,l⟩
  exact⟨a1,⟨a2,c,d,e⟩,⟨⟨a3,a4⟩,f,g⟩,a5,⟨h,j,l⟩,b⟩
 ·rintro⟨a1,⟨a2,c,d,e⟩,⟨⟨a3,a4⟩,f,g⟩,a5,⟨h,j,l⟩,b⟩
  exact⟨⟨⟨⟨⟨a1,a2⟩,a3⟩,a4⟩,a5⟩,b,c,d,e,f,g,h,j,l⟩
def Same (ks:List dw) (i:Nat):Prop:=Uu ks i=Lu ks i/\∀j,(Ij ks i).getD j 0=(((Pg ks i).getD j []).length:Int)
theorem aok (ks:List dw) (i:Nat) (hi:i<ks.length) (hs:Same ks i):Y8 ks i=true↔Gw ks i=true/\cAt ks i<=20000/\bAt ks i<=400000:=by
 obtain⟨s1,s2⟩:=hs;have hsum:=al4 (Pg ks i) (Ij ks i) ks[i].gq ks[i].ay s2 ks[i].ay.length (gu _);rw[al5 ks i hi,aoi ks i hi,a8s ks i hi,aoj,←hsum];unfold Y8 Y7;rw[jy hi];simp only[uy,D8];rw[a4m,awu,s1,V9];constructor
 ·rintro⟨⟨a,b,⟨c1,c2,c3,c4⟩,d,e1,e2⟩,f⟩
  exact⟨⟨a,b,⟨c1,c2,c3⟩,d,e1,f⟩,by omega,e2⟩
 ·rintro⟨⟨a,b,⟨c1,c2,c3⟩,d,e1,f⟩,c4,e2⟩
  exact⟨⟨a,b,⟨c1,c2,c3,by omega⟩,d,e1,e2⟩,f⟩
theorem awv (ks:List dw) (i:Nat) (hi:i<ks.length) (hs:Same ks i) (hok:Y8 ks i=true):Same ks (i+1):=by
 have h0:=(aok ks i hi hs).1 hok;have hcl:=(al5 ks i hi).1 h0.1;obtain⟨s1,s2⟩:=hs;constructor
 ·rw[Uu,Lu,s1,jy hi]
  show Lu ks i++[Uj ks ks[i] (Lu ks i)]=_;rw[a0c ks ks[i] _ hcl.2.2.2.2.1]
 ·intro j
  have hsum:=al4 (Pg ks i) (Ij ks i) ks[i].gq ks[i].ay s2 ks[i].ay.length (gu _);have hc:=h0.2.1;rw[aoi ks i hi,aoj] at hc
  by_cases e:j<i
  ·rw[adx ks (i+1) j (by omega),←adx ks i j e,s2 j]
   rw[Pg,yw (l:=Pg ks i++_),List.getElem?_append_left (by rw[V9];exact e),←yw]
  ·by_cases e2:j=i
   ·subst e2
    rw[adx ks (j+1) j (by omega),aoi ks j hi,a4n _ hc,←hsum];rw[Pg,yw (l:=Pg ks j++_),Us (by rw[V9];exact gu _),V9,Nat.sub_self,jy hi];rfl
   ·rw[yw,List.getElem?_eq_none (by rw[N8];omega),yw,List.getElem?_eq_none (by rw[V9];omega)]
    rfl
theorem aww (ks:List dw):Same ks 0:=⟨rfl,fun j=>by simp[Ij,Pg]⟩
theorem aq8 (ks:List dw) (n:Nat) (hn:n<=ks.length) (h:∀j,j<n->Y8 ks j=true):Same ks n:=by
 induction n with
 | zero=>exact aww ks
 | succ n ih=>exact awv ks n (by omega) (ih (by omega) (fun j hj=>h j (by omega))) (h n (by omega))
theorem a8t (ks:List dw) (n:Nat) (hn:n<=ks.length):(∀j,j<n->Y8 ks j=true)↔∀j,j<n->(Gw ks j=true/\cAt ks j<=20000/\bAt ks j<=400000):=by
 induction n with
 | zero=>exact⟨fun _ j hj=>absurd hj (yu _),fun _ j hj=>absurd hj (yu _)⟩
 | succ n ih =>
  have ih:=ih (by omega);constructor
  ·intro h j hj
   by_cases e:j=n
   ·subst e
    exact(aok ks j (by omega) (aq8 ks j (by omega) (fun q hq=>h q (by omega)))).1 (h j hj)
   ·exact ih.1 (fun q hq=>h q (by omega)) j (by omega)
  ·intro h j hj
   have h9:=ih.2 (fun q hq=>h q (by omega))
   by_cases e:j=n
   ·subst e
    exact(aok ks j (by omega) (aq8 ks j (by omega) h9)).2 (h j hj)
   ·exact h9 j (by omega)
theorem asx (ks:List dw):(abu ks&&decide (1<=ks.length))=Pn ks:=by
 rw[Oa];unfold abu Pn;simp only[uy,D8];rw[yc,yc,yc,yc];simp only[uz,D8]
 have hc:(∀x,x∈Ij ks ks.length->x<=20000)↔∀j,j<ks.length->cAt ks j<=20000:=by
  constructor
  ·intro h j hj
   rw[←adx ks ks.length j hj,yw,jy (by rw[N8];exact hj)];exact h _ (o7 _)
  ·intro h x hx
   obtain⟨j,hj,rfl⟩:=List.getElem_of_mem hx;rw[N8] at hj;have:=h j hj;rwa[←adx ks ks.length j hj,yw,jy (by rw[N8];exact hj)] at this
 have hb:(∀x,x∈Lu ks ks.length->x<=400000)↔∀j,j<ks.length->bAt ks j<=400000:=by
  constructor
  ·intro h j hj
   rw[←aq7 ks ks.length j hj,yw,jy (by rw[Pm];exact hj)];exact h _ (o7 _)
  ·intro h x hx
   obtain⟨j,hj,rfl⟩:=List.getElem_of_mem hx;rw[Pm] at hj;have:=h j hj;rwa[←aq7 ks ks.length j hj,yw,jy (by rw[Pm];exact hj)] at this
 rw[hc,hb];have ha:=a8t ks ks.length (gu _);constructor
 ·rintro⟨⟨h1,h2⟩,h3⟩
  have h4:=ha.1 h2;exact⟨⟨h3,h1⟩,fun j hj=>(h4 j hj).1,fun j hj=>(h4 j hj).2.1,fun j hj=>(h4 j hj).2.2⟩
 ·rintro⟨⟨h3,h1⟩,h4,h5,h6⟩
  exact⟨⟨h1,ha.2 (fun j hj=>⟨h4 j hj,h5 j hj,h6 j hj⟩)⟩,h3⟩
theorem avo (v:Int) (w:cu) :
  Calls Tryz.prog 82 #[.int .i64 v] w fun e w'=>e=.returned (.int .i64 (IntKind.i32.wrap v))/\w'=w:=by
 go_enter Tryz.func82,Tryz.ntmps82;go_wp2;go_ret;exact⟨Sm (by unfold wrap64 wrap32;rw[IntKind.wrap_i32];omega),rfl⟩
end Go.Proofs.YtfeejeflmcapoaaGreatDoor
