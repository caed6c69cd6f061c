import Derived.Test.YtfeejeflmcapoaaGreatDoorImplFresh
import Derived.Test.YtfeejeflmcapoaaGreatDoorData
import Derived.Test.YtfeejeflmcapoaaGreatDoorProg
import Derived.WalkLawsBesides
import Derived.Deep.AppendSrc
import Derived.OwnWalk
import Derived.Deep.RegionWith
import Derived.RegionTactic
set_option linter.unusedSimpArgs false
set_option linter.unusedVariables false
set_option maxHeartbeats 2000000
namespace Go.Proofs.YtfeejeflmcapoaaGreatDoor
open Go.RowKit
def vg:dh:=⟨#[99,108,97,115,115]⟩
def Ik:dh:=⟨#[105,110]⟩
def Ee:dh:=⟨#[111,117,116]⟩
def Eo:dh:=⟨#[108,111,99]⟩
def Ep:dh:=⟨#[109,101,109]⟩
def Es:dh:=⟨#[117,115,101]⟩
def Pz:dh:=⟨#[101,110,100,99,108,97,115,115]⟩
def Jf:dh:=⟨#[115,101,116]⟩
def F8:dh:=⟨#[115,97,118,101]⟩
def Ac:dh:=⟨#[99,97,108,108]⟩
def Qn:dh:=⟨#[105,102]⟩
def Cj:dh:=⟨#[101,108,115,101]⟩
def Fz:dh:=⟨#[101,110,100]⟩
def ou:dh:=⟨#[58]⟩
def Cb:dh:=⟨#[44]⟩
def aaf:dh:=⟨#[105,110,116]⟩
def ae5:dh:=⟨#[98,111,111,108]⟩
def adb:dh:=⟨#[110,101,103]⟩
def ade:dh:=⟨#[110,111,116]⟩
def Wq:dh:=⟨#[63]⟩
def Zf:dh:=⟨#[46]⟩
def Wat:dh:=⟨#[64]⟩
def Wnl:dh:=⟨#[10]⟩
def Wsc:dh:=⟨#[32,44,32]⟩
def partT (t:ku):dh :=
 if t.op=1 then qm t.val else if t.op=2 then flT t.val else if t.op=3 then Zf++t.name else if t.op=25 then Wat++qm t.val else if t.op=4 then adb else if t.op=5 then ade else if t.op=20 then Wq else sgT t.op
def tu (c:List ku):List dh:=c.map partT
def Ht (c:List ku):dh:=Fq Lsp (tu c)
def uy (Ai:List (List ku)):Nat->List dh
 | 0=>[]
 | i+1=>uy Ai i++(if i=0 then [] else [Cb])++tu (Ai.getD i [])
def Bq (t:Int):dh:=if t=1 then aaf else ae5
def xu (s:lu):List dh :=
 if s.kind=1 then [Jf,s.name,ou]++tu s.code else if s.kind=2 then [F8,qm s.at_,ou]++tu s.code
 else if s.kind=3 then [Ac,qm s.at_]++s.ak++[ou]++uy s.args s.args.length else if s.kind=4 then [Qn,s.name] else if s.kind=5 then [Cj] else [Fz]
def oh (ps:List dh):dh:=Fq Lsp ps
def Lp (ks:List dw) (g:Int):dh:=match ks[g.toNat]? with|some k=>k.name|none=>ByteArray.empty
def Ia (ks:List dw) (k:dw):List dh :=
 [oh [vg,k.name]]++k.ins.map (fun s=>oh [Ik,s.name,Bq s.type])++k.ak.map (fun s=>oh [Ee,s.name,Bq s.type])++k.iq.map (fun x=>oh [Eo,x])
  ++ k.eu.map (fun v=>oh [Ep,qm v])++k.au.map (fun g=>oh [Es,Lp ks g])++k.body.map (fun s=>oh (xu s))++[oh [Pz]]
def Ho (ks:List dw):List dh:=ks.flatMap (Ia ks)
def Gi:List dh->dh
 | []=>ByteArray.empty
 | l::ls=>l++(Wnl++Gi ls)
theorem akh (a b:List dh):Gi (a++b)=Gi a++Gi b:=by
 induction a with
 | nil=>rw[Gu,Gi,ado]
 | cons x a ih=>rw[Fe,Gi,Gi,ih,Cm,Cm]
theorem ari (x:dh):Gi [x]=x++Wnl:=by rw[Gi,Gi,afs]
def vk (ls:List dh):Nat:=(ls.map (fun l=>l.size+1)).sum
theorem Fj (a b:List dh):vk (a++b)=vk a+vk b:=by simp[vk]
theorem Hr (x:dh) (b:List dh):vk (x::b)=x.size+1+vk b:=by simp[vk]
theorem ah4 (ls:List dh):(Gi ls).size=vk ls:=by
 induction ls with
 | nil=>rfl
 | cons x ls ih =>
  rw[Gi,Lc,Lc,ih,Hr];have:Wnl.size=1:=rfl;omega
theorem abp (ls:List dh):ls.length<=vk ls:=by
 induction ls with
 | nil=>exact jg _
 | cons x ls ih=>rw[Hr,uf];omega
theorem aai (sep:dh) (a:List dh) (x:dh) (h:a≠[]):Fq sep (a++[x])=Fq sep a++sep++x:=by
 have hl:1<=a.length:=Bg.2 h;have h1:=ahx sep (a++[x]) a.length (by simp) hl;rw[List.take_left,Qg (by simp)] at h1;rw[h1];simp
theorem ahb (sep:dh) (a b:List dh) (ha:a≠[]) (hb:b≠[]):Fq sep (a++b)=Fq sep a++(sep++Fq sep b):=by
 obtain⟨n,hn⟩:∃n,n=b.length:=⟨_,rfl⟩
 induction n generalizing b with
 | zero=>exact absurd (Qe hn.symm) hb
 | succ n ih =>
  have hsp:=List.dropLast_concat_getLast hb
  by_cases hd:b.dropLast=[]
  ·rw[←hsp,hd,Gu,aai _ _ _ ha,O1,Cm]
  ·have h1:=ih b.dropLast hd (by rw[List.length_dropLast];omega)
   rw[←hsp,←Gt,aai _ _ _ (by simp[ha]),h1,aai _ _ _ hd,Cm,Cm,Cm,Cm]
theorem Jq (sep x:dh) (b:List dh) (hb:b≠[]):Fq sep (x::b)=x++(sep++Fq sep b):=by
 have h:=ahb sep [x] b (by simp) hb;rw[O1] at h;exact h
theorem a96 (sep:dh) (xs:List dh) (hs:sep.size<=1):(Fq sep xs).size+1<=vk xs+1:=by
 have h1:=anf sep xs;have h2:(Fq sep xs).size=(Lib.join (xs.map (·.data.toList)) sep.data.toList).length:=by simp[Fq,ByteArray.size]
 have h3:sep.size*xs.length<=1*xs.length:=Nat.mul_le_mul_right _ hs
 have h4:vk xs=szs xs+xs.length:=by
  clear h1 h2 h3
  induction xs with
  | nil=>rfl
  | cons x xs ih=>rw[Hr,ahv,ih,uf];omega
 omega
theorem ao1 (ps:List dh):(oh ps).size<=vk ps:=by
 have:=a96 Lsp ps (by decide);unfold oh;omega
theorem ae7 {c:List ku} (h:c≠[]):tu c≠[]:=by
 unfold tu;simpa using h
theorem agd (Ai:List (List ku)) (h:∀c,c∈Ai->c≠[]) (i:Nat) (h1:1<=i) (hi:i<=Ai.length):uy Ai i≠[]:=by
 cases i with
 | zero=>omega
 | succ i =>
  have h2:Ai.getD i []=Ai[i]'(by omega):=by rw[yw,jy (by omega)];rfl
  rw[uy,h2];simp only[ne_eq,List.append_eq_nil_iff,not_and];intro _;exact ae7 (h _ (pz _))
theorem aqh (Ai:List (List ku)) (h:∀c,c∈Ai->c≠[]) (i:Nat) (h1:1<=i) (hi:i<=Ai.length):Fq Lsp (uy Ai i)=Fq Wsc ((Ai.take i).map Ht):=by
 induction i with
 | zero=>omega
 | succ i ih =>
  have h2:Ai.getD i []=Ai[i]'(by omega):=by rw[yw,jy (by omega)];rfl
  have hc:=h _ (pz (show i<Ai.length by omega))
  by_cases e:i=0
  ·subst e
   rw[uy,gu rfl,h2,Fb (by omega),Np,uy];simp only[Gu,Ap,Gf,O1];rfl
  ·have hne:=agd Ai h i (by omega) (by omega)
   have hne2:(Ai.take i).map Ht≠[]:=by
    intro h9;have h8:=mg List.length h9;rw[Ad,Nq,A8] at h8;omega
   rw[uy,ay e,h2,Gt,ahb _ _ _ hne (by simp),ahb _ _ _ (by simp) (ae7 hc),O1,ih (by omega) (by omega),
    Fb (by omega),Il,Ap,Gf,aai _ _ _ hne2,Cm]
   have h5:Wsc=Lsp++(Cb++Lsp):=by decide
   rw[h5];unfold Ht;rw[Cm,Cm]
theorem a04 (s:lu) (h:s.kind=1) (hc:s.code≠[]):oh (xu s)=Jf++(Lsp++(s.name++(Lsp++(ou++(Lsp++Ht s.code))))):=by
 unfold oh xu;rw[gu h,Fe,Fe,Fe,Gu,Jq _ _ _ (by simp),Jq _ _ _ (by simp),Jq _ _ _ (ae7 hc)];rfl
theorem aw6 (s:lu) (h:s.kind=2) (hc:s.code≠[]):oh (xu s)=F8++(Lsp++(qm s.at_++(Lsp++(ou++(Lsp++Ht s.code))))):=by
 unfold oh xu;rw[ay (by omega),gu h,Fe,Fe,Fe,Gu,Jq _ _ _ (by simp),Jq _ _ _ (by simp),Jq _ _ _ (ae7 hc)];rfl
theorem aw7 (s:lu) (h:s.kind=3) (ho:s.ak≠[]) (ha:∀c,c∈s.args->c≠[]):oh (xu s)=Ac++(Lsp++(qm s.at_++(Lsp++(Fq Lsp s.ak++(Lsp++(ou++(if s.args.length=0 then ByteArray.empty else Lsp++Fq Wsc (s.args.map Ht)))))))):=by
 unfold oh xu;have e1:[Ac,qm s.at_]++s.ak++[ou]=Ac::qm s.at_::(s.ak++[ou]):=by simp
 rw[ay (by omega),ay (by omega),gu h,e1]
 by_cases e:s.args.length=0
 ·rw[gu e,e,uy,Az,Jq _ _ _ (by simp),Jq _ _ _ (by simp),aai _ _ _ ho,afs,Cm]
 ·have hne:=agd s.args ha s.args.length (by omega) (gq _)
  have hj:=aqh s.args ha s.args.length (by omega) (gq _);rw[Eb] at hj;rw[ay e,ahb _ _ _ (by simp) hne,hj,Jq _ _ _ (by simp),Jq _ _ _ (by simp),aai _ _ _ ho];simp only[Cm]
theorem a5g (s:lu) (h:s.kind=4):oh (xu s)=Qn++(Lsp++s.name):=by
 unfold oh xu;rw[ay (by omega),ay (by omega),ay (by omega),gu h,Jq _ _ _ (by simp),O1]
theorem aw8 (s:lu) (h:s.kind=5):oh (xu s)=Cj:=by
 unfold oh xu;rw[ay (by omega),ay (by omega),ay (by omega),ay (by omega),gu h,O1]
theorem a05 (s:lu) (h:s.kind=6):oh (xu s)=Fz:=by
 unfold oh xu;rw[ay (by omega),ay (by omega),ay (by omega),ay (by omega),ay (by omega),O1]
theorem acy (a b:dh):oh [a,b]=a++(Lsp++b):=by
 unfold oh;rw[Jq _ _ _ (by simp),O1]
theorem am6 (a b c:dh):oh [a,b,c]=a++(Lsp++(b++(Lsp++c))):=by
 unfold oh;rw[Jq _ _ _ (by simp),Jq _ _ _ (by simp),O1]
theorem ag9 (a:dh):oh [a]=a:=by
 unfold oh;rw[O1]
def Oh (x:Int):Prop:=-2147483648<=x∧x<=2147483648
theorem Qo (n:Int) (h:Oh n):(qm n).size<=11:=by
 unfold Oh at h;have h1:n.natAbs<10000000000:=by omega
 have h2:=avk _ h1;have h3:=avk n.toNat (by omega);unfold qm Lib.itoa;show (List.toArray _).size<=11;rw[List.size_toArray]
 split
 ·simp only[uf]
  omega
 ·omega
structure ac4 (t:ku):Prop where
 num:t.op=1∨t.op=25->Oh t.val
 tru:t.op=2->t.val=0∨t.val=1
theorem ao4 (t:ku) (h:ac4 t):(partT t).size<=12+t.name.size:=by
 unfold partT;have e1:Zf.size=1:=rfl;have e2:Wat.size=1:=rfl;have e3:adb.size=3:=rfl;have e4:ade.size=3:=rfl;have e5:Wq.size=1:=rfl;have e6:=ayq t.val;have e7:=ayp t.op
 by_cases h1:t.op=1
 ·rw[gu h1];have:=Qo _ (h.num (Or.inl h1));omega
 rw[ay h1]
 by_cases h2:t.op=2
 ·rw[gu h2];omega
 rw[ay h2]
 by_cases h3:t.op=3
 ·rw[gu h3,Lc];omega
 rw[ay h3]
 by_cases h4:t.op=25
 ·rw[gu h4,Lc];have:=Qo _ (h.num (Or.inr h4));omega
 rw[ay h4]
 by_cases h5:t.op=4
 ·rw[gu h5];omega
 rw[ay h5]
 by_cases h6:t.op=5
 ·rw[gu h6];omega
 rw[ay h6]
 by_cases h7:t.op=20
 ·rw[gu h7];omega
 rw[ay h7];omega
theorem Yp {α:Type} (f:α->dh) (g:α->Nat) (c:Nat) (xs:List α) (h:∀x,x∈xs->(f x).size+1<=c*(1+g x)):vk (xs.map f)<=c*oq g xs:=by
 unfold oq
 induction xs with
 | nil=>simp[vk]
 | cons x xs ih =>
  have h1:=h x (H7 ..);have h2:=ih (fun y hy=>h y (G8 _ hy));rw[Ap,Hr];simp only[Ap,List.sum_cons,uf];rw[show xs.length+1+(g x+(xs.map g).sum)=(1+g x)+(xs.length+(xs.map g).sum) from by omega,Nat.mul_add];omega
theorem ait (c:List ku) (h:∀t,t∈c->ac4 t):vk (tu c)<=20*oq Gq c:=Yp _ _ _ _ (fun t ht=>by have:=ao4 t (h t ht);unfold Gq;omega)
theorem a06 (c:List ku) (h:∀t,t∈c->ac4 t):(Ht c).size<=20*oq Gq c:=jq (ao1 (tu c)) (ait c h)
theorem aw9 {α:Type} (g:α->Nat) (xs:List α) (i:Nat) (hi:i<xs.length):oq g (xs.take (i+1))=oq g (xs.take i)+(1+g xs[i]):=by
 unfold oq;rw[Fb hi,je,Il,List.sum_append];simp only[uf,A8,Ap,Gf,List.sum_cons,List.sum_nil];omega
theorem axa (Ai:List (List ku)) (h:∀c,c∈Ai->∀t,t∈c->ac4 t) (i:Nat) (hi:i<=Ai.length):vk (uy Ai i)<=20*oq (oq Gq) (Ai.take i):=by
 induction i with
 | zero=>simp[uy,vk,oq]
 | succ i ih =>
  have h2:Ai.getD i []=Ai[i]'(by omega):=by rw[yw,jy (by omega)];rfl
  have h3:=ih (by omega);have h4:=ait (Ai[i]'(by omega)) (h _ (pz _));have h5:vk (if i=0 then [] else [Cb])<=2:=by split<;>decide
  rw[uy,h2,Fj,Fj,aw9 _ _ _ (by omega),Nat.mul_add];omega
structure a07 (s:lu):Prop where
 at_:Oh s.at_
 code:∀t,t∈s.code->ac4 t
 args:∀c,c∈s.args->∀t,t∈c->ac4 t
 cne:s.kind=1∨s.kind=2->s.code≠[]
 one:s.kind=3->s.ak≠[]∧∀c,c∈s.args->c≠[]
 kind:1<=s.kind∧s.kind<=6
theorem a5h (xs:List dh):vk xs<=20*oq Qw xs:=by
 have h:=Yp id Qw 20 xs (fun x hx=>by unfold Qw;simp only[id];omega);rwa[List.map_id] at h
theorem arj (s:lu) (h:a07 s):vk (xu s)+1<=64*(1+Nv s):=by
 have h1:=ait s.code h.code;have h2:=axa s.args h.args s.args.length (gq _);rw[Eb] at h2;have h3:=a5h s.ak;have h4:=Qo _ h.at_;have z:Jf.size<=8∧F8.size<=8∧Ac.size<=8∧Qn.size<=8∧Cj.size<=8∧Fz.size<=8∧ou.size<=8:=by decide
 obtain⟨z1,z2,z3,z4,z5,z6,z7⟩:=z;have z0:vk []=0:=rfl;unfold xu Nv
 split
 ·simp only[Fj,Hr,z0];omega
 split
 ·simp only[Fj,Hr,z0];omega
 split
 ·simp only[Fj,Hr,z0];omega
 split
 ·simp only[Fj,Hr,z0];omega
 split
 ·simp only[Fj,Hr,z0];omega
 ·simp only[Fj,Hr,z0];omega
structure asx (ks:List dw) (k:dw):Prop where
 body:∀s,s∈k.body->a07 s
 eu:∀v,v∈k.eu->Oh v
 ins:∀g,g∈k.au->0<=g∧g<(ks.length:Int)
 few:k.eu.length<=1000∧k.au.length<=1000
 nm:∀g,g∈k.au->(Lp ks g).size<=40
 ty:(∀s,s∈k.ins->s.type=1∨s.type=2)∧∀s,s∈k.ak->s.type=1∨s.type=2
theorem ad3 (t:Int):(Bq t).size<=4:=by unfold Bq;split<;>decide
theorem a97 (ks:List dw) (k:dw) (h:asx ks k):vk (Ia ks k)<=128*(1+qx k):=by
 have z:vg.size=5∧Ik.size=2∧Ee.size=3∧Eo.size=3∧Ep.size=3∧Es.size=3∧Pz.size=8∧Lsp.size=1:=by decide
 obtain⟨z1,z2,z3,z4,z5,z6,z7,z8⟩:=z;have z0:vk []=0:=rfl;have h1:=Yp (fun s:jw=>oh [Ik,s.name,Bq s.type]) Ul 64 k.ins (fun s hs=>by have:=ad3 s.type;simp only[am6,Lc,Ul];omega);have h2:=Yp (fun s:jw=>oh [Ee,s.name,Bq s.type]) Ul 64 k.ak (fun s hs=>by have:=ad3 s.type;simp only[am6,Lc,Ul];omega);have h3:=Yp (fun x:dh=>oh [Eo,x]) Qw 64 k.iq (fun s hs=>by simp only[acy,Lc,Qw];omega);have h4:=Yp (fun v:Int=>oh [Ep,qm v]) (fun _=>0) 64 k.eu (fun v hv=>by have:=Qo v (h.eu v hv);simp only[acy,Lc];omega);have h5:=Yp (fun g:Int=>oh [Es,Lp ks g]) (fun _=>0) 64 k.au (fun g hg=>by have:=h.nm g hg;simp only[acy,Lc];omega);have h6:=Yp (fun s:lu=>oh (xu s)) Nv 64 k.body (fun s hs=>by have:=arj s (h.body s hs);have:=ao1 (xu s);omega)
 have e:∀l:List Int,oq (fun _:Int=>0) l=l.length:=by
  intro l;unfold oq
  have h9:∀l:List Int,(l.map (fun _:Int=>0)).sum=0:=by
   intro l
   induction l with
   | nil=>rfl
   | cons x l ih=>simpa using ih
  rw[h9];omega
 rw[e] at h4 h5
 have e0:(oh [vg,k.name]).size=6+k.name.size:=by
  rw[acy];simp only[Lc];omega
 have e9:(oh [Pz]).size=8:=by
  rw[ag9];exact z7
 unfold Ia qx;simp only[Fj,Hr,z0,e0,e9];omega
theorem a4h (ks0 ks:List dw) (h:∀k,k∈ks->asx ks0 k):vk (ks.flatMap (Ia ks0))<=128*oq qx ks:=by
 unfold oq
 induction ks with
 | nil=>simp[vk]
 | cons k ks ih =>
  have h1:=a97 ks0 k (h k (H7 ..));have h2:=ih (fun y hy=>h y (G8 _ hy));rw[List.flatMap_cons,Fj];simp only[Ap,List.sum_cons,uf];omega
def Ew (w:bf) (base g cap:Nat) (xs:List Int):Prop:=w.ownsRow base 3 1 (.slice (some ⟨g,0,none⟩) xs.length cap) xs.length (xs.map (Value.int .i64))
theorem Ew.below {w w':bf} {base g cap:Nat} {xs:List Int} (h:Ew w base g cap xs) (hb:Below w.heap.size w w'):Ew w' base g cap xs:=by
 have hlt:=(Bd h g rfl).2;obtain⟨h1,h2⟩:=h;refine⟨h1,?_⟩;rcases h2 with h2|⟨g',cap',cur,hv,hg,hh,r⟩
 ·exact Or.inl h2
 ·simp only[qw,uo,Addr.mk.injEq] at hv
  obtain⟨⟨rfl,_⟩,_,rfl⟩:=hv;exact Or.inr ⟨g,cap,cur,rfl,hg,(hb.block g hlt).trans hh,r⟩
theorem Ew.cell {w:bf} {base g cap:Nat} {xs:List Int} (h:Ew w base g cap xs) (i:Nat) (hi:i<xs.length):w.cell? ⟨g,i,none⟩=some ((Value.int .i64) xs[i]):=by
 have:=World.ownsRow.cells h (g:=g) rfl i ((Value.int .i64) xs[i]) (by simp[hi]);rw[Addr.add_lit,Bh] at this;exact this
theorem Ew.lt {w:bf} {base g cap:Nat} {xs:List Int} (h:Ew w base g cap xs):g<w.heap.size:=(Bd h g rfl).2
theorem Ew.base {w:bf} {base g cap:Nat} {xs:List Int} (h:Ew w base g cap xs):base<=g:=(Bd h g rfl).1
theorem Ew.start (w:bf) (base:Nat) (hb:base<=w.heap.size):Ew (w.alloc (.cells #[] 3)) base w.heap.size 0 [] :=
 ⟨rfl,Or.inr ⟨_,_,#[],rfl,hb,Deep.blk_alloc_new _ _,gq _,jg _,rfl,rfl⟩⟩
theorem Ew.at {w:bf} {base g cap:Nat} {xs:List Int} (h:Ew w base g cap xs) (hR:∀x,x∈xs->J4 0 w [(Value.int .i64) x] x) (hn:xs.length*8<=140737488355328):iy 1 8 J4 0 w (.slice (some ⟨g,0,none⟩) xs.length cap) xs:=by
 have hcap:xs.length<=cap:=by
  obtain⟨_,hh⟩:=h;rcases hh with ⟨hh,_⟩|⟨g1,cap1,cur,hv,_,_,h2,_⟩
  ·cases hh
  ·simp only[qw] at hv
   obtain⟨_,_,rfl⟩:=hv;exact h2
 refine⟨_,cap,rfl,⟨hn,hcap⟩,by unfold Len;omega,fun i hi=>⟨g,0,[(Value.int .i64) xs[i]],rfl,jg _,h.lt,rfl,fun j hj=>?_,hR _ (pz hi)⟩⟩;have hj0:j=0:=by simpa using hj
 subst hj0;simp only[Bh,jr,jh,ny];exact h.cell i hi
theorem ao5:(Tryz.prog.info? 3).map (fun i=>(i.zero,i.size,i.bytes))=some (some (.int .i64 0),1,8):=by kernel_rfl
theorem Tf (w:bf) {ops:Array Oper} {rest:List Oper} {o:Oper} {a:Act} {Q:Exit->Act->bf->Prop} (hgd:o.guard=none) (s x:Operand)
  (ho:o.op=.call { callee:=.builtin .append,args:=#[s,x],argTypes:=#[47,47] })
  (base g cap:Nat) (xs:List Int) (hs:a.eval s=.slice (some ⟨g,0,none⟩) xs.length cap) (hown:Ew w base g cap xs)
  (eb:Nat) (y:Int) (hx:a.eval x=.slice (some ⟨eb,0,none⟩) 1 1) (hy:w.cell? ⟨eb,0,none⟩=some ((Value.int .i64) y)) (hb:(xs.length+1)*8<=140737488355328) (hbase:base<=w.heap.size)
  (h:∀g' cap' w',Ew w' base g' cap' (xs++[y])->w.grownBy w' (some g)->wpList Tryz.prog ops Q rest (a.put o.dst (.slice (some ⟨g',0,none⟩) (xs.length+1) cap')) w'):wpList Tryz.prog ops Q (o::rest) a w:=by
 obtain⟨i,hi,hz0,hz1,hz2⟩:=info_parts ao5;refine wpList_append_own w hgd s x 47 ho base 3 i _ 1 8 Tryz.underlying47 hi hz0 hz1 hz2 rfl (by decide) _ xs.length (xs.map (Value.int .i64)) hs hown _ 1 1 [(Value.int .i64) y] hx rfl (fun j u hu=>?_) (fun u hu=>?_) (by simp[maxLen];omega) hb hbase ?_
 ·cases j with
  | zero =>
   simp at hu;subst hu;rw[Addr.add_lit,jh];exact hy
  | succ j=>simp at hu
 ·simp at hu
  subst hu;rfl
 ·intro v' w' h1 h2 h3
  obtain⟨hl,hh⟩:=h1;rcases hh with ⟨rfl,_⟩|⟨g',cap',cur,rfl,hr⟩
  ·have:=h3.1 rfl
   cases this.1
  ·refine h g' cap' w' ⟨by simp,Or.inr ⟨g',cap',cur,by simp,?_⟩⟩ h2
   simpa using hr
def E5 (w:bf) (base g cap:Nat) (xs:List dh):Prop:=w.ownsRow base 9 1 (.slice (some ⟨g,0,none⟩) xs.length cap) xs.length (xs.map Value.string)
theorem E5.below {w w':bf} {base g cap:Nat} {xs:List dh} (h:E5 w base g cap xs) (hb:Below w.heap.size w w'):E5 w' base g cap xs:=by
 have hlt:=(Bd h g rfl).2;obtain⟨h1,h2⟩:=h;refine⟨h1,?_⟩;rcases h2 with h2|⟨g',cap',cur,hv,hg,hh,r⟩
 ·exact Or.inl h2
 ·simp only[qw,uo,Addr.mk.injEq] at hv
  obtain⟨⟨rfl,_⟩,_,rfl⟩:=hv;exact Or.inr ⟨g,cap,cur,rfl,hg,(hb.block g hlt).trans hh,r⟩
theorem E5.cell {w:bf} {base g cap:Nat} {xs:List dh} (h:E5 w base g cap xs) (i:Nat) (hi:i<xs.length):w.cell? ⟨g,i,none⟩=some (Value.string xs[i]):=by
 have:=World.ownsRow.cells h (g:=g) rfl i (Value.string xs[i]) (by simp[hi]);rw[Addr.add_lit,Bh] at this;exact this
theorem E5.lt {w:bf} {base g cap:Nat} {xs:List dh} (h:E5 w base g cap xs):g<w.heap.size:=(Bd h g rfl).2
theorem E5.base {w:bf} {base g cap:Nat} {xs:List dh} (h:E5 w base g cap xs):base<=g:=(Bd h g rfl).1
theorem E5.start (w:bf) (base:Nat) (hb:base<=w.heap.size):E5 (w.alloc (.cells #[] 9)) base w.heap.size 0 [] :=
 ⟨rfl,Or.inr ⟨_,_,#[],rfl,hb,Deep.blk_alloc_new _ _,gq _,jg _,rfl,rfl⟩⟩
theorem E5.at {w:bf} {base g cap:Nat} {xs:List dh} (h:E5 w base g cap xs) (hR:∀x,x∈xs->wz 0 w [Value.string x] x) (hn:xs.length*16<=140737488355328):iy 1 16 wz 0 w (.slice (some ⟨g,0,none⟩) xs.length cap) xs:=by
 have hcap:xs.length<=cap:=by
  obtain⟨_,hh⟩:=h;rcases hh with ⟨hh,_⟩|⟨g1,cap1,cur,hv,_,_,h2,_⟩
  ·cases hh
  ·simp only[qw] at hv
   obtain⟨_,_,rfl⟩:=hv;exact h2
 refine⟨_,cap,rfl,⟨hn,hcap⟩,by unfold Len;omega,fun i hi=>⟨g,0,[Value.string xs[i]],rfl,jg _,h.lt,rfl,fun j hj=>?_,hR _ (pz hi)⟩⟩;have hj0:j=0:=by simpa using hj
 subst hj0;simp only[Bh,jr,jh,ny];exact h.cell i hi
theorem agf:(Tryz.prog.info? 9).map (fun i=>(i.zero,i.size,i.bytes))=some (some (.string ByteArray.empty),1,16):=by kernel_rfl
theorem Yq (w:bf) {ops:Array Oper} {rest:List Oper} {o:Oper} {a:Act} {Q:Exit->Act->bf->Prop} (hgd:o.guard=none) (s x:Operand)
  (ho:o.op=.call { callee:=.builtin .append,args:=#[s,x],argTypes:=#[40,40] })
  (base g cap:Nat) (xs:List dh) (hs:a.eval s=.slice (some ⟨g,0,none⟩) xs.length cap) (hown:E5 w base g cap xs)
  (eb:Nat) (y:dh) (hx:a.eval x=.slice (some ⟨eb,0,none⟩) 1 1) (hy:w.cell? ⟨eb,0,none⟩=some (Value.string y)) (hb:(xs.length+1)*16<=140737488355328) (hbase:base<=w.heap.size)
  (h:∀g' cap' w',E5 w' base g' cap' (xs++[y])->w.grownBy w' (some g)->wpList Tryz.prog ops Q rest (a.put o.dst (.slice (some ⟨g',0,none⟩) (xs.length+1) cap')) w'):wpList Tryz.prog ops Q (o::rest) a w:=by
 obtain⟨i,hi,hz0,hz1,hz2⟩:=info_parts agf;refine wpList_append_own w hgd s x 40 ho base 9 i _ 1 16 Tryz.underlying40 hi hz0 hz1 hz2 rfl (by decide) _ xs.length (xs.map Value.string) hs hown _ 1 1 [Value.string y] hx rfl (fun j u hu=>?_) (fun u hu=>?_) (by simp[maxLen];omega) hb hbase ?_
 ·cases j with
  | zero =>
   simp at hu;subst hu;rw[Addr.add_lit,jh];exact hy
  | succ j=>simp at hu
 ·simp at hu
  subst hu;rfl
 ·intro v' w' h1 h2 h3
  obtain⟨hl,hh⟩:=h1;rcases hh with ⟨rfl,_⟩|⟨g',cap',cur,rfl,hr⟩
  ·have:=h3.1 rfl
   cases this.1
  ·refine h g' cap' w' ⟨by simp,Or.inr ⟨g',cap',cur,by simp,?_⟩⟩ h2
   simpa using hr
theorem ad4 (w:bf) {ops:Array Oper} {rest:List Oper} {o:Oper} {a:Act} {Q:Exit->Act->bf->Prop} (hgd:o.guard=none) (s x:Operand)
  (ho:o.op=.call { callee:=.builtin .append,args:=#[s,x],argTypes:=#[40,40] })
  (base g cap:Nat) (xs:List dh) (hs:a.eval s=.slice (some ⟨g,0,none⟩) xs.length cap) (hown:E5 w base g cap xs)
  (xv:Value) (hx:a.eval x=xv) (ys:List dh) (hsl:iy 1 16 wz 0 w xv ys) (hb:(xs.length+ys.length)*16<=140737488355328) (hbase:base<=w.heap.size)
  (h:∀g' cap' w',E5 w' base g' cap' (xs++ys)->w.grownBy w' (some g)->wpList Tryz.prog ops Q rest (a.put o.dst (.slice (some ⟨g',0,none⟩) (xs.length+ys.length) cap')) w'):wpList Tryz.prog ops Q (o::rest) a w:=by
 obtain⟨i,hi,hz0,hz1,hz2⟩:=info_parts agf;obtain⟨ax,cx,rfl,_,hn,hel⟩:=hsl
 cases ax with
 | none =>
  have hy:ys=[]:=by
   cases ys with
   | nil=>rfl
   | cons y ys =>
    obtain⟨b,o,cs,Fv,_⟩:=hel 0 (by simp)
    cases Fv
  subst hy;refine wpList_plain hgd fun K hK=>?_
  have hcap:xs.length<=cap:=by
   obtain⟨_,hh⟩:=hown;rcases hh with ⟨hh,_⟩|⟨g1,cap1,cur,hv,_,_,h2,_⟩
   ·cases hh
   ·simp only[qw] at hv
    obtain⟨_,_,rfl⟩:=hv;exact h2
  have hrun:=run_append_room_src (P:=Tryz.prog) w 40 40 o.type 9 i Tryz.underlying40 hi g 0 xs.length cap (.slice none 0 cx) 0 [] (Src.ofNil w Tryz.underlying40 cx) (by omega) (fun j hj=>by simp at hj) (fun j hj=>by simp at hj);unfold Oper.wp execOp;simp only[ho,resolve,invoke,builtin,Sem.run_bind,Sem.run_pure,Result.andThen_ok,List.map_toArray,Ap,Gf,hs,hx,hrun,A8];refine hK _ _ ?_;have hsc:w.setCells g (0+xs.length*i.size) []=w:=by simp[World.setCells]
  rw[hsc];have:=h g cap w (by simpa using hown) (World.grownBy.refl w _);simpa using this
 | some ad =>
  have hcellA:∀j u,(ys.map Value.string)[j]?=some u->w.cell? (ad.add j)=some u:=fun j u hu=>by
   have hj:j<ys.length:=by
    have:=(List.getElem?_eq_some_iff.1 hu).1;simpa using this
   obtain⟨b,oo,cs,Fv,_,_,hl,hc,hR⟩:=hel j hj;simp only[uo] at Fv;subst Fv;obtain⟨rfl,_⟩:=hR;have c0:=hc 0 (by simp);simp only[jr,jh,ny] at c0;rw[Addr.add_lit,c0];simp[hj] at hu;rw[hu]
  refine wpList_append_own w hgd s x 40 ho base 9 i _ 1 16 Tryz.underlying40 hi hz0 hz1 hz2 rfl (by decide) _ xs.length (xs.map Value.string) hs hown ad ys.length cx (ys.map Value.string) hx (by simp) hcellA (fun u hu=>?_) (by simp[maxLen];omega) hb hbase ?_
  ·obtain⟨y,_,rfl⟩:=List.mem_map.1 hu
   rfl
  ·intro v' w' h1 h2 h3
   obtain⟨hl,hh⟩:=h1;rcases hh with ⟨rfl,_⟩|⟨g',cap',cur,rfl,hr⟩
   ·have:=h3.1 rfl
    cases this.1
   ·refine h g' cap' w' ⟨by simp,Or.inr ⟨g',cap',cur,by simp,?_⟩⟩ h2
    simpa using hr
theorem C9 {B:Nat} {w w':bf} {cs:Array Value} {t:TypeId} (h:Below (w.heap.size+1) (w.alloc (.cells cs t)) w') (j:Nat):w'.cell? ⟨w.heap.size,j,none⟩=cs[j]?:=by
 rw[h.cell (p:=⟨w.heap.size,j,none⟩) (Ri _),zy _ _ _ _ rfl]
theorem ajf {w w':bf} {cs:Array Value} {t:TypeId} (h:Below (w.alloc (.cells cs t)).heap.size (w.alloc (.cells cs t)) w'):Below (w.heap.size+1) (w.alloc (.cells cs t)) w':=by simpa using h
theorem Wh {B:Nat} {w0 w w':bf} {g:Nat} (h:Below B w0 w) (hg:w.grownBy w' (some g)) (hB:B<=w.heap.size) (hr:B<=g):Below B w0 w' :=
 h.grown hg hB (fun k e=>by simp only[uo] at e;omega)
def jd (l:List dh) (s:dh):Int:=match l.findIdx? (fun x=>x.toList == s.toList) with
 | some i=>i
 | none => -1
theorem aco (l:List dh) (k:Nat) (s:dh) (hn:k<l.length) (h:(l[k].toList == s.toList)=true) (hb:∀j (hj:j<l.length),j<k->(l[j].toList == s.toList)=false):jd l s=k:=by
 unfold jd
 have:l.findIdx? (fun x=>x.toList == s.toList)=some k:=by
  rw[List.findIdx?_eq_some_iff_getElem];refine⟨hn,h,fun j hj=>?_⟩;simp[hb j (by omega) hj]
 rw[this]
theorem aj0 (l:List dh) (s:dh) (hb:∀j (hj:j<l.length),(l[j].toList == s.toList)=false):jd l s = -1:=by
 unfold jd
 have:l.findIdx? (fun x=>x.toList == s.toList)=none:=by
  rw[List.findIdx?_eq_none_iff];intro x hx;obtain⟨j,hj,rfl⟩:=List.getElem_of_mem hx;exact hb j hj
 rw[this]
theorem X3 (l:List dh) (s:dh) : -1<=jd l s∧jd l s<l.length:=by
 unfold jd
 cases h:l.findIdx? (fun x=>x.toList == s.toList) with
 | none=>simp only;omega
 | some i =>
  rw[List.findIdx?_eq_some_iff_getElem] at h;obtain⟨hi,_⟩:=h;simp only;omega
theorem Aa (l:List dh) (v:Value) (s:dh) (w:bf) (hv:iy 1 16 wz 0 w v l) :
  Calls Tryz.prog 20 #[v,.string s] w fun e w'=>e=.returned (.int .i64 (jd l s))∧w'=w:=by
 obtain⟨a,cap,rfl,_,hn,hx⟩:=hv;unfold Len at hn;have HX:=hide hx;clear hx;go_enter Tryz.func20,Tryz.ntmps20;go_wp2
 go_loopg [9] l.length (fun g i wr=>∃(k:Nat),k<=l.length∧g=l.length-k∧i=.int .i64 k∧wr=w∧∀j (h:j<l.length),j<k->(l[j].toList == s.toList)=false)
 case atStart=>exact⟨0,by omega,by omega,rfl,rfl,fun j _ h2=>by omega⟩
 case round =>
  obtain⟨k,hk,hg,rfl,rfl,hall⟩:=hrel;have HG:=hide hg;have HA:=hide hall;clear hg hall
  by_cases hlt:k<l.length
  ·obtain⟨b,o,cs,rfl,_,hb,hcs,hc,hR⟩:=uh HX k hlt
   obtain⟨rfl,hsn⟩:=hR;have c0:=hc 0 (by simp);simp only[jr,jh,ny,o8] at c0;clear hc hcs
   cases he:(l[k].toList == s.toList)
   ·have A':∀j (h:j<l.length),j<k+1->(l[j].toList == s.toList)=false:=by
     intro j h h1
     by_cases e:j=k
     ·subst e;exact he
     ·exact uh HA j h (by omega)
    have HA':=hide A';clear A';go_wp2
    go_roundg (l.length-(k+1))
    case measure=>have:=uh HG;omega
    case rel=>exact⟨k+1,by omega,rfl,by go_num,rfl,uh HA'⟩
   ·have HF:=hide (aco l k s hlt he (uh HA))
    go_wp2;go_ret;exact⟨Td (uh HF).symm,rfl⟩
  ·have HF:=hide (aj0 l s (fun j hj=>uh HA j hj (by omega)))
   go_wp2;go_ret;exact⟨Td (uh HF).symm,rfl⟩
def varsOf (k:dw):List dh:=k.ins.map jw.name++k.ak.map jw.name++k.iq
theorem ao6 {w:bf} {v:Value} {xs:List jw} (h:iy 2 24 Oy 0 w v xs):∀x,x∈xs.map jw.name->Len x.size:=by
 intro x hx;obtain⟨t,ht,rfl⟩:=List.mem_map.1 hx;obtain⟨j,hj,rfl⟩:=List.getElem_of_mem ht;obtain⟨_,_,_,_,_,hel⟩:=h;obtain⟨_,_,_,_,_,_,_,_,hR⟩:=hel j hj;exact hR.2.1
theorem a5i {w:bf} {v:Value} {xs:List dh} (h:iy 1 16 wz 0 w v xs):∀x,x∈xs->Len x.size:=by
 intro x hx;obtain⟨j,hj,rfl⟩:=List.getElem_of_mem hx;obtain⟨_,_,_,_,_,hel⟩:=h;obtain⟨_,_,_,_,_,_,_,_,hR⟩:=hel j hj;exact hR.2
def Lj (pre:List dh) (l:List jw) (k:Nat):List dh:=pre++(l.take k).map jw.name
theorem agh (pre:List dh) (l:List jw):Lj pre l 0=pre:=by simp[Lj]
theorem ahs (pre:List dh) (l:List jw):Lj pre l l.length=pre++l.map jw.name:=by simp[Lj]
theorem agi (pre:List dh) (l:List jw) (k:Nat) (h:k<l.length):Lj pre l (k+1)=Lj pre l k++[l[k].name]:=by
 unfold Lj;rw[Fb h,Il,Gt];rfl
theorem ad5 (pre:List dh) (l:List jw) (k:Nat) (h:k<=l.length):(Lj pre l k).length=pre.length+k:=by
 unfold Lj;rw[je,Ad,Nq];omega
theorem Qa (x:dw) (a1 a2 a3 a4 a5 a6:Value) (w:bf) (h1:iy 2 24 Oy 0 w a1 x.ins) (h2:iy 2 24 Oy 0 w a2 x.ak) (h3:iy 1 16 wz 0 w a3 x.iq) (hsum:x.ins.length+x.ak.length+x.iq.length<=1048576) :
  Calls Tryz.prog 81 #[.agg #[.string x.name,a1,a2,a3,a4,a5,a6]] w fun e w'=>∃v,e=.returned v∧iy 1 16 wz 0 w' v (varsOf x)∧Below w.heap.size w w':=by
 obtain⟨s,ins,ak,iq,eu,au,body⟩:=x;simp only[varsOf] at *;have H1:=hide h1;have H2:=hide h2;have H3:=hide h3;obtain⟨p1,c1,rfl,_,_,hx1⟩:=h1;obtain⟨p2,c2,rfl,_,_,hx2⟩:=h2;have Ak:=hide hx1;have Gl:=hide hx2;clear h3 hx1 hx2;have P0:=hide ((gy w.heap.size w).alloc (gq _) (.cells #[.string s,.slice p1 ins.length c1,.slice p2 ak.length c2,a3,a4,a5,a6] 50))
 have O0:Hid (E5 ((w.alloc (.cells #[.string s,.slice p1 ins.length c1,.slice p2 ak.length c2,a3,a4,a5,a6] 50)).alloc (.cells #[] 9)) (w.heap.size+1) (w.heap.size+1) 0 []):=by
  have:=E5.start (w.alloc (.cells #[.string s,.slice p1 ins.length c1,.slice p2 ak.length c2,a3,a4,a5,a6] 50)) (w.heap.size+1) (by simp);show E5 _ _ _ _ _;simpa using this
 go_enter Tryz.func81,Tryz.ntmps81;go_wp2
 go_loopg [3,12] ins.length (fun gh vv i wr=>∃(k g cap:Nat),k<=ins.length∧gh=ins.length-k∧i=.int .i64 k∧vv=.slice (some ⟨g,0,none⟩) k cap∧E5 wr (w.heap.size+1) g cap (Lj [] ins k)∧Below (w.heap.size+1) (w.alloc (.cells #[.string s,.slice p1 ins.length c1,.slice p2 ak.length c2,a3,a4,a5,a6] 50)) wr)
 case atStart=>exact⟨0,w.heap.size+1,0,jg _,by omega,rfl,rfl,by rw[agh];exact uh O0,(gy _ _).alloc (by simp) _⟩
 case round =>
  obtain⟨k,g,cap,hk,hg,rfl,rfl,hown,hbl⟩:=hrel;rename bf=>wN;have HG:=hide hg;have HOW:=hide hown;have Vk:=hide hbl;have BN:Hid (Below w.heap.size w wN):=(uh P0).trans (hbl.mono (Nat.le_succ _));have hgb:=hown.base;have hNs:w.heap.size+1<=wN.heap.size:=by have:=hbl.size;simpa using this
  have hpl:=ad5 [] ins k hk
  have HLEN:Hid ((Lj [] ins k).length=k):=by
   show (Lj [] ins k).length=k;rw[hpl];simp
  clear hg hown hbl hpl
  by_cases hlt:k<ins.length
  ·obtain⟨b,o,cs,Fv,_,hb,hcs,hc,hR⟩:=uh Ak k hlt
   subst Fv;have hc:∀j (hj:j<cs.length),wN.cell? ⟨b,o+k*2+j,none⟩=some cs[j]:=fun j hj=>by rw[(uh BN).cell (p:=⟨b,_,none⟩) hb];exact hc j hj
   obtain⟨rfl,hsn,hty⟩:=hR;have c0:=hc 0 (by simp);have c1:=hc 1 (by simp);simp only[jr,jh,ny,o8] at c0 c1;have HT:=hide (agi [] ins k hlt);clear hc hcs hty;generalize Lj [] ins k=xs at *;generalize ins[k]=sl at *;obtain⟨nm,ty⟩:=sl;simp only at c0 c1 HT;have Oj:Hid (E5 ((wN.alloc (.cells #[.string nm,.int .i64 ty] 54)).alloc (.cells #[.string nm] 9)) (w.heap.size+1) g cap xs):=(uh HOW).below (((gy _ _).alloc (gq _) _).alloc (by simp) _);have Wu:Hid (Below (w.heap.size+1) _ ((wN.alloc (.cells #[.string nm,.int .i64 ty] 54)).alloc (.cells #[.string nm] 9))):=(uh Vk).trans (((gy _ _).alloc hNs _).alloc (by simp;omega) _);go_wp2_with (at_builtin;go_must (refine Yq _ rfl _ _ rfl (w.heap.size+1) g cap xs (by rw[uh HLEN];rfl) (uh Oj) (wN.heap.size+1) nm rfl (by rw[zy _ _ _ _ (by simp)];rfl) (by rw[uh HLEN];omega) (by simp;omega) ?_));intro g' cap' w7 J9 Ti;have B7:=Wh (uh Wu) Ti (by simp;omega) hgb;rw[←uh HT] at J9;have Xh:=hide J9;have Zp:=hide B7;rw[uh HLEN];clear J9 Ti B7;go_wp2
   go_roundg (ins.length-(k+1))
   case measure=>have:=uh HG;omega
   case rel=>exact⟨k+1,g',cap',by omega,rfl,by go_num,rfl,uh Xh,uh Zp⟩
  ·have e:k=ins.length:=by omega
   have Va:Hid (E5 wN (w.heap.size+1) g cap ([]++ins.map jw.name)):=by
    have:=uh HOW;rw[e,ahs] at this;exact this
   have kb2:wN.cell? ⟨w.heap.size,2,none⟩=some (.slice p2 ak.length c2):=by rw[C9 (B:=0) (uh Vk) 2];rfl
   have kb3:wN.cell? ⟨w.heap.size,3,none⟩=some a3:=by rw[C9 (B:=0) (uh Vk) 3];rfl
   subst e;clear HOW HLEN HG;clear kb3;go_wp2
   go_loopg [3,25] ak.length (fun gh vv i wr=>∃(k g cap:Nat),k<=ak.length∧gh=ak.length-k∧i=.int .i64 k∧vv=.slice (some ⟨g,0,none⟩) (ins.length+k) cap∧E5 wr (w.heap.size+1) g cap (Lj ([]++ins.map jw.name) ak k)∧Below (w.heap.size+1) (w.alloc (.cells #[.string s,.slice p1 ins.length c1,.slice p2 ak.length c2,a3,a4,a5,a6] 50)) wr)
   case atStart=>exact⟨0,g,cap,jg _,by omega,rfl,rfl,by rw[agh];exact uh Va,uh Vk⟩
   case round =>
    obtain⟨k,g,cap,hk,hg,rfl,rfl,hown,hbl⟩:=hrel;rename bf=>wN;have HG:=hide hg;have HOW:=hide hown;have Vk:=hide hbl;have BN:Hid (Below w.heap.size w wN):=(uh P0).trans (hbl.mono (Nat.le_succ _));have hgb:=hown.base;have hNs:w.heap.size+1<=wN.heap.size:=by have:=hbl.size;simpa using this
    have hpl:=ad5 ([]++ins.map jw.name) ak k hk
    have HLEN:Hid ((Lj ([]++ins.map jw.name) ak k).length=(ins.length+k)):=by
     show (Lj ([]++ins.map jw.name) ak k).length=(ins.length+k);rw[hpl];simp
    clear hg hown hbl hpl
    by_cases hlt:k<ak.length
    ·obtain⟨b,o,cs,Fv,_,hb,hcs,hc,hR⟩:=uh Gl k hlt
     subst Fv;have hc:∀j (hj:j<cs.length),wN.cell? ⟨b,o+k*2+j,none⟩=some cs[j]:=fun j hj=>by rw[(uh BN).cell (p:=⟨b,_,none⟩) hb];exact hc j hj
     obtain⟨rfl,hsn,hty⟩:=hR;have c0:=hc 0 (by simp);have c1:=hc 1 (by simp);simp only[jr,jh,ny,o8] at c0 c1;have HT:=hide (agi ([]++ins.map jw.name) ak k hlt);clear hc hcs hty;generalize Lj ([]++ins.map jw.name) ak k=xs at *;generalize ak[k]=sl at *;obtain⟨nm,ty⟩:=sl;simp only at c0 c1 HT;have Oj:Hid (E5 ((wN.alloc (.cells #[.string nm,.int .i64 ty] 54)).alloc (.cells #[.string nm] 9)) (w.heap.size+1) g cap xs):=(uh HOW).below (((gy _ _).alloc (gq _) _).alloc (by simp) _);have Wu:Hid (Below (w.heap.size+1) _ ((wN.alloc (.cells #[.string nm,.int .i64 ty] 54)).alloc (.cells #[.string nm] 9))):=(uh Vk).trans (((gy _ _).alloc hNs _).alloc (by simp;omega) _);go_wp2_with (at_builtin;go_must (refine Yq _ rfl _ _ rfl (w.heap.size+1) g cap xs (by rw[uh HLEN];rfl) (uh Oj) (wN.heap.size+1) nm rfl (by rw[zy _ _ _ _ (by simp)];rfl) (by rw[uh HLEN];omega) (by simp;omega) ?_));intro g' cap' w7 J9 Ti;have B7:=Wh (uh Wu) Ti (by simp;omega) hgb;rw[←uh HT] at J9;have Xh:=hide J9;have Zp:=hide B7;rw[uh HLEN];clear J9 Ti B7;go_wp2
     go_roundg (ak.length-(k+1))
     case measure=>have:=uh HG;omega
     case rel=>exact⟨k+1,g',cap',by omega,rfl,by go_num,by rw[Nat.add_assoc],uh Xh,uh Zp⟩
    ·have e:k=ak.length:=by omega
     have Va:Hid (E5 wN (w.heap.size+1) g cap (([]++ins.map jw.name)++ak.map jw.name)):=by
      have:=uh HOW;rw[e,ahs] at this;exact this
     have kb2:wN.cell? ⟨w.heap.size,2,none⟩=some (.slice p2 ak.length c2):=by rw[C9 (B:=0) (uh Vk) 2];rfl
     have kb3:wN.cell? ⟨w.heap.size,3,none⟩=some a3:=by rw[C9 (B:=0) (uh Vk) 3];rfl
     subst e;clear HOW HLEN HG;have hll:([]++ins.map jw.name++ak.map jw.name).length=ins.length+ak.length:=by simp
     have HLL:=hide hll;have Oq:=hide ((uh H3).stays zo (uh BN))
     have Hy:Hid (∀x,x∈([]++ins.map jw.name++ak.map jw.name)++iq->Len x.size):=by
      intro x hx;rcases Ec.1 hx with hx|hx
      ·rcases Ec.1 hx with hx|hx
       ·exact ao6 (uh H1) x (by simpa using hx)
       ·exact ao6 (uh H2) x hx
      ·exact a5i (uh H3) x hx
     have HEQ:Hid (([]++ins.map jw.name++ak.map jw.name)++iq=ins.map jw.name++ak.map jw.name++iq):=by
      show ([]++ins.map jw.name++ak.map jw.name)++iq=_;rw[Gu]
     clear hll;generalize []++ins.map jw.name++ak.map jw.name=xs at *;go_wp2_with (at_builtin;go_must (refine ad4 _ rfl _ _ rfl (w.heap.size+1) g cap xs (by rw[uh HLL];rfl) (uh Va) _ rfl iq (uh Oq) (by rw[uh HLL];omega) (by omega) ?_));intro g' cap' w7 J9 Ti;have B7:=Wh (uh Vk) Ti (by omega) hgb;have Q7:Below w.heap.size w w7:=(uh P0).trans (B7.mono (Nat.le_succ _));have D7:=J9.at (fun x hx=>⟨rfl,uh Hy x hx⟩) (by rw[je,uh HLL];omega);have HD7:=hide D7;have HQ7:=hide Q7;rw[je] at HD7;rw[uh HEQ] at HD7;clear J9 Ti B7 D7 Q7;go_wp2;go_ret;exact⟨_,rfl,uh HD7,uh HQ7⟩
end Go.Proofs.YtfeejeflmcapoaaGreatDoor
