import Derived.Test.YtfeejeflmcapoaaGreatDoorImplFresh
import Derived.Test.YtfeejeflmcapoaaGreatDoorData
import Derived.Test.YtfeejeflmcapoaaGreatDoorProg
import Derived.WalkLawsBesides
import Derived.Deep.AppendSrc
import Derived.OwnWalk
import Derived.Deep.RegionWith
import Derived.RegionTactic
set_option linter.unusedSimpArgs false
set_option linter.unusedVariables false
set_option maxHeartbeats 2000000
namespace Go.Proofs.YtfeejeflmcapoaaGreatDoor
open Go.RowKit
def vw:dh:=⟨#[99,108,97,115,115]⟩
def Ic:dh:=⟨#[105,110]⟩
def Dz:dh:=⟨#[111,117,116]⟩
def Ee:dh:=⟨#[108,111,99]⟩
def Ef:dh:=⟨#[109,101,109]⟩
def Eh:dh:=⟨#[117,115,101]⟩
def Po:dh:=⟨#[101,110,100,99,108,97,115,115]⟩
def Je:dh:=⟨#[115,101,116]⟩
def Fp:dh:=⟨#[115,97,118,101]⟩
def zx:dh:=⟨#[99,97,108,108]⟩
def Qg:dh:=⟨#[105,102]⟩
def Fg:dh:=⟨#[101,108,115,101]⟩
def Iz:dh:=⟨#[101,110,100]⟩
def ql:dh:=⟨#[58]⟩
def Bl:dh:=⟨#[44]⟩
def Z9:dh:=⟨#[105,110,116]⟩
def ae3:dh:=⟨#[98,111,111,108]⟩
def ac8:dh:=⟨#[110,101,103]⟩
def ac9:dh:=⟨#[110,111,116]⟩
def Wq:dh:=⟨#[63]⟩
def Zf:dh:=⟨#[46]⟩
def Wat:dh:=⟨#[64]⟩
def Wnl:dh:=⟨#[10]⟩
def Wsc:dh:=⟨#[32,44,32]⟩
def partT (t:l9):dh :=
 if t.op=1 then qo t.val else if t.op=2 then flT t.val else if t.op=3 then Zf++t.name else if t.op=25 then Wat++qo t.val else if t.op=4 then ac8 else if t.op=5 then ac9 else if t.op=20 then Wq else sgT t.op
def tu (c:List l9):List dh:=c.map partT
def He (c:List l9):dh:=Fb Lsp (tu c)
def vg (Af:List (List l9)):Nat->List dh
 | 0=>[]
 | i+1=>vg Af i++(if i=0 then [] else [Bl])++tu (Af.getD i [])
def Bf (t:Int):dh:=if t=1 then Z9 else ae3
def x9 (s:lu):List dh :=
 if s.kind=1 then [Je,s.name,ql]++tu s.code else if s.kind=2 then [Fp,qo s.at_,ql]++tu s.code
 else if s.kind=3 then [zx,qo s.at_]++s.au++[ql]++vg s.args s.args.length else if s.kind=4 then [Qg,s.name] else if s.kind=5 then [Fg] else [Iz]
def oq (ps:List dh):dh:=Fb Lsp ps
def Lm (ks:List dw) (g:Int):dh:=match ks[g.toNat]? with|some k=>k.name|none=>ByteArray.empty
def Hu (ks:List dw) (k:dw):List dh :=
 [oq [vw,k.name]]++k.ins.map (fun s=>oq [Ic,s.name,Bf s.type])++k.au.map (fun s=>oq [Dz,s.name,Bf s.type])++k.iw.map (fun x=>oq [Ee,x])
  ++ k.gq.map (fun v=>oq [Ef,qo v])++k.ay.map (fun g=>oq [Eh,Lm ks g])++k.body.map (fun s=>oq (x9 s))++[oq [Po]]
def G8 (ks:List dw):List dh:=ks.flatMap (Hu ks)
def F6:List dh->dh
 | []=>ByteArray.empty
 | l::ls=>l++(Wnl++F6 ls)
theorem akf (a b:List dh):F6 (a++b)=F6 a++F6 b:=by
 induction a with
 | nil=>rw[Gm,F6,adl]
 | cons x a ih=>rw[Ew,F6,F6,ih,Bv,Bv]
theorem ara (x:dh):F6 [x]=x++Wnl:=by rw[F6,F6,afq]
def wo (ls:List dh):Nat:=(ls.map (fun l=>l.size+1)).sum
theorem Ez (a b:List dh):wo (a++b)=wo a+wo b:=by simp[wo]
theorem G9 (x:dh) (b:List dh):wo (x::b)=x.size+1+wo b:=by simp[wo]
theorem ah2 (ls:List dh):(F6 ls).size=wo ls:=by
 induction ls with
 | nil=>rfl
 | cons x ls ih =>
  rw[F6,Kz,Kz,ih,G9];have:Wnl.size=1:=rfl;omega
theorem abm (ls:List dh):ls.length<=wo ls:=by
 induction ls with
 | nil=>exact jg _
 | cons x ls ih=>rw[G9,ug];omega
theorem aad (sep:dh) (a:List dh) (x:dh) (h:a≠[]):Fb sep (a++[x])=Fb sep a++sep++x:=by
 have hl:1<=a.length:=E5.2 h;have h1:=ahv sep (a++[x]) a.length (by simp) hl;rw[List.take_left,P8 (by simp)] at h1;rw[h1];simp
theorem ag8 (sep:dh) (a b:List dh) (ha:a≠[]) (hb:b≠[]):Fb sep (a++b)=Fb sep a++(sep++Fb sep b):=by
 obtain⟨n,hn⟩:=o8 b.length
 induction n generalizing b with
 | zero=>exact absurd (Sj hn.symm) hb
 | succ n ih =>
  have hsp:=List.dropLast_concat_getLast hb
  by_cases hd:b.dropLast=[]
  ·rw[←hsp,hd,Gm,aad _ _ _ ha,Ou,Bv]
  ·have h1:=ih b.dropLast hd (by rw[List.length_dropLast];omega)
   rw[←hsp,←Gl,aad _ _ _ (by simp[ha]),h1,aad _ _ _ hd,Bv,Bv,Bv,Bv]
theorem Jl (sep x:dh) (b:List dh) (hb:b≠[]):Fb sep (x::b)=x++(sep++Fb sep b):=by
 have h:=ag8 sep [x] b (by simp) hb;rw[Ou] at h;exact h
theorem a9c (sep:dh) (xs:List dh) (hs:sep.size<=1):(Fb sep xs).size+1<=wo xs+1:=by
 have h1:=ane sep xs;have h2:(Fb sep xs).size=(Lib.join (xs.map (·.data.toList)) sep.data.toList).length:=by simp[Fb,ByteArray.size]
 have h3:sep.size*xs.length<=1*xs.length:=Nat.mul_le_mul_right _ hs
 have h4:wo xs=szs xs+xs.length:=by
  clear h1 h2 h3
  induction xs with
  | nil=>rfl
  | cons x xs ih=>rw[G9,aht,ih,ug];omega
 omega
theorem aow (ps:List dh):(oq ps).size<=wo ps:=by
 have:=a9c Lsp ps (by decide);unfold oq;omega
theorem ae4 {c:List l9} (h:c≠[]):tu c≠[]:=by
 unfold tu;simpa using h
theorem agb (Af:List (List l9)) (h:∀c,c∈Af->c≠[]) (i:Nat) (h1:1<=i) (hi:i<=Af.length):vg Af i≠[]:=by
 cases i with
 | zero=>omega
 | succ i =>
  have h2:Af.getD i []=Af[i]'(by omega):=by rw[yw,jy (by omega)];rfl
  rw[vg,h2];simp only[ne_eq,List.append_eq_nil_iff,not_and];intro _;exact ae4 (h _ (o7 _))
theorem aqe (Af:List (List l9)) (h:∀c,c∈Af->c≠[]) (i:Nat) (h1:1<=i) (hi:i<=Af.length):Fb Lsp (vg Af i)=Fb Wsc ((Af.take i).map He):=by
 induction i with
 | zero=>omega
 | succ i ih =>
  have h2:Af.getD i []=Af[i]'(by omega):=by rw[yw,jy (by omega)];rfl
  have hc:=h _ (o7 (show i<Af.length by omega))
  by_cases e:i=0
  ·subst e
   rw[vg,gy rfl,h2,Eu (by omega),Nj,vg];simp only[Gm,Ai,Fv,Ou];rfl
  ·have hne:=agb Af h i (by omega) (by omega)
   have hne2:(Af.take i).map He≠[]:=by
    intro h9;have h8:=ni List.length h9;rw[zy,Nk,Ar] at h8;omega
   rw[vg,bf e,h2,Gl,ag8 _ _ _ hne (by simp),ag8 _ _ _ (by simp) (ae4 hc),Ou,ih (by omega) (by omega),
    Eu (by omega),Ig,Ai,Fv,aad _ _ _ hne2,Bv]
   have h5:Wsc=Lsp++(Bl++Lsp):=by decide
   rw[h5];unfold He;rw[Bv,Bv]
theorem a0x (s:lu) (h:s.kind=1) (hc:s.code≠[]):oq (x9 s)=Je++(Lsp++(s.name++(Lsp++(ql++(Lsp++He s.code))))):=by
 unfold oq x9;rw[gy h,Ew,Ew,Ew,Gm,Jl _ _ _ (by simp),Jl _ _ _ (by simp),Jl _ _ _ (ae4 hc)];rfl
theorem awy (s:lu) (h:s.kind=2) (hc:s.code≠[]):oq (x9 s)=Fp++(Lsp++(qo s.at_++(Lsp++(ql++(Lsp++He s.code))))):=by
 unfold oq x9;rw[bf (by omega),gy h,Ew,Ew,Ew,Gm,Jl _ _ _ (by simp),Jl _ _ _ (by simp),Jl _ _ _ (ae4 hc)];rfl
theorem awz (s:lu) (h:s.kind=3) (ho:s.au≠[]) (ha:∀c,c∈s.args->c≠[]):oq (x9 s)=zx++(Lsp++(qo s.at_++(Lsp++(Fb Lsp s.au++(Lsp++(ql++(if s.args.length=0 then ByteArray.empty else Lsp++Fb Wsc (s.args.map He)))))))):=by
 unfold oq x9;have e1:[zx,qo s.at_]++s.au++[ql]=zx::qo s.at_::(s.au++[ql]):=by simp
 rw[bf (by omega),bf (by omega),gy h,e1]
 by_cases e:s.args.length=0
 ·rw[gy e,e,vg,Aq,Jl _ _ _ (by simp),Jl _ _ _ (by simp),aad _ _ _ ho,afq,Bv]
 ·have hne:=agb s.args ha s.args.length (by omega) (gu _)
  have hj:=aqe s.args ha s.args.length (by omega) (gu _);rw[Dw] at hj;rw[bf e,ag8 _ _ _ (by simp) hne,hj,Jl _ _ _ (by simp),Jl _ _ _ (by simp),aad _ _ _ ho];simp only[Bv]
theorem a4q (s:lu) (h:s.kind=4):oq (x9 s)=Qg++(Lsp++s.name):=by
 unfold oq x9;rw[bf (by omega),bf (by omega),bf (by omega),gy h,Jl _ _ _ (by simp),Ou]
theorem aw0 (s:lu) (h:s.kind=5):oq (x9 s)=Fg:=by
 unfold oq x9;rw[bf (by omega),bf (by omega),bf (by omega),bf (by omega),gy h,Ou]
theorem a0y (s:lu) (h:s.kind=6):oq (x9 s)=Iz:=by
 unfold oq x9;rw[bf (by omega),bf (by omega),bf (by omega),bf (by omega),bf (by omega),Ou]
theorem acu (a b:dh):oq [a,b]=a++(Lsp++b):=by
 unfold oq;rw[Jl _ _ _ (by simp),Ou]
theorem am5 (a b c:dh):oq [a,b,c]=a++(Lsp++(b++(Lsp++c))):=by
 unfold oq;rw[Jl _ _ _ (by simp),Jl _ _ _ (by simp),Ou]
theorem ag7 (a:dh):oq [a]=a:=by
 unfold oq;rw[Ou]
def Oe (x:Int):Prop:=-2147483648<=x/\x<=2147483648
theorem Qh (n:Int) (h:Oe n):(qo n).size<=11:=by
 unfold Oe at h;have h1:n.natAbs<10000000000:=by omega
 have h2:=avh _ h1;have h3:=avh n.toNat (by omega);unfold qo Lib.itoa;show (List.toArray _).size<=11;rw[List.size_toArray]
 split
 ·simp only[ug]
  omega
 ·omega
structure ac1 (t:l9):Prop where
 num:t.op=1\/t.op=25->Oe t.val
 tru:t.op=2->t.val=0\/t.val=1
theorem aoz (t:l9) (h:ac1 t):(partT t).size<=12+t.name.size:=by
 unfold partT;have e1:Zf.size=1:=rfl;have e2:Wat.size=1:=rfl;have e3:ac8.size=3:=rfl;have e4:ac9.size=3:=rfl;have e5:Wq.size=1:=rfl;have e6:=ayl t.val;have e7:=ayk t.op
 by_cases h1:t.op=1
 ·rw[gy h1];have:=Qh _ (h.num (Or.inl h1));omega
 rw[bf h1]
 by_cases h2:t.op=2
 ·rw[gy h2];omega
 rw[bf h2]
 by_cases h3:t.op=3
 ·rw[gy h3,Kz];omega
 rw[bf h3]
 by_cases h4:t.op=25
 ·rw[gy h4,Kz];have:=Qh _ (h.num (Or.inr h4));omega
 rw[bf h4]
 by_cases h5:t.op=4
 ·rw[gy h5];omega
 rw[bf h5]
 by_cases h6:t.op=5
 ·rw[gy h6];omega
 rw[bf h6]
 by_cases h7:t.op=20
 ·rw[gy h7];omega
 rw[bf h7];omega
theorem Yl {α:Type} (f:α->dh) (g:α->Nat) (c:Nat) (xs:List α) (h:∀x,x∈xs->(f x).size+1<=c*(1+g x)):wo (xs.map f)<=c*pz g xs:=by
 unfold pz
 induction xs with
 | nil=>simp[wo]
 | cons x xs ih =>
  have h1:=h x (Hr ..);have h2:=ih (fun y hy=>h y (Gu _ hy));rw[Ai,G9];simp only[Ai,List.sum_cons,ug];rw[show xs.length+1+(g x+(xs.map g).sum)=(1+g x)+(xs.length+(xs.map g).sum) from by omega,Nat.mul_add];omega
theorem air (c:List l9) (h:∀t,t∈c->ac1 t):wo (tu c)<=20*pz Gh c:=Yl _ _ _ _ (fun t ht=>by have:=aoz t (h t ht);unfold Gh;omega)
theorem a0z (c:List l9) (h:∀t,t∈c->ac1 t):(He c).size<=20*pz Gh c:=ku (aow (tu c)) (air c h)
theorem aw1 {α:Type} (g:α->Nat) (xs:List α) (i:Nat) (hi:i<xs.length):pz g (xs.take (i+1))=pz g (xs.take i)+(1+g xs[i]):=by
 unfold pz;rw[Eu hi,jh,Ig,List.sum_append];simp only[ug,Ar,Ai,Fv,List.sum_cons,List.sum_nil];omega
theorem aw2 (Af:List (List l9)) (h:∀c,c∈Af->∀t,t∈c->ac1 t) (i:Nat) (hi:i<=Af.length):wo (vg Af i)<=20*pz (pz Gh) (Af.take i):=by
 induction i with
 | zero=>simp[vg,wo,pz]
 | succ i ih =>
  have h2:Af.getD i []=Af[i]'(by omega):=by rw[yw,jy (by omega)];rfl
  have h3:=ih (by omega);have h4:=air (Af[i]'(by omega)) (h _ (o7 _));have h5:wo (if i=0 then [] else [Bl])<=2:=by split<;>decide
  rw[vg,h2,Ez,Ez,aw1 _ _ _ (by omega),Nat.mul_add];omega
structure a00 (s:lu):Prop where
 at_:Oe s.at_
 code:∀t,t∈s.code->ac1 t
 args:∀c,c∈s.args->∀t,t∈c->ac1 t
 cne:s.kind=1\/s.kind=2->s.code≠[]
 one:s.kind=3->s.au≠[]/\∀c,c∈s.args->c≠[]
 kind:1<=s.kind/\s.kind<=6
theorem a4r (xs:List dh):wo xs<=20*pz Qp xs:=by
 have h:=Yl id Qp 20 xs (fun x hx=>by unfold Qp;simp only[id];omega);rwa[List.map_id] at h
theorem arb (s:lu) (h:a00 s):wo (x9 s)+1<=64*(1+Nr s):=by
 have h1:=air s.code h.code;have h2:=aw2 s.args h.args s.args.length (gu _);rw[Dw] at h2;have h3:=a4r s.au;have h4:=Qh _ h.at_;have z:Je.size<=8/\Fp.size<=8/\zx.size<=8/\Qg.size<=8/\Fg.size<=8/\Iz.size<=8/\ql.size<=8:=by decide
 obtain⟨z1,z2,z3,z4,z5,z6,z7⟩:=z;have z0:wo []=0:=rfl;unfold x9 Nr
 split
 ·simp only[Ez,G9,z0];omega
 split
 ·simp only[Ez,G9,z0];omega
 split
 ·simp only[Ez,G9,z0];omega
 split
 ·simp only[Ez,G9,z0];omega
 split
 ·simp only[Ez,G9,z0];omega
 ·simp only[Ez,G9,z0];omega
structure asv (ks:List dw) (k:dw):Prop where
 body:∀s,s∈k.body->a00 s
 gq:∀v,v∈k.gq->Oe v
 ins:∀g,g∈k.ay->0<=g/\g<(ks.length:Int)
 few:k.gq.length<=1000/\k.ay.length<=1000
 nm:∀g,g∈k.ay->(Lm ks g).size<=40
 ty:(∀s,s∈k.ins->s.type=1\/s.type=2)/\∀s,s∈k.au->s.type=1\/s.type=2
theorem ad1 (t:Int):(Bf t).size<=4:=by unfold Bf;split<;>decide
theorem a9d (ks:List dw) (k:dw) (h:asv ks k):wo (Hu ks k)<=128*(1+qy k):=by
 have z:vw.size=5/\Ic.size=2/\Dz.size=3/\Ee.size=3/\Ef.size=3/\Eh.size=3/\Po.size=8/\Lsp.size=1:=by decide
 obtain⟨z1,z2,z3,z4,z5,z6,z7,z8⟩:=z;have z0:wo []=0:=rfl;have h1:=Yl (fun s:jw=>oq [Ic,s.name,Bf s.type]) Uh 64 k.ins (fun s hs=>by have:=ad1 s.type;simp only[am5,Kz,Uh];omega);have h2:=Yl (fun s:jw=>oq [Dz,s.name,Bf s.type]) Uh 64 k.au (fun s hs=>by have:=ad1 s.type;simp only[am5,Kz,Uh];omega);have h3:=Yl (fun x:dh=>oq [Ee,x]) Qp 64 k.iw (fun s hs=>by simp only[acu,Kz,Qp];omega);have h4:=Yl (fun v:Int=>oq [Ef,qo v]) (fun _=>0) 64 k.gq (fun v hv=>by have:=Qh v (h.gq v hv);simp only[acu,Kz];omega);have h5:=Yl (fun g:Int=>oq [Eh,Lm ks g]) (fun _=>0) 64 k.ay (fun g hg=>by have:=h.nm g hg;simp only[acu,Kz];omega);have h6:=Yl (fun s:lu=>oq (x9 s)) Nr 64 k.body (fun s hs=>by have:=arb s (h.body s hs);have:=aow (x9 s);omega)
 have e:∀l:List Int,pz (fun _:Int=>0) l=l.length:=by
  intro l;unfold pz
  have h9:∀l:List Int,(l.map (fun _:Int=>0)).sum=0:=by
   intro l
   induction l with
   | nil=>rfl
   | cons x l ih=>simpa using ih
  rw[h9];omega
 rw[e] at h4 h5
 have e0:(oq [vw,k.name]).size=6+k.name.size:=by
  rw[acu];simp only[Kz];omega
 have e9:(oq [Po]).size=8:=by
  rw[ag7];exact z7
 unfold Hu qy;simp only[Ez,G9,z0,e0,e9];omega
theorem a3w (ks0 ks:List dw) (h:∀k,k∈ks->asv ks0 k):wo (ks.flatMap (Hu ks0))<=128*pz qy ks:=by
 unfold pz
 induction ks with
 | nil=>simp[wo]
 | cons k ks ih =>
  have h1:=a9d ks0 k (h k (Hr ..));have h2:=ih (fun y hy=>h y (Gu _ hy));rw[List.flatMap_cons,Ez];simp only[Ai,List.sum_cons,ug];omega
def En (w:cu) (base g cap:Nat) (xs:List Int):Prop:=w.ownsRow base 3 1 (.slice (some ⟨g,0,none⟩) xs.length cap) xs.length (xs.map (Value.int .i64))
theorem En.below {w w':cu} {base g cap:Nat} {xs:List Int} (h:En w base g cap xs) (hb:Below w.heap.size w w'):En w' base g cap xs:=by
 have hlt:=(Az h g rfl).2;obtain⟨h1,h2⟩:=h;refine⟨h1,?_⟩;rcases h2 with h2|⟨g',cap',cur,hv,hg,hh,r⟩
 ·exact Or.inl h2
 ·simp only[qw,uw,Addr.mk.injEq] at hv
  obtain⟨⟨rfl,_⟩,_,rfl⟩:=hv;exact Or.inr ⟨g,cap,cur,rfl,hg,(hb.block g hlt).trans hh,r⟩
theorem En.cell {w:cu} {base g cap:Nat} {xs:List Int} (h:En w base g cap xs) (i:Nat) (hi:i<xs.length):w.cell? ⟨g,i,none⟩=some ((Value.int .i64) xs[i]):=by
 have:=World.ownsRow.cells h (g:=g) rfl i ((Value.int .i64) xs[i]) (by simp[hi]);rw[Addr.add_lit,Ba] at this;exact this
theorem En.lt {w:cu} {base g cap:Nat} {xs:List Int} (h:En w base g cap xs):g<w.heap.size:=(Az h g rfl).2
theorem En.base {w:cu} {base g cap:Nat} {xs:List Int} (h:En w base g cap xs):base<=g:=(Az h g rfl).1
theorem En.start (w:cu) (base:Nat) (hb:base<=w.heap.size):En (w.alloc (.cells #[] 3)) base w.heap.size 0 [] :=
 ⟨rfl,Or.inr ⟨_,_,#[],rfl,hb,Deep.blk_alloc_new _ _,gu _,jg _,rfl,rfl⟩⟩
theorem En.at {w:cu} {base g cap:Nat} {xs:List Int} (h:En w base g cap xs) (hR:∀x,x∈xs->Jv 0 w [(Value.int .i64) x] x) (hn:xs.length*8<=140737488355328):jc 1 8 Jv 0 w (.slice (some ⟨g,0,none⟩) xs.length cap) xs:=by
 have hcap:xs.length<=cap:=by
  obtain⟨_,hh⟩:=h;rcases hh with ⟨hh,_⟩|⟨g1,cap1,cur,hv,_,_,h2,_⟩
  ·cases hh
  ·simp only[qw] at hv
   obtain⟨_,_,rfl⟩:=hv;exact h2
 refine⟨_,cap,rfl,⟨hn,hcap⟩,by unfold Len;omega,fun i hi=>⟨g,0,[(Value.int .i64) xs[i]],rfl,jg _,h.lt,rfl,fun j hj=>?_,hR _ (o7 hi)⟩⟩;have hj0:j=0:=by simpa using hj
 subst hj0;simp only[Ba,jr,ji,og];exact h.cell i hi
theorem ao0:(Tryz.prog.info? 3).map (fun i=>(i.zero,i.size,i.bytes))=some (some (.int .i64 0),1,8):=by kernel_rfl
theorem Sr (w:cu) {ops:Array Oper} {rest:List Oper} {o:Oper} {a:Act} {Q:Exit->Act->cu->Prop} (hgd:o.guard=none) (s x:Operand)
  (ho:o.op=.call { callee:=.builtin .append,args:=#[s,x],argTypes:=#[47,47] })
  (base g cap:Nat) (xs:List Int) (hs:a.eval s=.slice (some ⟨g,0,none⟩) xs.length cap) (hown:En w base g cap xs)
  (eb:Nat) (y:Int) (hx:a.eval x=.slice (some ⟨eb,0,none⟩) 1 1) (hy:w.cell? ⟨eb,0,none⟩=some ((Value.int .i64) y)) (hb:(xs.length+1)*8<=140737488355328) (hbase:base<=w.heap.size)
  (h:∀g' cap' w',En w' base g' cap' (xs++[y])->w.grownBy w' (some g)->wpList Tryz.prog ops Q rest (a.put o.dst (.slice (some ⟨g',0,none⟩) (xs.length+1) cap')) w'):wpList Tryz.prog ops Q (o::rest) a w:=by
 obtain⟨i,hi,hz0,hz1,hz2⟩:=info_parts ao0;refine wpList_append_own w hgd s x 47 ho base 3 i _ 1 8 Tryz.underlying47 hi hz0 hz1 hz2 rfl (by decide) _ xs.length (xs.map (Value.int .i64)) hs hown _ 1 1 [(Value.int .i64) y] hx rfl (fun j u hu=>?_) (fun u hu=>?_) (by simp[maxLen];omega) hb hbase ?_
 ·cases j with
  | zero =>
   simp at hu;subst hu;rw[Addr.add_lit,ji];exact hy
  | succ j=>simp at hu
 ·simp at hu
  subst hu;rfl
 ·intro v' w' h1 h2 h3
  obtain⟨hl,hh⟩:=h1;rcases hh with ⟨rfl,_⟩|⟨g',cap',cur,rfl,hr⟩
  ·have:=h3.1 rfl
   cases this.1
  ·refine h g' cap' w' ⟨by simp,Or.inr ⟨g',cap',cur,by simp,?_⟩⟩ h2
   simpa using hr
def Es (w:cu) (base g cap:Nat) (xs:List dh):Prop:=w.ownsRow base 9 1 (.slice (some ⟨g,0,none⟩) xs.length cap) xs.length (xs.map Value.string)
theorem Es.below {w w':cu} {base g cap:Nat} {xs:List dh} (h:Es w base g cap xs) (hb:Below w.heap.size w w'):Es w' base g cap xs:=by
 have hlt:=(Az h g rfl).2;obtain⟨h1,h2⟩:=h;refine⟨h1,?_⟩;rcases h2 with h2|⟨g',cap',cur,hv,hg,hh,r⟩
 ·exact Or.inl h2
 ·simp only[qw,uw,Addr.mk.injEq] at hv
  obtain⟨⟨rfl,_⟩,_,rfl⟩:=hv;exact Or.inr ⟨g,cap,cur,rfl,hg,(hb.block g hlt).trans hh,r⟩
theorem Es.cell {w:cu} {base g cap:Nat} {xs:List dh} (h:Es w base g cap xs) (i:Nat) (hi:i<xs.length):w.cell? ⟨g,i,none⟩=some (Value.string xs[i]):=by
 have:=World.ownsRow.cells h (g:=g) rfl i (Value.string xs[i]) (by simp[hi]);rw[Addr.add_lit,Ba] at this;exact this
theorem Es.lt {w:cu} {base g cap:Nat} {xs:List dh} (h:Es w base g cap xs):g<w.heap.size:=(Az h g rfl).2
theorem Es.base {w:cu} {base g cap:Nat} {xs:List dh} (h:Es w base g cap xs):base<=g:=(Az h g rfl).1
theorem Es.start (w:cu) (base:Nat) (hb:base<=w.heap.size):Es (w.alloc (.cells #[] 9)) base w.heap.size 0 [] :=
 ⟨rfl,Or.inr ⟨_,_,#[],rfl,hb,Deep.blk_alloc_new _ _,gu _,jg _,rfl,rfl⟩⟩
theorem Es.at {w:cu} {base g cap:Nat} {xs:List dh} (h:Es w base g cap xs) (hR:∀x,x∈xs->xk 0 w [Value.string x] x) (hn:xs.length*16<=140737488355328):jc 1 16 xk 0 w (.slice (some ⟨g,0,none⟩) xs.length cap) xs:=by
 have hcap:xs.length<=cap:=by
  obtain⟨_,hh⟩:=h;rcases hh with ⟨hh,_⟩|⟨g1,cap1,cur,hv,_,_,h2,_⟩
  ·cases hh
  ·simp only[qw] at hv
   obtain⟨_,_,rfl⟩:=hv;exact h2
 refine⟨_,cap,rfl,⟨hn,hcap⟩,by unfold Len;omega,fun i hi=>⟨g,0,[Value.string xs[i]],rfl,jg _,h.lt,rfl,fun j hj=>?_,hR _ (o7 hi)⟩⟩;have hj0:j=0:=by simpa using hj
 subst hj0;simp only[Ba,jr,ji,og];exact h.cell i hi
theorem agc:(Tryz.prog.info? 9).map (fun i=>(i.zero,i.size,i.bytes))=some (some (.string ByteArray.empty),1,16):=by kernel_rfl
theorem Ym (w:cu) {ops:Array Oper} {rest:List Oper} {o:Oper} {a:Act} {Q:Exit->Act->cu->Prop} (hgd:o.guard=none) (s x:Operand)
  (ho:o.op=.call { callee:=.builtin .append,args:=#[s,x],argTypes:=#[40,40] })
  (base g cap:Nat) (xs:List dh) (hs:a.eval s=.slice (some ⟨g,0,none⟩) xs.length cap) (hown:Es w base g cap xs)
  (eb:Nat) (y:dh) (hx:a.eval x=.slice (some ⟨eb,0,none⟩) 1 1) (hy:w.cell? ⟨eb,0,none⟩=some (Value.string y)) (hb:(xs.length+1)*16<=140737488355328) (hbase:base<=w.heap.size)
  (h:∀g' cap' w',Es w' base g' cap' (xs++[y])->w.grownBy w' (some g)->wpList Tryz.prog ops Q rest (a.put o.dst (.slice (some ⟨g',0,none⟩) (xs.length+1) cap')) w'):wpList Tryz.prog ops Q (o::rest) a w:=by
 obtain⟨i,hi,hz0,hz1,hz2⟩:=info_parts agc;refine wpList_append_own w hgd s x 40 ho base 9 i _ 1 16 Tryz.underlying40 hi hz0 hz1 hz2 rfl (by decide) _ xs.length (xs.map Value.string) hs hown _ 1 1 [Value.string y] hx rfl (fun j u hu=>?_) (fun u hu=>?_) (by simp[maxLen];omega) hb hbase ?_
 ·cases j with
  | zero =>
   simp at hu;subst hu;rw[Addr.add_lit,ji];exact hy
  | succ j=>simp at hu
 ·simp at hu
  subst hu;rfl
 ·intro v' w' h1 h2 h3
  obtain⟨hl,hh⟩:=h1;rcases hh with ⟨rfl,_⟩|⟨g',cap',cur,rfl,hr⟩
  ·have:=h3.1 rfl
   cases this.1
  ·refine h g' cap' w' ⟨by simp,Or.inr ⟨g',cap',cur,by simp,?_⟩⟩ h2
   simpa using hr
theorem ad2 (w:cu) {ops:Array Oper} {rest:List Oper} {o:Oper} {a:Act} {Q:Exit->Act->cu->Prop} (hgd:o.guard=none) (s x:Operand)
  (ho:o.op=.call { callee:=.builtin .append,args:=#[s,x],argTypes:=#[40,40] })
  (base g cap:Nat) (xs:List dh) (hs:a.eval s=.slice (some ⟨g,0,none⟩) xs.length cap) (hown:Es w base g cap xs)
  (xv:Value) (hx:a.eval x=xv) (ys:List dh) (hsl:jc 1 16 xk 0 w xv ys) (hb:(xs.length+ys.length)*16<=140737488355328) (hbase:base<=w.heap.size)
  (h:∀g' cap' w',Es w' base g' cap' (xs++ys)->w.grownBy w' (some g)->wpList Tryz.prog ops Q rest (a.put o.dst (.slice (some ⟨g',0,none⟩) (xs.length+ys.length) cap')) w'):wpList Tryz.prog ops Q (o::rest) a w:=by
 obtain⟨i,hi,hz0,hz1,hz2⟩:=info_parts agc;obtain⟨ax,cx,rfl,_,hn,hel⟩:=hsl
 cases ax with
 | none =>
  have hy:ys=[]:=by
   cases ys with
   | nil=>rfl
   | cons y ys =>
    obtain⟨b,o,cs,Fe,_⟩:=hel 0 (by simp)
    cases Fe
  subst hy;refine wpList_plain hgd fun K hK=>?_
  have hcap:xs.length<=cap:=by
   obtain⟨_,hh⟩:=hown;rcases hh with ⟨hh,_⟩|⟨g1,cap1,cur,hv,_,_,h2,_⟩
   ·cases hh
   ·simp only[qw] at hv
    obtain⟨_,_,rfl⟩:=hv;exact h2
  have hrun:=run_append_room_src (P:=Tryz.prog) w 40 40 o.type 9 i Tryz.underlying40 hi g 0 xs.length cap (.slice none 0 cx) 0 [] (Src.ofNil w Tryz.underlying40 cx) (by omega) (fun j hj=>by simp at hj) (fun j hj=>by simp at hj);unfold Oper.wp execOp;simp only[ho,resolve,invoke,builtin,Sem.run_bind,Sem.run_pure,Result.andThen_ok,List.map_toArray,Ai,Fv,hs,hx,hrun,Ar];refine hK _ _ ?_;have hsc:w.setCells g (0+xs.length*i.size) []=w:=by simp[World.setCells]
  rw[hsc];have:=h g cap w (by simpa using hown) (World.grownBy.refl w _);simpa using this
 | some ad =>
  have hcellA:∀j u,(ys.map Value.string)[j]?=some u->w.cell? (ad.add j)=some u:=fun j u hu=>by
   have hj:j<ys.length:=by
    have:=(List.getElem?_eq_some_iff.1 hu).1;simpa using this
   obtain⟨b,oo,cs,Fe,_,_,hl,hc,hR⟩:=hel j hj;simp only[uw] at Fe;subst Fe;obtain⟨rfl,_⟩:=hR;have c0:=hc 0 (by simp);simp only[jr,ji,og] at c0;rw[Addr.add_lit,c0];simp[hj] at hu;rw[hu]
  refine wpList_append_own w hgd s x 40 ho base 9 i _ 1 16 Tryz.underlying40 hi hz0 hz1 hz2 rfl (by decide) _ xs.length (xs.map Value.string) hs hown ad ys.length cx (ys.map Value.string) hx (by simp) hcellA (fun u hu=>?_) (by simp[maxLen];omega) hb hbase ?_
  ·obtain⟨y,_,rfl⟩:=List.mem_map.1 hu
   rfl
  ·intro v' w' h1 h2 h3
   obtain⟨hl,hh⟩:=h1;rcases hh with ⟨rfl,_⟩|⟨g',cap',cur,rfl,hr⟩
   ·have:=h3.1 rfl
    cases this.1
   ·refine h g' cap' w' ⟨by simp,Or.inr ⟨g',cap',cur,by simp,?_⟩⟩ h2
    simpa using hr
theorem Bz {B:Nat} {w w':cu} {cs:Array Value} {t:TypeId} (h:Below (w.heap.size+1) (w.alloc (.cells cs t)) w') (j:Nat):w'.cell? ⟨w.heap.size,j,none⟩=cs[j]?:=by
 rw[h.cell (p:=⟨w.heap.size,j,none⟩) (Sl _),zu _ _ _ _ rfl]
theorem aje {w w':cu} {cs:Array Value} {t:TypeId} (h:Below (w.alloc (.cells cs t)).heap.size (w.alloc (.cells cs t)) w'):Below (w.heap.size+1) (w.alloc (.cells cs t)) w':=by simpa using h
theorem V6 {B:Nat} {w0 w w':cu} {g:Nat} (h:Below B w0 w) (hg:w.grownBy w' (some g)) (hB:B<=w.heap.size) (hr:B<=g):Below B w0 w' :=
 h.grown hg hB (fun k e=>by simp only[uw] at e;omega)
def je (l:List dh) (s:dh):Int:=match l.findIdx? (fun x=>x.toList==s.toList) with
 | some i=>i
 | none => -1
theorem aci (l:List dh) (k:Nat) (s:dh) (hn:k<l.length) (h:(l[k].toList==s.toList)=true) (hb:∀j (hj:j<l.length),j<k->(l[j].toList==s.toList)=false):je l s=k:=by
 unfold je
 have:l.findIdx? (fun x=>x.toList==s.toList)=some k:=by
  rw[List.findIdx?_eq_some_iff_getElem];refine⟨hn,h,fun j hj=>?_⟩;simp[hb j (by omega) hj]
 rw[this]
theorem ajy (l:List dh) (s:dh) (hb:∀j (hj:j<l.length),(l[j].toList==s.toList)=false):je l s = -1:=by
 unfold je
 have:l.findIdx? (fun x=>x.toList==s.toList)=none:=by
  rw[List.findIdx?_eq_none_iff];intro x hx;obtain⟨j,hj,rfl⟩:=List.getElem_of_mem hx;exact hb j hj
 rw[this]
theorem Xw (l:List dh) (s:dh) : -1<=je l s/\je l s<l.length:=by
 unfold je
 cases h:l.findIdx? (fun x=>x.toList==s.toList) with
 | none=>simp only;omega
 | some i =>
  rw[List.findIdx?_eq_some_iff_getElem] at h;obtain⟨hi,_⟩:=h;simp only;omega
theorem D6 (l:List dh) (v:Value) (s:dh) (w:cu) (hv:jc 1 16 xk 0 w v l) :
  Calls Tryz.prog 20 #[v,.string s] w fun e w'=>e=.returned (.int .i64 (je l s))/\w'=w:=by
 obtain⟨a,cap,rfl,_,hn,hx⟩:=hv;unfold Len at hn;have HX:=ak hx;clear hx;go_enter Tryz.func20,Tryz.ntmps20;go_wp2
 go_loopg [9] l.length (fun g i wr=>∃(k:Nat),k<=l.length/\g=l.length-k/\i=.int .i64 k/\wr=w/\∀j (h:j<l.length),j<k->(l[j].toList==s.toList)=false)
 case atStart=>exact⟨0,by omega,by omega,rfl,rfl,fun j _ h2=>by omega⟩
 case round =>
  obtain⟨k,hk,hg,rfl,rfl,hall⟩:=hrel;have HG:=ak hg;have HA:=ak hall;clear hg hall
  by_cases hlt:k<l.length
  ·obtain⟨b,o,cs,rfl,_,hb,hcs,hc,hR⟩:=uh HX k hlt
   obtain⟨rfl,hsn⟩:=hR;have c0:=hc 0 (by simp);simp only[jr,ji,og,ou] at c0;clear hc hcs
   cases he:(l[k].toList==s.toList)
   ·have A':∀j (h:j<l.length),j<k+1->(l[j].toList==s.toList)=false:=by
     intro j h h1
     by_cases e:j=k
     ·subst e;exact he
     ·exact uh HA j h (by omega)
    have HA':=ak A';clear A';go_wp2
    go_roundg (l.length-(k+1))
    case measure=>have:=uh HG;omega
    case rel=>exact⟨k+1,by omega,rfl,by go_num,rfl,uh HA'⟩
   ·have HF:=ak (aci l k s hlt he (uh HA))
    go_wp2;go_ret;exact⟨Sm (uh HF).symm,rfl⟩
  ·have HF:=ak (ajy l s (fun j hj=>uh HA j hj (by omega)))
   go_wp2;go_ret;exact⟨Sm (uh HF).symm,rfl⟩
def varsOf (k:dw):List dh:=k.ins.map jw.name++k.au.map jw.name++k.iw
theorem ao1 {w:cu} {v:Value} {xs:List jw} (h:jc 2 24 Oq 0 w v xs):∀x,x∈xs.map jw.name->Len x.size:=by
 intro x hx;obtain⟨t,ht,rfl⟩:=List.mem_map.1 hx;obtain⟨j,hj,rfl⟩:=List.getElem_of_mem ht;obtain⟨_,_,_,_,_,hel⟩:=h;obtain⟨_,_,_,_,_,_,_,_,hR⟩:=hel j hj;exact hR.2.1
theorem a4s {w:cu} {v:Value} {xs:List dh} (h:jc 1 16 xk 0 w v xs):∀x,x∈xs->Len x.size:=by
 intro x hx;obtain⟨j,hj,rfl⟩:=List.getElem_of_mem hx;obtain⟨_,_,_,_,_,hel⟩:=h;obtain⟨_,_,_,_,_,_,_,_,hR⟩:=hel j hj;exact hR.2
def Le (pre:List dh) (l:List jw) (k:Nat):List dh:=pre++(l.take k).map jw.name
theorem agd (pre:List dh) (l:List jw):Le pre l 0=pre:=by simp[Le]
theorem ahq (pre:List dh) (l:List jw):Le pre l l.length=pre++l.map jw.name:=by simp[Le]
theorem agf (pre:List dh) (l:List jw) (k:Nat) (h:k<l.length):Le pre l (k+1)=Le pre l k++[l[k].name]:=by
 unfold Le;rw[Eu h,Ig,Gl];rfl
theorem ad3 (pre:List dh) (l:List jw) (k:Nat) (h:k<=l.length):(Le pre l k).length=pre.length+k:=by
 unfold Le;rw[jh,zy,Nk];omega
theorem Py (x:dw) (a1 a2 a3 a4 a5 a6:Value) (w:cu) (h1:jc 2 24 Oq 0 w a1 x.ins) (h2:jc 2 24 Oq 0 w a2 x.au) (h3:jc 1 16 xk 0 w a3 x.iw) (hsum:x.ins.length+x.au.length+x.iw.length<=1048576) :
  Calls Tryz.prog 81 #[.agg #[.string x.name,a1,a2,a3,a4,a5,a6]] w fun e w'=>∃v,e=.returned v/\jc 1 16 xk 0 w' v (varsOf x)/\Below w.heap.size w w':=by
 obtain⟨s,ins,au,iw,gq,ay,body⟩:=x;simp only[varsOf] at *;have H1:=ak h1;have H2:=ak h2;have H3:=ak h3;obtain⟨p1,c1,rfl,_,_,hx1⟩:=h1;obtain⟨p2,c2,rfl,_,_,hx2⟩:=h2;have Ag:=ak hx1;have F8:=ak hx2;clear h3 hx1 hx2;have P0:=ak ((iq w.heap.size w).alloc (gu _) (.cells #[.string s,.slice p1 ins.length c1,.slice p2 au.length c2,a3,a4,a5,a6] 50))
 have O0:Hid (Es ((w.alloc (.cells #[.string s,.slice p1 ins.length c1,.slice p2 au.length c2,a3,a4,a5,a6] 50)).alloc (.cells #[] 9)) (w.heap.size+1) (w.heap.size+1) 0 []):=by
  have:=Es.start (w.alloc (.cells #[.string s,.slice p1 ins.length c1,.slice p2 au.length c2,a3,a4,a5,a6] 50)) (w.heap.size+1) (by simp);show Es _ _ _ _ _;simpa using this
 go_enter Tryz.func81,Tryz.ntmps81;go_wp2
 go_loopg [3,12] ins.length (fun gh vv i wr=>∃(k g cap:Nat),k<=ins.length/\gh=ins.length-k/\i=.int .i64 k/\vv=.slice (some ⟨g,0,none⟩) k cap/\Es wr (w.heap.size+1) g cap (Le [] ins k)/\Below (w.heap.size+1) (w.alloc (.cells #[.string s,.slice p1 ins.length c1,.slice p2 au.length c2,a3,a4,a5,a6] 50)) wr)
 case atStart=>exact⟨0,w.heap.size+1,0,jg _,by omega,rfl,rfl,by rw[agd];exact uh O0,(iq _ _).alloc (by simp) _⟩
 case round =>
  obtain⟨k,g,cap,hk,hg,rfl,rfl,hown,hbl⟩:=hrel;rename cu=>wN;have HG:=ak hg;have HOW:=ak hown;have Vf:=ak hbl;have BN:Hid (Below w.heap.size w wN):=(uh P0).trans (hbl.mono (Nat.le_succ _));have hgb:=hown.base;have hNs:w.heap.size+1<=wN.heap.size:=by have:=hbl.size;simpa using this
  have hpl:=ad3 [] ins k hk
  have HLEN:Hid ((Le [] ins k).length=k):=by
   show (Le [] ins k).length=k;rw[hpl];simp
  clear hg hown hbl hpl
  by_cases hlt:k<ins.length
  ·obtain⟨b,o,cs,Fe,_,hb,hcs,hc,hR⟩:=uh Ag k hlt
   subst Fe;have hc:∀j (hj:j<cs.length),wN.cell? ⟨b,o+k*2+j,none⟩=some cs[j]:=fun j hj=>by rw[(uh BN).cell (p:=⟨b,_,none⟩) hb];exact hc j hj
   obtain⟨rfl,hsn,hty⟩:=hR;have c0:=hc 0 (by simp);have c1:=hc 1 (by simp);simp only[jr,ji,og,ou] at c0 c1;have HT:=ak (agf [] ins k hlt);clear hc hcs hty;generalize Le [] ins k=xs at *;generalize ins[k]=sl at *;obtain⟨nm,ty⟩:=sl;simp only at c0 c1 HT;have Oh:Hid (Es ((wN.alloc (.cells #[.string nm,.int .i64 ty] 54)).alloc (.cells #[.string nm] 9)) (w.heap.size+1) g cap xs):=(uh HOW).below (((iq _ _).alloc (gu _) _).alloc (by simp) _);have Wj:Hid (Below (w.heap.size+1) _ ((wN.alloc (.cells #[.string nm,.int .i64 ty] 54)).alloc (.cells #[.string nm] 9))):=(uh Vf).trans (((iq _ _).alloc hNs _).alloc (by simp;omega) _);go_wp2_with (at_builtin;go_must (refine Ym _ rfl _ _ rfl (w.heap.size+1) g cap xs (by rw[uh HLEN];rfl) (uh Oh) (wN.heap.size+1) nm rfl (by rw[zu _ _ _ _ (by simp)];rfl) (by rw[uh HLEN];omega) (by simp;omega) ?_));intro g' cap' w7 J6 Sv;have B7:=V6 (uh Wj) Sv (by simp;omega) hgb;rw[←uh HT] at J6;have Xd:=ak J6;have Zn:=ak B7;rw[uh HLEN];clear J6 Sv B7;go_wp2
   go_roundg (ins.length-(k+1))
   case measure=>have:=uh HG;omega
   case rel=>exact⟨k+1,g',cap',by omega,rfl,by go_num,rfl,uh Xd,uh Zn⟩
  ·have e:k=ins.length:=by omega
   have U6:Hid (Es wN (w.heap.size+1) g cap ([]++ins.map jw.name)):=by
    have:=uh HOW;rw[e,ahq] at this;exact this
   have kb2:wN.cell? ⟨w.heap.size,2,none⟩=some (.slice p2 au.length c2):=by rw[Bz (B:=0) (uh Vf) 2];rfl
   have kb3:wN.cell? ⟨w.heap.size,3,none⟩=some a3:=by rw[Bz (B:=0) (uh Vf) 3];rfl
   subst e;clear HOW HLEN HG;clear kb3;go_wp2
   go_loopg [3,25] au.length (fun gh vv i wr=>∃(k g cap:Nat),k<=au.length/\gh=au.length-k/\i=.int .i64 k/\vv=.slice (some ⟨g,0,none⟩) (ins.length+k) cap/\Es wr (w.heap.size+1) g cap (Le ([]++ins.map jw.name) au k)/\Below (w.heap.size+1) (w.alloc (.cells #[.string s,.slice p1 ins.length c1,.slice p2 au.length c2,a3,a4,a5,a6] 50)) wr)
   case atStart=>exact⟨0,g,cap,jg _,by omega,rfl,rfl,by rw[agd];exact uh U6,uh Vf⟩
   case round =>
    obtain⟨k,g,cap,hk,hg,rfl,rfl,hown,hbl⟩:=hrel;rename cu=>wN;have HG:=ak hg;have HOW:=ak hown;have Vf:=ak hbl;have BN:Hid (Below w.heap.size w wN):=(uh P0).trans (hbl.mono (Nat.le_succ _));have hgb:=hown.base;have hNs:w.heap.size+1<=wN.heap.size:=by have:=hbl.size;simpa using this
    have hpl:=ad3 ([]++ins.map jw.name) au k hk
    have HLEN:Hid ((Le ([]++ins.map jw.name) au k).length=(ins.length+k)):=by
     show (Le ([]++ins.map jw.name) au k).length=(ins.length+k);rw[hpl];simp
    clear hg hown hbl hpl
    by_cases hlt:k<au.length
    ·obtain⟨b,o,cs,Fe,_,hb,hcs,hc,hR⟩:=uh F8 k hlt
     subst Fe;have hc:∀j (hj:j<cs.length),wN.cell? ⟨b,o+k*2+j,none⟩=some cs[j]:=fun j hj=>by rw[(uh BN).cell (p:=⟨b,_,none⟩) hb];exact hc j hj
     obtain⟨rfl,hsn,hty⟩:=hR;have c0:=hc 0 (by simp);have c1:=hc 1 (by simp);simp only[jr,ji,og,ou] at c0 c1;have HT:=ak (agf ([]++ins.map jw.name) au k hlt);clear hc hcs hty;generalize Le ([]++ins.map jw.name) au k=xs at *;generalize au[k]=sl at *;obtain⟨nm,ty⟩:=sl;simp only at c0 c1 HT;have Oh:Hid (Es ((wN.alloc (.cells #[.string nm,.int .i64 ty] 54)).alloc (.cells #[.string nm] 9)) (w.heap.size+1) g cap xs):=(uh HOW).below (((iq _ _).alloc (gu _) _).alloc (by simp) _);have Wj:Hid (Below (w.heap.size+1) _ ((wN.alloc (.cells #[.string nm,.int .i64 ty] 54)).alloc (.cells #[.string nm] 9))):=(uh Vf).trans (((iq _ _).alloc hNs _).alloc (by simp;omega) _);go_wp2_with (at_builtin;go_must (refine Ym _ rfl _ _ rfl (w.heap.size+1) g cap xs (by rw[uh HLEN];rfl) (uh Oh) (wN.heap.size+1) nm rfl (by rw[zu _ _ _ _ (by simp)];rfl) (by rw[uh HLEN];omega) (by simp;omega) ?_));intro g' cap' w7 J6 Sv;have B7:=V6 (uh Wj) Sv (by simp;omega) hgb;rw[←uh HT] at J6;have Xd:=ak J6;have Zn:=ak B7;rw[uh HLEN];clear J6 Sv B7;go_wp2
     go_roundg (au.length-(k+1))
     case measure=>have:=uh HG;omega
     case rel=>exact⟨k+1,g',cap',by omega,rfl,by go_num,by rw[Nat.add_assoc],uh Xd,uh Zn⟩
    ·have e:k=au.length:=by omega
     have U6:Hid (Es wN (w.heap.size+1) g cap (([]++ins.map jw.name)++au.map jw.name)):=by
      have:=uh HOW;rw[e,ahq] at this;exact this
     have kb2:wN.cell? ⟨w.heap.size,2,none⟩=some (.slice p2 au.length c2):=by rw[Bz (B:=0) (uh Vf) 2];rfl
     have kb3:wN.cell? ⟨w.heap.size,3,none⟩=some a3:=by rw[Bz (B:=0) (uh Vf) 3];rfl
     subst e;clear HOW HLEN HG;have hll:([]++ins.map jw.name++au.map jw.name).length=ins.length+au.length:=by simp
     have HLL:=ak hll;have Ol:=ak ((uh H3).stays zk (uh BN))
     have Ho:Hid (∀x,x∈([]++ins.map jw.name++au.map jw.name)++iw->Len x.size):=by
      intro x hx;rcases Dx.1 hx with hx|hx
      ·rcases Dx.1 hx with hx|hx
       ·exact ao1 (uh H1) x (by simpa using hx)
       ·exact ao1 (uh H2) x hx
      ·exact a4s (uh H3) x hx
     have HEQ:Hid (([]++ins.map jw.name++au.map jw.name)++iw=ins.map jw.name++au.map jw.name++iw):=by
      show ([]++ins.map jw.name++au.map jw.name)++iw=_;rw[Gm]
     clear hll;generalize []++ins.map jw.name++au.map jw.name=xs at *;go_wp2_with (at_builtin;go_must (refine ad2 _ rfl _ _ rfl (w.heap.size+1) g cap xs (by rw[uh HLL];rfl) (uh U6) _ rfl iw (uh Ol) (by rw[uh HLL];omega) (by omega) ?_));intro g' cap' w7 J6 Sv;have B7:=V6 (uh Vf) Sv (by omega) hgb;have Q7:Below w.heap.size w w7:=(uh P0).trans (B7.mono (Nat.le_succ _));have D7:=J6.at (fun x hx=>⟨rfl,uh Ho x hx⟩) (by rw[jh,uh HLL];omega);have HD7:=ak D7;have HQ7:=ak Q7;rw[jh] at HD7;rw[uh HEQ] at HD7;clear J6 Sv B7 D7 Q7;go_wp2;go_ret;exact⟨_,rfl,uh HD7,uh HQ7⟩
end Go.Proofs.YtfeejeflmcapoaaGreatDoor
