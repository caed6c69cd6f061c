import Derived.Test.YtfeejeflmcapoaaGreatDoorM14
import Derived.Test.YtfeejeflmcapoaaGreatDoorPI5
import Derived.Test.YtfeejeflmcapoaaGreatDoorMI21
import Derived.Test.YtfeejeflmcapoaaGreatDoorMQ3
import Derived.Test.YtfeejeflmcapoaaGreatDoorRSN
import Derived.Test.YtfeejeflmcapoaaGreatDoorRI3
import Derived.Test.YtfeejeflmcapoaaGreatDoorPS4
import Derived.Maps.Own
import Derived.Test.YtfeejeflmcapoaaGreatDoorRIA
import Derived.Test.YtfeejeflmcapoaaGreatDoorRIF
set_option linter.unusedSimpArgs false
set_option linter.unusedVariables false
set_option maxHeartbeats 4000000
set_option maxRecDepth 20000
namespace Go.Proofs.YtfeejeflmcapoaaGreatDoor
open Go.RowKit
def ake (ks:List dw):Prop:=∀i (hi:i<ks.length),ks[i].ins.length+ks[i].au.length+ks[i].iw.length<=1048576
theorem avp (ks:List dw) (v:Value) (w:cu) (hm:jc 7 160 C9 0 w v ks) (hs:ake ks):alq ks v w:=fun i hi w' hb=>ank ks v i w' (hm.stays D9 hb) hi hs
theorem ah1 (ks:List dw) (v:Value) (w:cu) (hm:jc 7 160 C9 0 w v ks) (hs:ake ks):Calls Tryz.prog 23 #[.agg #[v]] w (Ans (.bool (Pn ks)) w) :=
 anh ks v w hm (avp ks v w hm hs)
open Go.Shelf
theorem st_start (w:cu):St w w.heap.size ByteArray.empty (w.alloc (.cells #[.pointer none,.slice none 0 0] 73)):=by
 refine⟨(iq _ _).alloc (gu _) _,.inl ⟨gu _,.slice none 0 0,oh _ _ _,⟨rfl,.inl ⟨rfl,rfl⟩⟩,?_⟩⟩;intro h
 cases h
theorem avq (ks:List dw) (i:Nat):(F6 (prior ks i)).size<=wo (G8 ks):=by
 rw[ah2]
 have h2:wo (G8 ks)=wo (prior ks i)+wo ((ks.drop i).flatMap (Hu ks)):=by
  rw[←Ez];unfold prior G8;rw[←List.flatMap_append,O8]
 omega
theorem anm (ks:List dw) (v:Value) (w:cu) (hE:Env w) (hv:jc 7 160 C9 0 w v ks) (mb:Bool) (hmk:∀v w,jc 7 160 C9 0 w v ks->Calls Tryz.prog 37 #[.agg #[v]] w (Ans (.bool mb) w)) (hp:mb=true->aso ks/\∀k,k∈ks->∀s,s∈k.body->Nr s<=1048576) :
  Calls Tryz.prog 15 #[.agg #[v]] w (Ans (.string (if mb=true then F6 (G8 ks) else ByteArray.empty)) w):=by
 have HV:=ak hv;obtain⟨a,cap,rfl⟩:=hv.shape
 have hn:ks.length<=140737488355328:=by
  obtain⟨_,_,_,_,h,_⟩:=hv;exact h
 have P0:=ak ((iq w.heap.size w).alloc (gu _) (.cells #[.slice a ks.length cap] 24));have Ap:=ak (hmk _ (w.alloc (.cells #[.slice a ks.length cap] 24)) (hv.stays D9 (uh P0)));have HE:=ak hE;clear hv hE hmk
 cases mb
 ·rw[bf (by simp)]
  go_enter Tryz.func15,Tryz.ntmps15;go_wp2_with fail;refine(uh Ap).mono ?_;rintro e w1 ⟨rfl,hb1⟩;have HB1:Hid (Below w.heap.size w w1):=(uh P0).trans (hb1.mono (uh P0).size);clear hb1 Ap;go_wp2;go_ret;exact⟨rfl,uh HB1⟩
 rw[gy rfl];obtain⟨hpr,hws⟩:=hp rfl;have HPR:=ak hpr;have HWS:=ak hws;have asq:=ak hpr.all;have HPZ:=ak (avq ks)
 have HPE:Hid (F6 (prior ks ks.length)=F6 (G8 ks)):=by
  refine ak ?_;unfold prior G8;rw[Dw]
 generalize F6 (G8 ks)=TX at *;clear hp hpr hws;go_enter Tryz.func15,Tryz.ntmps15;go_wp2_with fail;refine(uh Ap).mono ?_;rintro e w1 ⟨rfl,hb1⟩;have kp:w1.cell? ⟨w.heap.size,0,none⟩=some (.slice a ks.length cap):=by rw[Bz (B:=0) (aje hb1) 0];rfl
 have HB1:Hid (Below w.heap.size w w1):=(uh P0).trans (hb1.mono (uh P0).size);have hs1:w.heap.size<w1.heap.size:=by have:=(aje hb1).size;simp at this;omega
 have HV1:=ak ((uh HV).stays D9 (uh HB1));have HE1:=ak ((uh HE).below (uh HB1) (uh HE).three);have bcm:=ak (st_start w1);have Y1:=ak kp;clear hb1 Ap;go_wp2
 go_loopg [12] ks.length (fun g i wr=>∃(k:Nat),k<=ks.length/\g=ks.length-k/\i=.int .i64 k/\Hid (St w1 w1.heap.size (F6 (prior ks k)) wr))
 case atStart=>exact⟨0,jg _,by omega,rfl,bcm⟩
 case round =>
  obtain⟨k,hk,hg,rfl,HST⟩:=hrel;have HG:=ak hg;clear hg kp;have hpz:=uh HPZ k;have hall:=uh asq
  by_cases hlt:k<ks.length
  ·obtain⟨_,_,Dq,_,_,hex⟩:=uh HV1
   simp only[qw] at Dq;obtain⟨rfl,_,rfl⟩:=Dq;obtain⟨b,o,cs,rfl,_,hb,hcs,hc0,hR⟩:=hex k hlt;have hold:=(uh HST).old;have hc:∀j (hj:j<cs.length),wr.cell? ⟨b,o+k*7+j,none⟩=some cs[j]:=fun j hj=>by rw[hold.cell (p:=⟨b,_,none⟩) hb];exact hc0 j hj
   have km:wr.cell? ⟨w.heap.size,0,none⟩=some (.slice (some ⟨b,o,none⟩) ks.length cap):=(hold.cell (p:=⟨w.heap.size,0,none⟩) hs1).trans (uh Y1);have hzw:w.heap.size<wr.heap.size:=qg hs1 hold.size;have HC2:Hid (∀w',St w1 w1.heap.size (F6 (prior ks k)) w'->Calls Tryz.prog 38 #[.pointer (some ⟨w1.heap.size,0,none⟩),.agg cs.toArray,.slice (some ⟨b,o,none⟩) ks.length cap] w' (ano w1 w1.heap.size (F6 (prior ks k)++F6 (Hu ks ks[k])) w')):=fun w' h=>amr w1 w1.heap.size (uh HE1) ks ks[k] _ (uh HV1) (o7 hlt) (uh HPR) (uh HWS _ (o7 hlt)) cs hR w' _ h (by omega)
   obtain⟨f1,f2,f3,f4,f5,f6,rfl,hnl,q1,q2,q3,q4,q5,q6⟩:=hR;have c0:=hc 0 (by simp);have c1:=hc 1 (by simp);have c2:=hc 2 (by simp);have c3:=hc 3 (by simp);have c4:=hc 4 (by simp);have c5:=hc 5 (by simp);have c6:=hc 6 (by simp);simp only[jr,ji,og,ou] at c0 c1 c2 c3 c4 c5 c6
   have HT:Hid (F6 (prior ks (k+1))=F6 (prior ks k)++F6 (Hu ks ks[k])):=by
    refine ak ?_;rw[ajf ks k hlt,akf]
   obtain⟨b1,d1,rfl⟩:=q1.shape;obtain⟨b2,d2,rfl⟩:=q2.shape;obtain⟨b3,d3,rfl⟩:=q3.shape;obtain⟨b4,d4,rfl⟩:=q4.shape;obtain⟨b5,d5,rfl⟩:=q5.shape;obtain⟨b6,d6,rfl⟩:=q6.shape;have Kq:(k:Int)<(ks.length:Int):=by omega
   have P1:=ak ((iq wr.heap.size wr).alloc (gu _) (.cells #[.string ks[k].name,.slice b1 ks[k].ins.length d1,.slice b2 ks[k].au.length d2,.slice b3 ks[k].iw.length d3,.slice b4 ks[k].gq.length d4,.slice b5 ks[k].ay.length d5,.slice b6 ks[k].body.length d6] 50));have Vh:=ak (uh HC2 _ ((uh HST).on (uh P1)));clear hc hc0 hcs HC2 hnl q1 q2 q3 q4 q5 q6 hex hold;generalize F6 (prior ks k)=tk at *;generalize F6 (Hu ks ks[k])=tn at *;generalize ks[k].ins.length=n1 at *;generalize ks[k].au.length=n2 at *;generalize ks[k].iw.length=n3 at *;generalize ks[k].gq.length=n4 at *;generalize ks[k].ay.length=n5 at *;generalize ks[k].body.length=n6 at *;generalize ks[k].name=nm at *;go_wp2_with fail;refine(uh Vh).mono ?_;rintro e w3 ⟨rfl,hst3,hk3⟩;have Vj:=ak hst3;clear hst3 hk3;go_wp2
   go_roundg (ks.length-(k+1))
   case measure=>have:=uh HG;omega
   case rel=>exact⟨k+1,by omega,rfl,by go_num,(by rw[uh HT];exact Vj)⟩
  ·have e:k=ks.length:=by omega
   have ay2:St w1 w1.heap.size TX wr:=by
    have h8:=uh HST;rw[e,uh HPE] at h8;exact h8
   have hold:=ay2.old;have HC4:=ak (Any.Builder_String_any_k Tryz.lays169 Tryz.pmExtra w1.heap.size w1.heap.size TX.data.toList wr ay2.bld hold.size);have HO:=ak hold;clear hold ay2 e;go_wp2_with fail;refine(uh HC4).mono ?_;rintro e w3 ⟨rfl,_,hb3,_⟩;have HF:=ak ((uh HB1).trans (((uh HO).trans hb3).mono (by omega)));clear hb3;go_wp2;go_ret;exact⟨rfl,uh HF⟩
theorem abo (k:dw) (c:List l9) (hm:k.gq.length<=1000) (h:S9 k c=true):(c≠[]/\c.length<=6000)/\∀t,t∈c->ac1 t:=by
 unfold S9 scM at h;simp only[uy,yc] at h;obtain⟨⟨⟨h1,_⟩,h2⟩,h3⟩:=h;have h1:=xw h1;refine⟨⟨fun e=>by rw[e] at h1;simp at h1,by omega⟩,fun t ht=>?_⟩;have a1:=(agx t).1 (h2 t ht);have a2:=h3 t ht;unfold Vk at a2;simp only[uy,Bool.or_eq_true] at a2;refine⟨fun ho=>?_,fun ho=>?_⟩
 ·unfold Oe
  rcases ho with ho|ho
  ·rcases a1.2 with h9|h9
   ·omega
   ·have h9:=xw h9
    unfold loI Yy at h9;simp[ho] at h9;omega
  ·rcases a2.2 with h9|h9
   ·rw[ho] at h9
    simp at h9
   ·have h9:=xw h9
    omega
 ·rcases a1.2 with h9|h9
  ·omega
  ·have h9:=xw h9
   unfold loI Yy at h9;simp[ho] at h9;omega
theorem Vl {α:Type} (g:α->Nat) (xs:List α) (x:α) (h:x∈xs):g x+xs.length<=pz g xs:=by
 unfold pz
 have:g x<=(xs.map g).sum:=by
  induction xs with
  | nil=>cases h
  | cons y xs ih =>
   simp only[Ai,List.sum_cons];rcases qj.1 h with rfl|h
   ·omega
   ·have:=ih h
    omega
 omega
theorem anp:aen []:=⟨fun t h=>(by cases h),fun t h=>(by cases h),jg _,(by simp[pz])⟩
theorem asr (k:dw) (c:List l9) (hm:k.gq.length<=1000) (h:S9 k c=true) (hw:pz Gh c<=1048576):aen c:=by
 obtain⟨⟨_,h2⟩,h3⟩:=abo k c hm h;refine⟨h3,fun t ht=>?_,h2,hw⟩;have h4:=Vl Gh c t ht;unfold Gh at h4 hw;omega
theorem ah3 {α:Type} {l:List α} (h:¬l.length≠0):l=[]:=Sj (by omega)
theorem a3d (ks:List dw) (k:dw) (s:lu) (hm:k.gq.length<=1000/\k.ay.length<=1000) (ho:∀g,g∈ks->1<=g.au.length/\g.au.length<=1000/\g.ins.length<=1000) (h:yg ks k s=true) (hw:Nr s<=1048576):anq s:=by
 have w1:pz Qp s.au+pz Gh s.code+pz (pz Gh) s.args+s.name.size<=1048576:=by unfold Nr at hw;omega
 have hnm:s.name.size<=1048576:=by omega
 have hou:∀x,x∈s.au->x.size<=1048576:=fun x hx=>by
  have:=Vl Qp s.au x hx;unfold Qp at this w1;omega
 have har:∀c,c∈s.args->pz Gh c<=1048576:=fun c hc=>by
  have:=Vl (pz Gh) s.args c hc;omega
 unfold yg at h
 split at h
 ·cases h
 split at h
 ·cases h
 rename_i hA
 split at h
 ·cases h
 rename_i hB
 split at h
 ·cases h
 rename_i hC
 have ay3:s.kind≠2->s.kind≠3->s.at_=0:=fun a b=>by
  apply Classical.byContradiction;intro c;exact hA ⟨a,b,c⟩
 have hoz:s.kind≠3->s.au=[]/\s.args=[]:=fun a=>by
  refine⟨ah3 (fun c=>hB ⟨a,Or.inl c⟩),ah3 (fun c=>hB ⟨a,Or.inr c⟩)⟩
 have hcz:s.kind≠1->s.kind≠2->s.code=[]:=fun a b=>ah3 (fun c=>hC ⟨a,b,c⟩)
 split at h
 ·rename_i e1
  rw[uy] at h;obtain⟨⟨hne,_⟩,hpt⟩:=abo k s.code hm.1 h.2;obtain⟨z1,z2⟩:=hoz (by omega);have z3:=ay3 (by omega) (by omega);refine⟨⟨(by unfold Oe;omega),hpt,(by rw[z2];intro c hc;cases hc),fun _=>hne,fun h9=>(by omega),by omega⟩,hnm,(by rw[z1];exact⟨by simp,fun x hx=>(by cases hx)⟩),asr k _ hm.1 h.2 (by omega),(by rw[z2];exact⟨by simp,fun c hc=>(by cases hc)⟩)⟩
 split at h
 ·rename_i e1 e2
  rw[uy] at h;obtain⟨⟨hne,_⟩,hpt⟩:=abo k s.code hm.1 h.2;obtain⟨z1,z2⟩:=hoz (by omega);have z3:=xw h.1;refine⟨⟨(by unfold Oe;omega),hpt,(by rw[z2];intro c hc;cases hc),fun _=>hne,fun h9=>(by omega),by omega⟩,hnm,(by rw[z1];exact⟨by simp,fun x hx=>(by cases hx)⟩),asr k _ hm.1 h.2 (by omega),(by rw[z2];exact⟨by simp,fun c hc=>(by cases hc)⟩)⟩
 split at h
 ·rename_i e1 e2 e4
  obtain⟨z1,z2⟩:=hoz (by omega);have z3:=ay3 (by omega) (by omega);have z4:=hcz (by omega) (by omega);refine⟨⟨(by unfold Oe;omega),(by rw[z4];intro t ht;cases ht),(by rw[z2];intro c hc;cases hc),fun h9=>(by omega),fun h9=>(by omega),by omega⟩,hnm,(by rw[z1];exact⟨by simp,fun x hx=>(by cases hx)⟩),(by rw[z4];exact anp),(by rw[z2];exact⟨by simp,fun c hc=>(by cases hc)⟩)⟩
 split at h
 ·rename_i e1 e2 e4 e5
  obtain⟨z1,z2⟩:=hoz (by omega);have z3:=ay3 (by omega) (by omega);have z4:=hcz (by omega) (by omega);refine⟨⟨(by unfold Oe;omega),(by rw[z4];intro t ht;cases ht),(by rw[z2];intro c hc;cases hc),fun h9=>(by omega),fun h9=>(by omega),by omega⟩,hnm,(by rw[z1];exact⟨by simp,fun x hx=>(by cases hx)⟩),(by rw[z4];exact anp),(by rw[z2];exact⟨by simp,fun c hc=>(by cases hc)⟩)⟩
 split at h
 ·rename_i e1 e2 e4 e5 e3
  have z4:=hcz (by omega) (by omega);unfold V7 at h
  split at h
  ·cases h
  rename_i hat
  split at h
  ·cases h
  rename_i g hg
  simp only[uy,yc] at h;obtain⟨⟨h1,_⟩,h3⟩:=h;have h1:=xw h1;have hgo:=ho g (List.mem_of_getElem? hg);refine⟨⟨(by unfold Oe;omega),(by rw[z4];intro t ht;cases ht),fun c hc=>(abo k c hm.1 (h3 c hc)).2,fun h9=>(by omega),fun _=>⟨fun e=>by rw[e] at h1;simp at h1;omega,fun c hc=>(abo k c hm.1 (h3 c hc)).1.1⟩,by omega⟩,hnm,⟨by omega,hou⟩,(by rw[z4];exact anp),⟨by omega,fun c hc=>asr k c hm.1 (h3 c hc) (har c hc)⟩⟩
 ·cases h
theorem a3v (v:Int) (h:Wy v=true):Oe v:=by
 rw[aqx] at h;have h:=xw h;unfold Oe;omega
theorem asu (ks:List dw) (h:Pn ks=true) (hw:pz qy ks<=1048576):ks≠[]/\aso ks/\∀k,k∈ks->∀s,s∈k.body->Nr s<=1048576:=by
 unfold Pn at h;simp only[uy,yc] at h;obtain⟨h0,h1,_,_⟩:=h;have h0:=xw h0
 have hk:∀k,k∈ks->∃i,∃hi:i<ks.length,ks[i]=k/\Gw ks i=true:=fun k hm=>by
  obtain⟨i,hi,e⟩:=List.getElem_of_mem hm;exact⟨i,hi,e,h1 i (uz.2 hi)⟩
 have hc:∀k,k∈ks->(nameB k.name=true/\1<=k.au.length/\k.gq.length<=1000/\k.ay.length<=1000)/\(varsOf k).length<=1000/\(∀t,t∈k.ins++k.au->t.type=1\/t.type=2)/\(∀v,v∈k.gq->Wy v=true)/\(∀g,g∈k.ay->0<=g/\g<(ks.length:Int))/\∀s,s∈k.body->yg ks k s=true:=fun k hm=>by
  obtain⟨i,hi,e,hcb⟩:=hk k hm;unfold Gw at hcb;rw[jy hi] at hcb;simp only[uy,yc] at hcb;rw[e] at hcb;obtain⟨⟨⟨⟨⟨b1,b2⟩,b3⟩,b4⟩,_⟩,_,b5,_,b6,b7,b8,b9,_⟩:=hcb;refine⟨⟨b1,xw b2,xw b3,xw b4⟩,xw b5,fun t ht=>?_,b7,fun g hg=>?_,b9⟩
  ·have:=xw (b6 t ht)
   omega
  ·have:=xw (b8 g hg)
   omega
 have hvl:∀k,(varsOf k).length=k.ins.length+k.au.length+k.iw.length:=fun k=>by simp[varsOf];try omega
 have hwk:∀k,k∈ks->qy k<=1048576:=fun k hm=>by
  have:=Vl qy ks k hm;omega
 have hws:∀k,k∈ks->∀s,s∈k.body->Nr s<=1048576:=fun k hm s hs=>by
  have h2:=hwk k hm;have h3:=Vl Nr k.body s hs;unfold qy at h2;omega
 have hou:∀g,g∈ks->1<=g.au.length/\g.au.length<=1000/\g.ins.length<=1000:=fun g hg=>by
  obtain⟨⟨_,a2,_,_⟩,a5,_⟩:=hc g hg;have:=hvl g;omega
 have hcl:∀k,k∈ks->asv ks k:=fun k hm=>by
  obtain⟨⟨a1,a2,a3,a4⟩,a5,a6,a7,a8,a9⟩:=hc k hm;refine⟨fun s hs=>(a3d ks k s ⟨a3,a4⟩ hou (a9 s hs) (hws k hm s hs)).st,fun v hv=>a3v v (a7 v hv),a8,⟨a3,a4⟩,fun g hg=>?_,⟨fun s hs=>a6 s (Dx.2 (Or.inl hs)),fun s hs=>a6 s (Dx.2 (Or.inr hs))⟩⟩;obtain⟨g0,g1⟩:=a8 g hg;unfold Lm;rw[jy (show g.toNat<ks.length by omega)];exact avg _ (hc _ (o7 _)).1.1
 refine⟨fun e=>by rw[e] at h0;simp at h0,⟨hcl,fun k hm s hs=>?_,fun k hm=>?_,fun k hm=>?_,?_⟩,hws⟩
 ·obtain⟨⟨a1,a2,a3,a4⟩,a5,a6,a7,a8,a9⟩:=hc k hm
  exact a3d ks k s ⟨a3,a4⟩ hou (a9 s hs) (hws k hm s hs)
 ·have h2:=hwk k hm
  unfold qy at h2;refine⟨by omega,fun s hs=>?_,fun s hs=>?_,fun x hx=>?_⟩
  ·have:=Vl Uh k.ins s hs
   unfold Uh at this h2;omega
  ·have:=Vl Uh k.au s hs
   unfold Uh at this h2;omega
  ·have:=Vl Qp k.iw x hx
   unfold Qp at this h2;omega
 ·have h2:=hwk k hm
  unfold qy pz at h2;omega
 ·have:=a3w ks ks hcl
  unfold G8;omega
theorem a3x (f:dw->Nat) (ns:List dw) (n:dw) (h:n∈ns):f n<=(ns.map f).sum:=by
 induction ns with
 | nil=>cases h
 | cons x xs ih =>
  simp only[Ai,List.sum_cons];rcases qj.1 h with rfl|h
  ·omega
  ·have:=ih h
   omega
theorem a6y (ks:List dw) (h:pz qy ks<=1048576):ake ks:=fun i hi=>by
 have h1:=a3x qy ks ks[i] (o7 hi)
 have h2:ks[i].ins.length+ks[i].au.length+ks[i].iw.length<=qy ks[i]:=by
  simp only[qy,pz];omega
 unfold pz at h;omega
def L8 (t:dh):List dw×Int:=if t≠ByteArray.empty/\Xh (Np t)=t then (Np t,0) else ([],1)
def RdP (ks:List dw) (code:Int) (w:cu) (e:Ending) (w':cu):Prop:=∃v bs,e=.returned (.tuple #[.agg #[v],.int .i64 code])/\yj Et Ci w.heap.size w' v ks bs/\Below w.heap.size w w'
theorem anr (ks:List dw) (h:pz qy ks<=1048576) (v:Value) (w:cu) (hv:jc 7 160 C9 0 w v ks):Calls Tryz.prog 10 #[.agg #[v]] w (Ans (.string (Xh ks)) w) :=
 ant ks v w hv (Pn ks) (fun v w h9=>ah1 ks v w h9 (a6y ks h)) (fun hm=>⟨(asu ks hm h).1,(asu ks hm h).2.1⟩)
theorem yj.slC {B:Nat} {w:cu} {v:Value} {ks:List dw} {bs:List Nat} (h:yj Et Ci B w v ks bs):jc 7 160 C9 0 w v ks:=h.rowT.sl rfl (fun _=>rfl) (fun cs x bs h=>avr h)
theorem aqy (t:dh):(t.toList==[])=decide (t=ByteArray.empty):=Hw t ByteArray.empty _ rfl
theorem ap6 (t:dh) (w:cu) (hs:t.size<=1048576):Calls Tryz.prog 4 #[.string t] w (RdP (L8 t).1 (L8 t).2 w):=by
 obtain⟨PO,Gn⟩:=o8 (RdP (L8 t).1 (L8 t).2 w);rw[←Gn];have Dc:=ak Gn;clear Gn;have HW:=ak (alv t);have hA:Below w.heap.size w (w.alloc (.cells #[.slice none 0 0] 24)):=(iq _ _).alloc (gu _) _;have hA2:jd (w.alloc (.cells #[.slice none 0 0] 24)) w.heap.size 24 #[.slice none 0 0]:=oh _ _ _;have HG:=ak (asw t (w.alloc (.cells #[.slice none 0 0] 24)) hs);have HA:=ak (And.intro hA hA2);clear hA hA2;go_enter Tryz.func4,Tryz.ntmps4;go_wp2_with fail;refine(uh HG).mono ?_;rintro e w1 ⟨v,bs,rfl,hmk,hb1⟩;have hrb:jd w1 w.heap.size 24 #[.slice none 0 0]:=(uh HA).2.below hb1 (uh HA).2.lt;have hbw:Below w.heap.size w w1:=(uh HA).1.trans (hb1.mono (uh HA).1.size);obtain⟨ma,mc,rfl⟩:=hmk.slice;obtain⟨ks,hks⟩:=o8 (Np t);have HRD:Hid (L8 t=if t≠ByteArray.empty/\Xh ks=t then (ks,0) else ([],1)):=ak (by rw[hks];rfl);rw[←hks] at hmk HW ⊢;clear hks;obtain⟨mn,hmn⟩:=o8 ks.length;rw[←hmn] at hmk ⊢;clear hmn;obtain⟨w2,hw2⟩:=o8 (w1.alloc (.cells #[.slice ma mn mc] 24));have hb2:Below w1.heap.size w1 w2:=by rw[hw2];exact(iq _ _).alloc (gu _) _
 have hbm:jd w2 w1.heap.size 24 #[.slice ma mn mc]:=by rw[hw2];exact oh _ _ _
 have ah4:=hmk.fr Iy (fun b hb=>hb2.block b (hmk.nd.2 b hb).2) hb2.size;have HPR:=ak (anr ks (ku (uh HW) hs) _ w2 ah4.slC);have HM2:Hid (yj Et Ci w.heap.size w2 (.slice ma mn mc) ks bs/\w.heap.size∉bs):=ak ⟨yj.ay4 ah4 (uh HA).1.size,fun h9=>by have h8:=(hmk.nd.2 _ h9).1;simp at h8;omega⟩;have ac2:jd w2 w.heap.size 24 #[.slice none 0 0]:=hrb.below hb2 hrb.lt;have HB2:Hid (Below w.heap.size w w2):=ak (hbw.trans (hb2.mono hbw.size));have Jb:=ak ac2;have HBM:=ak hbm;have HW2:=ak hw2;clear hmk ah4 hb1 hb2 hbm hrb ac2 hbw hw2 HG
 by_cases hne:t=ByteArray.empty
 ·have e0:(t.toList==[])=true:=by rw[aqy];exact jf hne
  have e1:(t.toList != [])=false:=by simp only[bne,e0];rfl
  have anu:Hid (L8 t=([],1)):=ak (by rw[uh HRD,bf (fun h9=>h9.1 hne)]);have HB4:=HB2;have r0:=(uh Jb).cell (i:=0) (v:=.slice none 0 0) rfl;have rf:=(uh Jb).free 0;have rl:w.heap.size<w2.heap.size:=(uh Jb).lt;have hr2:=(uh Jb).set 0 (.slice none 0 0);have q1:(w2.setCell ⟨w.heap.size,0,none⟩ (.slice none 0 0)).cell? ⟨w.heap.size,0,none⟩=some (.slice none 0 0):=hr2.cell (i:=0) (v:=.slice none 0 0) rfl;clear hne hr2;obtain rfl:=uh HW2;go_wp2;refine bodyPost_ret (v:=.tuple #[.agg #[.slice none 0 0],.int .i64 1]) (by simp[results,Tryz.results4,go_sem,q1]) rfl ?_;rw[uh Dc,uh anu];exact⟨_,[],rfl,yj.nil _ _ _ _,(uh HB4).setCell (gu _) _⟩
 ·have e0:(t.toList==[])=false:=by rw[aqy];exact iy hne
  have e1:(t.toList != [])=true:=by simp only[bne,e0];rfl
  have m0:=(uh HBM).cell (i:=0) (v:=.slice ma mn mc) rfl;have r0:=(uh Jb).cell (i:=0) (v:=.slice none 0 0) rfl;have rf:=(uh Jb).free 0;have rl:w.heap.size<w2.heap.size:=(uh Jb).lt
  have HPE:Hid (∀w3,Below w2.heap.size w2 w3->((w3.cell? ⟨w.heap.size,0,none⟩=some (.slice none 0 0)/\w3.frozen? ⟨w.heap.size,0,none⟩=false/\w.heap.size<w3.heap.size)/\w3.cell? ⟨w1.heap.size,0,none⟩=some (.slice ma mn mc))/\(∀u,(w3.setCell ⟨w.heap.size,0,none⟩ u).cell? ⟨w.heap.size,0,none⟩=some u)/\Below w.heap.size w w3/\yj Et Ci w.heap.size (w3.setCell ⟨w.heap.size,0,none⟩ (.slice ma mn mc)) (.slice ma mn mc) ks bs):=ak (fun w3 hb3=>by
   have hr3:=(uh Jb).below hb3 (uh Jb).lt;have hm3:=(uh HBM).below hb3 (uh HBM).lt;refine⟨⟨⟨hr3.cell (i:=0) (v:=.slice none 0 0) rfl,hr3.free 0,hr3.lt⟩,hm3.cell (i:=0) (v:=.slice ma mn mc) rfl⟩,fun u=>(hr3.set 0 u).cell (i:=0) (v:=u) rfl,(uh HB2).trans (hb3.mono (uh HB2).size),(uh HM2).1.fr Iy (fun b hb=>(zf _ _ _ _ (fun e=>?_)).trans (hb3.block b ((uh HM2).1.nd.2 b hb).2)) (by simp[World.setCell];exact hb3.size)⟩;have e':b=w.heap.size:=e;exact(uh HM2).2 (e'▸hb))
  have HNE:=ak hne;clear hne;go_wp2_with fail;rw[←uh HW2];refine(uh HPR).mono ?_;rintro e w3 ⟨rfl,hb3⟩;obtain⟨⟨⟨a1,a2,a3⟩,a4⟩,a5,hbw3,a6z⟩:=uh HPE w3 hb3;have HB4:=ak hbw3;have Jy:=ak a6z;clear hb3 hbw3 a6z m0 r0 rf rl HPE HPR HW2;generalize hpr:Xh ks=p at HRD ⊢;clear hpr
  by_cases hpt:p=t
  ·have ep:(p.toList==t.toList)=true:=by rw[hpt];simp
   have anu:Hid (L8 t=(ks,0)):=ak (by rw[uh HRD,gy ⟨uh HNE,hpt⟩]);have q1:=a5 (.slice ma mn mc);have beu:=ak hpt;clear hpt a5;go_wp2;refine bodyPost_ret (v:=.tuple #[.agg #[.slice ma mn mc],.int .i64 0]) (by simp[results,Tryz.results4,go_sem,q1]) rfl ?_;rw[uh Dc,uh anu];exact⟨_,bs,rfl,uh Jy,(uh HB4).setCell (gu _) _⟩
  ·have ep:(p.toList==t.toList)=false:=by rw[zi];exact iy hpt
   have anu:Hid (L8 t=([],1)):=ak (by rw[uh HRD,bf (fun h9=>hpt h9.2)]);have q1:=a5 (.slice none 0 0);clear hpt a5;go_wp2;refine bodyPost_ret (v:=.tuple #[.agg #[.slice none 0 0],.int .i64 1]) (by simp[results,Tryz.results4,go_sem,q1]) rfl ?_;rw[uh Dc,uh anu];exact⟨_,[],rfl,yj.nil _ _ _ _,(uh HB4).setCell (gu _) _⟩
open Go.RowKit Go.Shelf
attribute [local go_sem] Oper.semAt_some
theorem anv (ks:List dw) (h:pz qy ks<=1048576) (v:Value) (w:cu) (hE:Env w) (hv:jc 7 160 C9 0 w v ks):Calls Tryz.prog 15 #[.agg #[v]] w (Ans (.string (Xh ks)) w) :=
 anm ks v w hE hv (Pn ks) (fun v w h9=>by
  have h8:=ah5 ks v w h9;rw[asx] at h8;exact h8) (fun hm=>(asu ks hm h).2)
theorem ay5 (t:dh) (w:cu):Calls Tryz.prog 11 #[.string t] w fun e w'=>e=.returned (.func (.func 27) #[] #[.pointer (some ⟨w.heap.size,0,none⟩)])/\w'=w.alloc (.cells #[.string t] 9):=by
 go_enter Tryz.func11,Tryz.ntmps11;go_wp2;go_ret;exact⟨rfl,rfl⟩
def RlI (t:dh) (W0:cu) (rb pb Bs:Nat) (k:Nat) (W:cu):Prop:=∃mv bs,IrS W0.heap.size rb pb (Ut t k) mv bs W/\But [rb,pb,Bs] W0 W
theorem yj.aqz {B:Nat} {w:cu} {v:Value} {cs:List dw} {bs:List Nat} (h:yj Et Ci B w v cs bs):∀b,b∈bs->∃cur T,w.heap[b]?=some (.cells cur T (0,0)):=fun b hb=>by
 obtain⟨cur,T,_,h9⟩:=h.rowT.typ avs b hb;exact⟨cur,T,h9⟩
theorem RlI.own {t:dh} {W0:cu} {rb pb Bs:Nat} (hrb:rb<W0.heap.size) (hpb:pb<W0.heap.size):OwnFrom W0.heap.size (RlI t W0 rb pb Bs):=by
 rintro k A W row ⟨mv,bs,h,hb⟩ hg hr;have hne:∀b,b<W0.heap.size->row≠some b:=fun b h1 e=>by have:=(hr b e).1;omega
 refine⟨mv,bs,⟨(hg.block rb h.box.lt (fun e=>hne rb hrb e.symm)).trans h.box,h.row.fr Iy (fun b h9=>hg.block b (h.row.nd.2 b h9).2 (fun e=>?_)) hg.size,h.map.block (hg.block pb h.map.lt (fun e=>hne pb hpb e.symm)),ku h.size hg.size⟩,⟨hg.os.trans hb.os,hg.tape.trans hb.tape,hg.output.trans hb.output,ku hb.size hg.size,fun i hi hs=>(hg.block i (qg hi hb.size) (fun e=>hne i hi e.symm)).trans (hb.block i hi hs)⟩⟩;obtain⟨_,o,h1,h2⟩:=hr b e.symm;obtain⟨cur,T,h3⟩:=h.row.aqz b h9;rw[h3] at h1;rw[←Gv h1] at h2
 cases h2
theorem RlI.set {t:dh} {W0:cu} {rb pb Bs:Nat} (hBs:Bs<W0.heap.size) (h1:rb≠Bs) (h2:pb≠Bs) (k:Nat) (A:cu) (u:Value) (h:RlI t W0 rb pb Bs k A):RlI t W0 rb pb Bs k (A.setCell ⟨Bs,0,none⟩ u):=by
 obtain⟨mv,bs,h,hb⟩:=h;have hset:∀b,b≠Bs->(A.setCell ⟨Bs,0,none⟩ u).heap[b]?=A.heap[b]?:=fun b hn=>zf _ _ _ _ (fun e=>hn e)
 have hz:(A.setCell ⟨Bs,0,none⟩ u).heap.size=A.heap.size:=by simp[World.setCell]
 exact⟨mv,bs,⟨(hset rb h1).trans h.box,h.row.fr Iy (fun b h9=>hset b (by have:=(h.row.nd.2 b h9).1;omega)) (by omega),h.map.block (hset pb h2),by rw[hz];exact h.size⟩,hb.trans (But.setCell A (by simp) u)⟩
theorem RlI.step {t:dh} {W0 W W':cu} {rb pb Bs k:Nat} (h:RlI t W0 rb pb Bs k W) (hk:Nz W0.heap.size [rb,pb] W W') {mv:Value} {bs:List Nat} (hI:IrS W0.heap.size rb pb (Ut t (k+1)) mv bs W'):RlI t W0 rb pb Bs (k+1) W':=by
 obtain⟨mv0,bs0,h,hb⟩:=h;exact⟨mv,bs,hI,⟨hk.os.trans hb.os,hk.tape.trans hb.tape,hk.output.trans hb.output,ku hb.size hk.size,fun i hi hs=>(hk.old i hi (fun h9=>hs (by simp only[qj,xq,xu] at h9 ⊢;omega))).trans (hb.block i hi hs)⟩⟩
end Go.Proofs.YtfeejeflmcapoaaGreatDoor
