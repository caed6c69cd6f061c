import Derived.Test.YtfeejeflmcapoaaGreatDoorM14
import Derived.Test.YtfeejeflmcapoaaGreatDoorPI5
import Derived.Test.YtfeejeflmcapoaaGreatDoorMI21
import Derived.Test.YtfeejeflmcapoaaGreatDoorMQ3
import Derived.Test.YtfeejeflmcapoaaGreatDoorRSN
import Derived.Test.YtfeejeflmcapoaaGreatDoorRI3
import Derived.Test.YtfeejeflmcapoaaGreatDoorPS4
import Derived.Maps.Own
import Derived.Test.YtfeejeflmcapoaaGreatDoorRIA
import Derived.Test.YtfeejeflmcapoaaGreatDoorRIF
set_option linter.unusedSimpArgs false
set_option linter.unusedVariables false
set_option maxHeartbeats 4000000
namespace Go.Proofs.YtfeejeflmcapoaaGreatDoor
open Go.RowKit
def akg (ks:List dw):Prop:=∀i (hi:i<ks.length),ks[i].ins.length+ks[i].ak.length+ks[i].iq.length<=1048576
theorem avs (ks:List dw) (v:Value) (w:bf) (hm:iy 7 160 Dl 0 w v ks) (hs:akg ks):aav ks v w:=fun i hi w' hb=>anl ks v i w' (hm.stays Ei hb) hi hs
theorem ah3 (ks:List dw) (v:Value) (w:bf) (hm:iy 7 160 Dl 0 w v ks) (hs:akg ks):Calls Tryz.prog 23 #[.agg #[v]] w (Ans (.bool (Py ks)) w) :=
 ani ks v w hm (avs ks v w hm hs)
open Go.Shelf
theorem st_start (w:bf):St w w.heap.size ByteArray.empty (w.alloc (.cells #[.pointer none,.slice none 0 0] 73)):=by
 refine⟨(gy _ _).alloc (gq _) _,.inl ⟨gq _,.slice none 0 0,og _ _ _,⟨rfl,.inl ⟨rfl,rfl⟩⟩,?_⟩⟩;intro h
 cases h
theorem avt (ks:List dw) (i:Nat):(Gi (prior ks i)).size<=vk (Ho ks):=by
 rw[ah4]
 have h2:vk (Ho ks)=vk (prior ks i)+vk ((ks.drop i).flatMap (Ia ks)):=by
  rw[←Fj];unfold prior Ho;rw[←List.flatMap_append,Pj]
 omega
set_option maxRecDepth 20000 in
theorem ano (ks:List dw) (v:Value) (w:bf) (hE:Env w) (hv:iy 7 160 Dl 0 w v ks) (mb:Bool) (hmk:∀v w,iy 7 160 Dl 0 w v ks->Calls Tryz.prog 37 #[.agg #[v]] w (Ans (.bool mb) w)) (hp:mb=true->asr ks∧∀k,k∈ks->∀s,s∈k.body->Nv s<=1048576) :
  Calls Tryz.prog 15 #[.agg #[v]] w (Ans (.string (if mb=true then Gi (Ho ks) else ByteArray.empty)) w):=by
 have HV:=hide hv;obtain⟨a,cap,rfl⟩:=hv.shape
 have hn:ks.length<=140737488355328:=by
  obtain⟨_,_,_,_,h,_⟩:=hv;exact h
 have P0:=hide ((gy w.heap.size w).alloc (gq _) (.cells #[.slice a ks.length cap] 24));have Aw:=hide (hmk _ (w.alloc (.cells #[.slice a ks.length cap] 24)) (hv.stays Ei (uh P0)));have HE:=hide hE;clear hv hE hmk
 cases mb
 ·rw[ay (by simp)]
  go_enter Tryz.func15,Tryz.ntmps15;go_wp2_with fail;refine(uh Aw).mono ?_;rintro e w1 ⟨rfl,hb1⟩;have HB1:Hid (Below w.heap.size w w1):=(uh P0).trans (hb1.mono (uh P0).size);clear hb1 Aw;go_wp2;go_ret;exact⟨rfl,uh HB1⟩
 rw[gu rfl];obtain⟨hpr,hws⟩:=hp rfl;have HPR:=hide hpr;have HWS:=hide hws;have asu:=hide hpr.all;have HPZ:=hide (avt ks)
 have HPE:Hid (Gi (prior ks ks.length)=Gi (Ho ks)):=by
  refine hide ?_;unfold prior Ho;rw[Eb]
 generalize Gi (Ho ks)=TX at *;clear hp hpr hws;go_enter Tryz.func15,Tryz.ntmps15;go_wp2_with fail;refine(uh Aw).mono ?_;rintro e w1 ⟨rfl,hb1⟩;have kp:w1.cell? ⟨w.heap.size,0,none⟩=some (.slice a ks.length cap):=by rw[C9 (B:=0) (ajf hb1) 0];rfl
 have HB1:Hid (Below w.heap.size w w1):=(uh P0).trans (hb1.mono (uh P0).size);have hs1:w.heap.size<w1.heap.size:=by have:=(ajf hb1).size;simp at this;omega
 have HV1:=hide ((uh HV).stays Ei (uh HB1));have HE1:=hide ((uh HE).below (uh HB1) (uh HE).three);have bdb:=hide (st_start w1);have Y3:=hide kp;clear hb1 Aw;go_wp2
 go_loopg [12] ks.length (fun g i wr=>∃(k:Nat),k<=ks.length∧g=ks.length-k∧i=.int .i64 k∧Hid (St w1 w1.heap.size (Gi (prior ks k)) wr))
 case atStart=>exact⟨0,jg _,by omega,rfl,bdb⟩
 case round =>
  obtain⟨k,hk,hg,rfl,HST⟩:=hrel;have HG:=hide hg;clear hg kp;have hpz:=uh HPZ k;have hall:=uh asu
  by_cases hlt:k<ks.length
  ·obtain⟨_,_,D6,_,_,hex⟩:=uh HV1
   simp only[qw] at D6;obtain⟨rfl,_,rfl⟩:=D6;obtain⟨b,o,cs,rfl,_,hb,hcs,hc0,hR⟩:=hex k hlt;have hold:=(uh HST).old;have hc:∀j (hj:j<cs.length),wr.cell? ⟨b,o+k*7+j,none⟩=some cs[j]:=fun j hj=>by rw[hold.cell (p:=⟨b,_,none⟩) hb];exact hc0 j hj
   have km:wr.cell? ⟨w.heap.size,0,none⟩=some (.slice (some ⟨b,o,none⟩) ks.length cap):=(hold.cell (p:=⟨w.heap.size,0,none⟩) hs1).trans (uh Y3);have hzw:w.heap.size<wr.heap.size:=qj hs1 hold.size;have HC2:Hid (∀w',St w1 w1.heap.size (Gi (prior ks k)) w'->Calls Tryz.prog 38 #[.pointer (some ⟨w1.heap.size,0,none⟩),.agg cs.toArray,.slice (some ⟨b,o,none⟩) ks.length cap] w' (anp w1 w1.heap.size (Gi (prior ks k)++Gi (Ia ks ks[k])) w')):=fun w' h=>ams w1 w1.heap.size (uh HE1) ks ks[k] _ (uh HV1) (pz hlt) (uh HPR) (uh HWS _ (pz hlt)) cs hR w' _ h (by omega)
   obtain⟨f1,f2,f3,f4,f5,f6,rfl,hnl,q1,q2,q3,q4,q5,q6⟩:=hR;have c0:=hc 0 (by simp);have c1:=hc 1 (by simp);have c2:=hc 2 (by simp);have c3:=hc 3 (by simp);have c4:=hc 4 (by simp);have c5:=hc 5 (by simp);have c6:=hc 6 (by simp);simp only[jr,jh,ny,o8] at c0 c1 c2 c3 c4 c5 c6
   have HT:Hid (Gi (prior ks (k+1))=Gi (prior ks k)++Gi (Ia ks ks[k])):=by
    refine hide ?_;rw[ajg ks k hlt,akh]
   obtain⟨b1,d1,rfl⟩:=q1.shape;obtain⟨b2,d2,rfl⟩:=q2.shape;obtain⟨b3,d3,rfl⟩:=q3.shape;obtain⟨b4,d4,rfl⟩:=q4.shape;obtain⟨b5,d5,rfl⟩:=q5.shape;obtain⟨b6,d6,rfl⟩:=q6.shape;have Ku:(k:Int)<(ks.length:Int):=by omega
   have P1:=hide ((gy wr.heap.size wr).alloc (gq _) (.cells #[.string ks[k].name,.slice b1 ks[k].ins.length d1,.slice b2 ks[k].ak.length d2,.slice b3 ks[k].iq.length d3,.slice b4 ks[k].eu.length d4,.slice b5 ks[k].au.length d5,.slice b6 ks[k].body.length d6] 50));have Vm:=hide (uh HC2 _ ((uh HST).on (uh P1)));clear hc hc0 hcs HC2 hnl q1 q2 q3 q4 q5 q6 hex hold;generalize Gi (prior ks k)=tk at *;generalize Gi (Ia ks ks[k])=tn at *;generalize ks[k].ins.length=n1 at *;generalize ks[k].ak.length=n2 at *;generalize ks[k].iq.length=n3 at *;generalize ks[k].eu.length=n4 at *;generalize ks[k].au.length=n5 at *;generalize ks[k].body.length=n6 at *;generalize ks[k].name=nm at *;go_wp2_with fail;refine(uh Vm).mono ?_;rintro e w3 ⟨rfl,hst3,hk3⟩;have Vo:=hide hst3;clear hst3 hk3;go_wp2
   go_roundg (ks.length-(k+1))
   case measure=>have:=uh HG;omega
   case rel=>exact⟨k+1,by omega,rfl,by go_num,(by rw[uh HT];exact Vo)⟩
  ·have e:k=ks.length:=by omega
   have ay7:St w1 w1.heap.size TX wr:=by
    have h8:=uh HST;rw[e,uh HPE] at h8;exact h8
   have hold:=ay7.old;have HC4:=hide (Any.Builder_String_any_k Tryz.lays169 Tryz.pmExtra w1.heap.size w1.heap.size TX.data.toList wr ay7.bld hold.size);have HO:=hide hold;clear hold ay7 e;go_wp2_with fail;refine(uh HC4).mono ?_;rintro e w3 ⟨rfl,_,hb3,_⟩;have HF:=hide ((uh HB1).trans (((uh HO).trans hb3).mono (by omega)));clear hb3;go_wp2;go_ret;exact⟨rfl,uh HF⟩
theorem abr (k:dw) (c:List ku) (hm:k.eu.length<=1000) (h:Tn k c=true):(c≠[]∧c.length<=6000)∧∀t,t∈c->ac4 t:=by
 unfold Tn scM at h;simp only[uq,xw] at h;obtain⟨⟨⟨h1,_⟩,h2⟩,h3⟩:=h;have h1:=xq h1;refine⟨⟨fun e=>by rw[e] at h1;simp at h1,by omega⟩,fun t ht=>?_⟩;have a1:=(agz t).1 (h2 t ht);have a2:=h3 t ht;unfold Vp at a2;simp only[uq,Bool.or_eq_true] at a2;refine⟨fun ho=>?_,fun ho=>?_⟩
 ·unfold Oh
  rcases ho with ho|ho
  ·rcases a1.2 with h9|h9
   ·omega
   ·have h9:=xq h9
    unfold loI Y0 at h9;simp[ho] at h9;omega
  ·rcases a2.2 with h9|h9
   ·rw[ho] at h9
    simp at h9
   ·have h9:=xq h9
    omega
 ·rcases a1.2 with h9|h9
  ·omega
  ·have h9:=xq h9
   unfold loI Y0 at h9;simp[ho] at h9;omega
theorem Vq {α:Type} (g:α->Nat) (xs:List α) (x:α) (h:x∈xs):g x+xs.length<=oq g xs:=by
 unfold oq
 have:g x<=(xs.map g).sum:=by
  induction xs with
  | nil=>cases h
  | cons y xs ih =>
   simp only[Ap,List.sum_cons];rcases ql.1 h with rfl|h
   ·omega
   ·have:=ih h
    omega
 omega
theorem anq:aep []:=⟨fun t h=>(by cases h),fun t h=>(by cases h),jg _,(by simp[oq])⟩
theorem asv (k:dw) (c:List ku) (hm:k.eu.length<=1000) (h:Tn k c=true) (hw:oq Gq c<=1048576):aep c:=by
 obtain⟨⟨_,h2⟩,h3⟩:=abr k c hm h;refine⟨h3,fun t ht=>?_,h2,hw⟩;have h4:=Vq Gq c t ht;unfold Gq at h4 hw;omega
theorem ah5 {α:Type} {l:List α} (h:¬l.length≠0):l=[]:=Qe (by omega)
theorem a3n (ks:List dw) (k:dw) (s:lu) (hm:k.eu.length<=1000∧k.au.length<=1000) (ho:∀g,g∈ks->1<=g.ak.length∧g.ak.length<=1000∧g.ins.length<=1000) (h:x9 ks k s=true) (hw:Nv s<=1048576):anr s:=by
 have w1:oq Qw s.ak+oq Gq s.code+oq (oq Gq) s.args+s.name.size<=1048576:=by unfold Nv at hw;omega
 have hnm:s.name.size<=1048576:=by omega
 have hou:∀x,x∈s.ak->x.size<=1048576:=fun x hx=>by
  have:=Vq Qw s.ak x hx;unfold Qw at this w1;omega
 have har:∀c,c∈s.args->oq Gq c<=1048576:=fun c hc=>by
  have:=Vq (oq Gq) s.args c hc;omega
 unfold x9 at h
 split at h
 ·cases h
 split at h
 ·cases h
 rename_i hA
 split at h
 ·cases h
 rename_i hB
 split at h
 ·cases h
 rename_i hC
 have ay8:s.kind≠2->s.kind≠3->s.at_=0:=fun a b=>by
  apply Classical.byContradiction;intro c;exact hA ⟨a,b,c⟩
 have hoz:s.kind≠3->s.ak=[]∧s.args=[]:=fun a=>by
  refine⟨ah5 (fun c=>hB ⟨a,Or.inl c⟩),ah5 (fun c=>hB ⟨a,Or.inr c⟩)⟩
 have hcz:s.kind≠1->s.kind≠2->s.code=[]:=fun a b=>ah5 (fun c=>hC ⟨a,b,c⟩)
 split at h
 ·rename_i e1
  rw[uq] at h;obtain⟨⟨hne,_⟩,hpt⟩:=abr k s.code hm.1 h.2;obtain⟨z1,z2⟩:=hoz (by omega);have z3:=ay8 (by omega) (by omega);refine⟨⟨(by unfold Oh;omega),hpt,(by rw[z2];intro c hc;cases hc),fun _=>hne,fun h9=>(by omega),by omega⟩,hnm,(by rw[z1];exact⟨by simp,fun x hx=>(by cases hx)⟩),asv k _ hm.1 h.2 (by omega),(by rw[z2];exact⟨by simp,fun c hc=>(by cases hc)⟩)⟩
 split at h
 ·rename_i e1 e2
  rw[uq] at h;obtain⟨⟨hne,_⟩,hpt⟩:=abr k s.code hm.1 h.2;obtain⟨z1,z2⟩:=hoz (by omega);have z3:=xq h.1;refine⟨⟨(by unfold Oh;omega),hpt,(by rw[z2];intro c hc;cases hc),fun _=>hne,fun h9=>(by omega),by omega⟩,hnm,(by rw[z1];exact⟨by simp,fun x hx=>(by cases hx)⟩),asv k _ hm.1 h.2 (by omega),(by rw[z2];exact⟨by simp,fun c hc=>(by cases hc)⟩)⟩
 split at h
 ·rename_i e1 e2 e4
  obtain⟨z1,z2⟩:=hoz (by omega);have z3:=ay8 (by omega) (by omega);have z4:=hcz (by omega) (by omega);refine⟨⟨(by unfold Oh;omega),(by rw[z4];intro t ht;cases ht),(by rw[z2];intro c hc;cases hc),fun h9=>(by omega),fun h9=>(by omega),by omega⟩,hnm,(by rw[z1];exact⟨by simp,fun x hx=>(by cases hx)⟩),(by rw[z4];exact anq),(by rw[z2];exact⟨by simp,fun c hc=>(by cases hc)⟩)⟩
 split at h
 ·rename_i e1 e2 e4 e5
  obtain⟨z1,z2⟩:=hoz (by omega);have z3:=ay8 (by omega) (by omega);have z4:=hcz (by omega) (by omega);refine⟨⟨(by unfold Oh;omega),(by rw[z4];intro t ht;cases ht),(by rw[z2];intro c hc;cases hc),fun h9=>(by omega),fun h9=>(by omega),by omega⟩,hnm,(by rw[z1];exact⟨by simp,fun x hx=>(by cases hx)⟩),(by rw[z4];exact anq),(by rw[z2];exact⟨by simp,fun c hc=>(by cases hc)⟩)⟩
 split at h
 ·rename_i e1 e2 e4 e5 e3
  have z4:=hcz (by omega) (by omega);unfold Wi at h
  split at h
  ·cases h
  rename_i hat
  split at h
  ·cases h
  rename_i g hg
  simp only[uq,xw] at h;obtain⟨⟨h1,_⟩,h3⟩:=h;have h1:=xq h1;have hgo:=ho g (List.mem_of_getElem? hg);refine⟨⟨(by unfold Oh;omega),(by rw[z4];intro t ht;cases ht),fun c hc=>(abr k c hm.1 (h3 c hc)).2,fun h9=>(by omega),fun _=>⟨fun e=>by rw[e] at h1;simp at h1;omega,fun c hc=>(abr k c hm.1 (h3 c hc)).1.1⟩,by omega⟩,hnm,⟨by omega,hou⟩,(by rw[z4];exact anq),⟨by omega,fun c hc=>asv k c hm.1 (h3 c hc) (har c hc)⟩⟩
 ·cases h
theorem a4g (v:Int) (h:Xc v=true):Oh v:=by
 rw[aqy] at h;have h:=xq h;unfold Oh;omega
theorem asw (ks:List dw) (h:Py ks=true) (hw:oq qx ks<=1048576):ks≠[]∧asr ks∧∀k,k∈ks->∀s,s∈k.body->Nv s<=1048576:=by
 unfold Py at h;simp only[uq,xw] at h;obtain⟨h0,h1,_,_⟩:=h;have h0:=xq h0
 have hk:∀k,k∈ks->∃i,∃hi:i<ks.length,ks[i]=k∧He ks i=true:=fun k hm=>by
  obtain⟨i,hi,e⟩:=List.getElem_of_mem hm;exact⟨i,hi,e,h1 i (uw.2 hi)⟩
 have hc:∀k,k∈ks->(nameB k.name=true∧1<=k.ak.length∧k.eu.length<=1000∧k.au.length<=1000)∧(varsOf k).length<=1000∧(∀t,t∈k.ins++k.ak->t.type=1∨t.type=2)∧(∀v,v∈k.eu->Xc v=true)∧(∀g,g∈k.au->0<=g∧g<(ks.length:Int))∧∀s,s∈k.body->x9 ks k s=true:=fun k hm=>by
  obtain⟨i,hi,e,hcb⟩:=hk k hm;unfold He at hcb;rw[jy hi] at hcb;simp only[uq,xw] at hcb;rw[e] at hcb;obtain⟨⟨⟨⟨⟨b1,b2⟩,b3⟩,b4⟩,_⟩,_,b5,_,b6,b7,b8,b9,_⟩:=hcb;refine⟨⟨b1,xq b2,xq b3,xq b4⟩,xq b5,fun t ht=>?_,b7,fun g hg=>?_,b9⟩
  ·have:=xq (b6 t ht)
   omega
  ·have:=xq (b8 g hg)
   omega
 have hvl:∀k,(varsOf k).length=k.ins.length+k.ak.length+k.iq.length:=fun k=>by simp[varsOf];try omega
 have hwk:∀k,k∈ks->qx k<=1048576:=fun k hm=>by
  have:=Vq qx ks k hm;omega
 have hws:∀k,k∈ks->∀s,s∈k.body->Nv s<=1048576:=fun k hm s hs=>by
  have h2:=hwk k hm;have h3:=Vq Nv k.body s hs;unfold qx at h2;omega
 have hou:∀g,g∈ks->1<=g.ak.length∧g.ak.length<=1000∧g.ins.length<=1000:=fun g hg=>by
  obtain⟨⟨_,a2,_,_⟩,a5,_⟩:=hc g hg;have:=hvl g;omega
 have hcl:∀k,k∈ks->asx ks k:=fun k hm=>by
  obtain⟨⟨a1,a2,a3,a4⟩,a5,a6,a7,a8,a9⟩:=hc k hm;refine⟨fun s hs=>(a3n ks k s ⟨a3,a4⟩ hou (a9 s hs) (hws k hm s hs)).st,fun v hv=>a4g v (a7 v hv),a8,⟨a3,a4⟩,fun g hg=>?_,⟨fun s hs=>a6 s (Ec.2 (Or.inl hs)),fun s hs=>a6 s (Ec.2 (Or.inr hs))⟩⟩;obtain⟨g0,g1⟩:=a8 g hg;unfold Lp;rw[jy (show g.toNat<ks.length by omega)];exact avj _ (hc _ (pz _)).1.1
 refine⟨fun e=>by rw[e] at h0;simp at h0,⟨hcl,fun k hm s hs=>?_,fun k hm=>?_,fun k hm=>?_,?_⟩,hws⟩
 ·obtain⟨⟨a1,a2,a3,a4⟩,a5,a6,a7,a8,a9⟩:=hc k hm
  exact a3n ks k s ⟨a3,a4⟩ hou (a9 s hs) (hws k hm s hs)
 ·have h2:=hwk k hm
  unfold qx at h2;refine⟨by omega,fun s hs=>?_,fun s hs=>?_,fun x hx=>?_⟩
  ·have:=Vq Ul k.ins s hs
   unfold Ul at this h2;omega
  ·have:=Vq Ul k.ak s hs
   unfold Ul at this h2;omega
  ·have:=Vq Qw k.iq x hx
   unfold Qw at this h2;omega
 ·have h2:=hwk k hm
  unfold qx oq at h2;omega
 ·have:=a4h ks ks hcl
  unfold Ho;omega
theorem a4i (f:dw->Nat) (ns:List dw) (n:dw) (h:n∈ns):f n<=(ns.map f).sum:=by
 induction ns with
 | nil=>cases h
 | cons x xs ih =>
  simp only[Ap,List.sum_cons];rcases ql.1 h with rfl|h
  ·omega
  ·have:=ih h
   omega
theorem a7n (ks:List dw) (h:oq qx ks<=1048576):akg ks:=fun i hi=>by
 have h1:=a4i qx ks ks[i] (pz hi)
 have h2:ks[i].ins.length+ks[i].ak.length+ks[i].iq.length<=qx ks[i]:=by
  simp only[qx,oq];omega
 unfold oq at h;omega
def L9 (t:dh):List dw × Int:=if t≠ByteArray.empty∧Xl (Ns t)=t then (Ns t,0) else ([],1)
def RdP (ks:List dw) (code:Int) (w:bf) (e:Ending) (w':bf):Prop:=∃v bs,e=.returned (.tuple #[.agg #[v],.int .i64 code])∧yh Fa Dj w.heap.size w' v ks bs∧Below w.heap.size w w'
theorem ant (ks:List dw) (h:oq qx ks<=1048576) (v:Value) (w:bf) (hv:iy 7 160 Dl 0 w v ks):Calls Tryz.prog 10 #[.agg #[v]] w (Ans (.string (Xl ks)) w) :=
 anu ks v w hv (Py ks) (fun v w h9=>ah3 ks v w h9 (a7n ks h)) (fun hm=>⟨(asw ks hm h).1,(asw ks hm h).2.1⟩)
theorem yh.slC {B:Nat} {w:bf} {v:Value} {ks:List dw} {bs:List Nat} (h:yh Fa Dj B w v ks bs):iy 7 160 Dl 0 w v ks:=h.rowT.sl rfl (fun _=>rfl) (fun cs x bs h=>avu h)
theorem aqz (t:dh):(t.toList == [])=decide (t=ByteArray.empty):=Ib t ByteArray.empty _ rfl
theorem ap7 (t:dh) (w:bf) (hs:t.size<=1048576):Calls Tryz.prog 4 #[.string t] w (RdP (L9 t).1 (L9 t).2 w):=by
 obtain⟨PO,Gv⟩:∃PO:Ending->bf->Prop,PO=RdP (L9 t).1 (L9 t).2 w:=⟨_,rfl⟩;rw[←Gv];have Dn:=hide Gv;clear Gv;have HW:=hide (alx t);have hA:Below w.heap.size w (w.alloc (.cells #[.slice none 0 0] 24)):=(gy _ _).alloc (gq _) _;have hA2:jc (w.alloc (.cells #[.slice none 0 0] 24)) w.heap.size 24 #[.slice none 0 0]:=og _ _ _;have HG:=hide (asy t (w.alloc (.cells #[.slice none 0 0] 24)) hs);have HA:=hide (And.intro hA hA2);clear hA hA2;go_enter Tryz.func4,Tryz.ntmps4;go_wp2_with fail;refine(uh HG).mono ?_;rintro e w1 ⟨v,bs,rfl,hmk,hb1⟩;have hrb:jc w1 w.heap.size 24 #[.slice none 0 0]:=(uh HA).2.below hb1 (uh HA).2.lt;have hbw:Below w.heap.size w w1:=(uh HA).1.trans (hb1.mono (uh HA).1.size);obtain⟨ma,mc,rfl⟩:=hmk.slice;obtain⟨ks,hks⟩:∃z,z=Ns t:=⟨_,rfl⟩;have HRD:Hid (L9 t=if t≠ByteArray.empty∧Xl ks=t then (ks,0) else ([],1)):=hide (by rw[hks];rfl);rw[←hks] at hmk HW ⊢;clear hks;obtain⟨mn,hmn⟩:∃z,z=ks.length:=⟨_,rfl⟩;rw[←hmn] at hmk ⊢;clear hmn;obtain⟨w2,hw2⟩:∃z,z=w1.alloc (.cells #[.slice ma mn mc] 24):=⟨_,rfl⟩;have hb2:Below w1.heap.size w1 w2:=by rw[hw2];exact(gy _ _).alloc (gq _) _
 have hbm:jc w2 w1.heap.size 24 #[.slice ma mn mc]:=by rw[hw2];exact og _ _ _
 have ah6:=hmk.fr I8 (fun b hb=>hb2.block b (hmk.nd.2 b hb).2) hb2.size;have HPR:=hide (ant ks (jq (uh HW) hs) _ w2 ah6.slC);have HM2:Hid (yh Fa Dj w.heap.size w2 (.slice ma mn mc) ks bs∧w.heap.size∉bs):=hide ⟨yh.ay9 ah6 (uh HA).1.size,fun h9=>by have h8:=(hmk.nd.2 _ h9).1;simp at h8;omega⟩;have ac5:jc w2 w.heap.size 24 #[.slice none 0 0]:=hrb.below hb2 hrb.lt;have HB2:Hid (Below w.heap.size w w2):=hide (hbw.trans (hb2.mono hbw.size));have Jc:=hide ac5;have HBM:=hide hbm;have HW2:=hide hw2;clear hmk ah6 hb1 hb2 hbm hrb ac5 hbw hw2 HG
 by_cases hne:t=ByteArray.empty
 ·have e0:(t.toList == [])=true:=by rw[aqz];exact jf hne
  have e1:(t.toList != [])=false:=by simp only[bne,e0];rfl
  have anv:Hid (L9 t=([],1)):=hide (by rw[uh HRD,ay (fun h9=>h9.1 hne)]);have HB4:=HB2;have r0:=(uh Jc).cell (i:=0) (v:=.slice none 0 0) rfl;have rf:=(uh Jc).free 0;have rl:w.heap.size<w2.heap.size:=(uh Jc).lt;have hr2:=(uh Jc).set 0 (.slice none 0 0);have q1:(w2.setCell ⟨w.heap.size,0,none⟩ (.slice none 0 0)).cell? ⟨w.heap.size,0,none⟩=some (.slice none 0 0):=hr2.cell (i:=0) (v:=.slice none 0 0) rfl;clear hne hr2;obtain rfl:=uh HW2;go_wp2;refine bodyPost_ret (v:=.tuple #[.agg #[.slice none 0 0],.int .i64 1]) (by simp[results,Tryz.results4,go_sem,q1]) rfl ?_;rw[uh Dn,uh anv];exact⟨_,[],rfl,yh.nil _ _ _ _,(uh HB4).setCell (gq _) _⟩
 ·have e0:(t.toList == [])=false:=by rw[aqz];exact iw hne
  have e1:(t.toList != [])=true:=by simp only[bne,e0];rfl
  have m0:=(uh HBM).cell (i:=0) (v:=.slice ma mn mc) rfl;have r0:=(uh Jc).cell (i:=0) (v:=.slice none 0 0) rfl;have rf:=(uh Jc).free 0;have rl:w.heap.size<w2.heap.size:=(uh Jc).lt
  have HPE:Hid (∀w3,Below w2.heap.size w2 w3->((w3.cell? ⟨w.heap.size,0,none⟩=some (.slice none 0 0)∧w3.frozen? ⟨w.heap.size,0,none⟩=false∧w.heap.size<w3.heap.size)∧w3.cell? ⟨w1.heap.size,0,none⟩=some (.slice ma mn mc))∧(∀u,(w3.setCell ⟨w.heap.size,0,none⟩ u).cell? ⟨w.heap.size,0,none⟩=some u)∧Below w.heap.size w w3∧yh Fa Dj w.heap.size (w3.setCell ⟨w.heap.size,0,none⟩ (.slice ma mn mc)) (.slice ma mn mc) ks bs):=hide (fun w3 hb3=>by
   have hr3:=(uh Jc).below hb3 (uh Jc).lt;have hm3:=(uh HBM).below hb3 (uh HBM).lt;refine⟨⟨⟨hr3.cell (i:=0) (v:=.slice none 0 0) rfl,hr3.free 0,hr3.lt⟩,hm3.cell (i:=0) (v:=.slice ma mn mc) rfl⟩,fun u=>(hr3.set 0 u).cell (i:=0) (v:=u) rfl,(uh HB2).trans (hb3.mono (uh HB2).size),(uh HM2).1.fr I8 (fun b hb=>(yx _ _ _ _ (fun e=>?_)).trans (hb3.block b ((uh HM2).1.nd.2 b hb).2)) (by simp[World.setCell];exact hb3.size)⟩;have e':b=w.heap.size:=e;exact(uh HM2).2 (e'▸hb))
  have HNE:=hide hne;clear hne;go_wp2_with fail;rw[←uh HW2];refine(uh HPR).mono ?_;rintro e w3 ⟨rfl,hb3⟩;obtain⟨⟨⟨a1,a2,a3⟩,a4⟩,a5,hbw3,a7o⟩:=uh HPE w3 hb3;have HB4:=hide hbw3;have J6:=hide a7o;clear hb3 hbw3 a7o m0 r0 rf rl HPE HPR HW2;generalize hpr:Xl ks=p at HRD ⊢;clear hpr
  by_cases hpt:p=t
  ·have ep:(p.toList == t.toList)=true:=by rw[hpt];simp
   have anv:Hid (L9 t=(ks,0)):=hide (by rw[uh HRD,gu ⟨uh HNE,hpt⟩]);have q1:=a5 (.slice ma mn mc);have bfh:=hide hpt;clear hpt a5;go_wp2;refine bodyPost_ret (v:=.tuple #[.agg #[.slice ma mn mc],.int .i64 0]) (by simp[results,Tryz.results4,go_sem,q1]) rfl ?_;rw[uh Dn,uh anv];exact⟨_,bs,rfl,uh J6,(uh HB4).setCell (gq _) _⟩
  ·have ep:(p.toList == t.toList)=false:=by rw[zk];exact iw hpt
   have anv:Hid (L9 t=([],1)):=hide (by rw[uh HRD,ay (fun h9=>hpt h9.2)]);have q1:=a5 (.slice none 0 0);clear hpt a5;go_wp2;refine bodyPost_ret (v:=.tuple #[.agg #[.slice none 0 0],.int .i64 1]) (by simp[results,Tryz.results4,go_sem,q1]) rfl ?_;rw[uh Dn,uh anv];exact⟨_,[],rfl,yh.nil _ _ _ _,(uh HB4).setCell (gq _) _⟩
open Go.RowKit Go.Shelf
attribute [local go_sem] Oper.semAt_some
theorem anw (ks:List dw) (h:oq qx ks<=1048576) (v:Value) (w:bf) (hE:Env w) (hv:iy 7 160 Dl 0 w v ks):Calls Tryz.prog 15 #[.agg #[v]] w (Ans (.string (Xl ks)) w) :=
 ano ks v w hE hv (Py ks) (fun v w h9=>by
  have h8:=ah7 ks v w h9;rw[asz] at h8;exact h8) (fun hm=>(asw ks hm h).2)
theorem aza (t:dh) (w:bf):Calls Tryz.prog 11 #[.string t] w fun e w'=>e=.returned (.func (.func 27) #[] #[.pointer (some ⟨w.heap.size,0,none⟩)])∧w'=w.alloc (.cells #[.string t] 9):=by
 go_enter Tryz.func11,Tryz.ntmps11;go_wp2;go_ret;exact⟨rfl,rfl⟩
def RlI (t:dh) (W0:bf) (rb pb Bs:Nat) (k:Nat) (W:bf):Prop:=∃mv bs,IrS W0.heap.size rb pb (Uy t k) mv bs W∧But [rb,pb,Bs] W0 W
theorem yh.aq0 {B:Nat} {w:bf} {v:Value} {cs:List dw} {bs:List Nat} (h:yh Fa Dj B w v cs bs):∀b,b∈bs->∃cur T,w.heap[b]?=some (.cells cur T (0,0)):=fun b hb=>by
 obtain⟨cur,T,_,h9⟩:=h.rowT.typ avv b hb;exact⟨cur,T,h9⟩
theorem RlI.own {t:dh} {W0:bf} {rb pb Bs:Nat} (hrb:rb<W0.heap.size) (hpb:pb<W0.heap.size):OwnFrom W0.heap.size (RlI t W0 rb pb Bs):=by
 rintro k A W row ⟨mv,bs,h,hb⟩ hg hr;have hne:∀b,b<W0.heap.size->row≠some b:=fun b h1 e=>by have:=(hr b e).1;omega
 refine⟨mv,bs,⟨(hg.block rb h.box.lt (fun e=>hne rb hrb e.symm)).trans h.box,h.row.fr I8 (fun b h9=>hg.block b (h.row.nd.2 b h9).2 (fun e=>?_)) hg.size,h.map.block (hg.block pb h.map.lt (fun e=>hne pb hpb e.symm)),jq h.size hg.size⟩,⟨hg.os.trans hb.os,hg.tape.trans hb.tape,hg.output.trans hb.output,jq hb.size hg.size,fun i hi hs=>(hg.block i (qj hi hb.size) (fun e=>hne i hi e.symm)).trans (hb.block i hi hs)⟩⟩;obtain⟨_,o,h1,h2⟩:=hr b e.symm;obtain⟨cur,T,h3⟩:=h.row.aq0 b h9;rw[h3] at h1;rw[←G9 h1] at h2
 cases h2
theorem RlI.set {t:dh} {W0:bf} {rb pb Bs:Nat} (hBs:Bs<W0.heap.size) (h1:rb≠Bs) (h2:pb≠Bs) (k:Nat) (A:bf) (u:Value) (h:RlI t W0 rb pb Bs k A):RlI t W0 rb pb Bs k (A.setCell ⟨Bs,0,none⟩ u):=by
 obtain⟨mv,bs,h,hb⟩:=h;have hset:∀b,b≠Bs->(A.setCell ⟨Bs,0,none⟩ u).heap[b]?=A.heap[b]?:=fun b hn=>yx _ _ _ _ (fun e=>hn e)
 have hz:(A.setCell ⟨Bs,0,none⟩ u).heap.size=A.heap.size:=by simp[World.setCell]
 exact⟨mv,bs,⟨(hset rb h1).trans h.box,h.row.fr I8 (fun b h9=>hset b (by have:=(h.row.nd.2 b h9).1;omega)) (by omega),h.map.block (hset pb h2),by rw[hz];exact h.size⟩,hb.trans (But.setCell A (by simp) u)⟩
theorem RlI.step {t:dh} {W0 W W':bf} {rb pb Bs k:Nat} (h:RlI t W0 rb pb Bs k W) (hk:Nh W0.heap.size [rb,pb] W W') {mv:Value} {bs:List Nat} (hI:IrS W0.heap.size rb pb (Uy t (k+1)) mv bs W'):RlI t W0 rb pb Bs (k+1) W':=by
 obtain⟨mv0,bs0,h,hb⟩:=h;exact⟨mv,bs,hI,⟨hk.os.trans hb.os,hk.tape.trans hb.tape,hk.output.trans hb.output,jq hb.size hk.size,fun i hi hs=>(hk.old i hi (fun h9=>hs (by simp only[ql,xg,xk] at h9 ⊢;omega))).trans (hb.block i hi hs)⟩⟩
end Go.Proofs.YtfeejeflmcapoaaGreatDoor
