import Derived.Test.YtflcnhfakcgkeaaGreatWI1
import Derived.Test.YtflcnhfakcgkeaaGreatSpecShape
import Derived.Test.YtflcnhfakcgkeaaGreatMapF
import Derived.Test.YtflcnhfakcgkeaaGreatOwn
import Derived.Deep.RegionHeld3
namespace Go.Proofs.YtflcnhfakcgkeaaGreat
open Go.RowKit
set_option linter.unusedSimpArgs false
set_option linter.unusedVariables false
def uEq (ns:List ay) (k:Nat) (ws:List Int) (e:qg):Nat :=
 1+2*yc e+zq (dw e) (dw e).length+(if jh ns k e.call<0 then 0 else (ws.getD (jh ns k e.call).toNat 0).toNat)
def Ba (ns:List ay) (k:Nat) (ws:List Int) (eqs:List qg):Nat->Nat
 | 0=>1
 | q+1=>match eqs[q]? with
  | some e=>Ba ns k ws eqs q+uEq ns k ws e
  | none=>Ba ns k ws eqs q
theorem avf (ns:List ay) (k:Nat) (ws:List Int) (w:Nat) (e:qg) (h:e.call.size=0->jh ns k e.call<0):Xu ns k ws w e=Hl (w+uEq ns k ws e):=by
 unfold Xu N9 aeu uEq
 by_cases g:e.call.size=0
 ·rw[if_pos g,if_pos (h g)]
  congr 1
  omega
 ·rw[if_neg g]
  by_cases f:jh ns k e.call<0
  ·rw[if_pos f,if_pos f]
   congr 1
   omega
  ·rw[if_neg f,if_neg f]
   congr 1
   omega
theorem avg (a c:Nat):Hl (Hl a+c)=Hl (a+c):=by
 unfold Hl
 split<;>split<;>(try split)<;>omega
theorem alz (ns:List ay) (k:Nat) (ws:List Int) (eqs:List qg) (h:∀e,e∈eqs->e.call.size=0->jh ns k e.call<0) (q:Nat):ng ns k ws eqs q=Hl (Ba ns k ws eqs q):=by
 induction q with
 | zero=>simp[ng,Ba,Hl]
 | succ q ih =>
  unfold ng Ba
  cases he:eqs[q]? with
  | none=>exact ih
  | some e =>
   simp only
   rw[avf _ _ _ _ _ (h e (List.mem_of_getElem? he)),ih,avg]
def aaf (n:ay):Prop:=n.eqs.length<=500∧∀e,e∈n.eqs->((dw e).length<=500∧∀c,c∈dw e->c.length<=3000)∧(e.call.size=0->0<e.code.length)
def Hu (w:World) (B b o:Nat) (ns:List ay) (k:Nat):Prop :=
 ∃f,Dh Tryz.prog 9 (.pointer none) w B k f∧(∀s,jh ns k s<0->f s=.pointer none) ∧
  ∀s (i:Nat),jh ns k s=i->∃m,f s=.pointer (some ⟨m,0,none⟩)∧m≠B∧m<w.heap.size∧w.cell? ⟨m,0,none⟩=some (.pointer (some ⟨b,o+i*5,none⟩))∧w.cell? ⟨m,1,none⟩=some (.int .i64 ((jl ns k).getD i 0))
theorem Hu.below {w w':World} {B b o:Nat} {ns:List ay} {k:Nat} (h:Hu w B b o ns k) (hb:Below w.heap.size w w'):Hu w' B b o ns k:=by
 obtain⟨f,h1,h2,h3⟩:=h
 refine⟨f,h1.below hb,h2,fun s i hi=>?_⟩
 obtain⟨m,a1,a2,a3,a4,a5⟩:=h3 s i hi
 exact⟨m,a1,a2,Nat.lt_of_lt_of_le a3 hb.size,by rw[hb.cell (p:=⟨m,0,none⟩) a3];exact a4,by rw[hb.cell (p:=⟨m,1,none⟩) a3];exact a5⟩
theorem X0 (w:World):(zeroValue 148).run Tryz.prog w=.ok (.pointer none) w:=by kernel_rfl
theorem ari (ns:List ay) (k:Nat) (e:qg) (h1:(dw e).length<=500) (h2:∀c,c∈dw e->c.length<=3000):uEq ns k (jl ns k) e<=5000000:=by
 have h3:=Ed (dw e) 3000 h2 (dw e).length
 have h4:=Ez (decide (e.call.size=0)) (dw e) (dw e).length
 have h5:(dw e).length*3000<=500*3000:=Nat.mul_le_mul_right _ h1
 have h6:(if jh ns k e.call<0 then 0 else ((jl ns k).getD (jh ns k e.call).toNat 0).toNat)<=20001:=by
  split
  ·omega
  ·rename_i hf
   have hb:=J7 ns k e.call
   have hl:(jh ns k e.call).toNat<(jl ns k).length:=by rw[Ig];omega
   have e1:(jl ns k).getD (jh ns k e.call).toNat 0=(jl ns k)[(jh ns k e.call).toNat]:=by simp[List.getD,hl]
   rw[e1]
   have:=abx ns k _ (List.getElem_mem hl)
   omega
 unfold uEq yc
 unfold yc at *
 omega
theorem apf (ns:List ay) (k:Nat) (eqs:List qg) (h:∀e,e∈eqs->uEq ns k (jl ns k) e<=5000000) (q:Nat):Ba ns k (jl ns k) eqs q<=1+q*5000000:=by
 have h':∀M,(∀e,e∈eqs->uEq ns k (jl ns k) e<=M)->Ba ns k (jl ns k) eqs q<=1+q*M:=fun M hM=>by
  induction q with
  | zero =>
   have:Ba ns k (jl ns k) eqs 0=1:=rfl
   omega
  | succ q ih =>
   unfold Ba
   rw[Nat.succ_mul]
   cases he:eqs[q]? with
   | none=>simp only;omega
   | some e =>
    have:=hM e (List.mem_of_getElem? he)
    simp only
    omega
 exact h' 5000000 h
theorem axo (n:Nat):(if (20001:Int)<(n:Int) then (20001:Int) else (n:Int))=((Hl n:Nat):Int):=by
 unfold Hl
 split<;>split<;>omega
set_option maxHeartbeats 4000000 in
theorem ah8 (ns:List ay) (k:Nat) (n:ay) (B b o bn on:Nat) (w:World) (h:At 5 o7 w bn on n) (hL:Hu w B b o ns k) (hS:aaf n) (hE:∀e,e∈n.eqs->e.call.size=0->jh ns k e.call<0) :
  Calls Tryz.prog 83 #[.map (some B),.pointer (some ⟨bn,on,none⟩)] w (Ans (.int .i64 ((ng ns k (jl ns k) n.eqs n.eqs.length:Nat):Int)) w):=by
 have hcap:=alz ns k (jl ns k) n.eqs hE n.eqs.length
 have a0k:=apf ns k n.eqs (fun e he=>ari ns k e (hS.2 e he).1.1 (hS.2 e he).1.2)
 obtain⟨nm,ins,outs,vars,eqs⟩:=n
 obtain⟨hbl,cs,hl,hc,v1,v2,v3,v4,rfl,hs,_,_,_,h4⟩:=h
 simp only at *
 obtain⟨b4,c4,rfl⟩:=h4.shape
 have k4:=hc 4 (by simp)
 simp only[List.getElem_cons_zero,List.getElem_cons_succ] at k4
 have K4:=hide k4
 have H4:=hide h4
 have n4:=h4.len'
 have HL:=hide hL
 have Uw:=hide hS.2
 have I7:=hS.1
 have avh:=hide a0k
 have HCAP:=hide hcap
 clear h4 hc hs hl hL hS hE a0k hcap
 go_enter Tryz.func83,Tryz.ntmps83
 go_wp2
 go_loopg [5,16] eqs.length (fun g n i wr=>∃(q:Nat),q<=eqs.length∧g=eqs.length-q∧i=.int .i64 q∧n=.int .i64 ((Ba ns k (jl ns k) eqs q:Nat):Int)∧Below w.heap.size w wr)
 case atStart=>exact⟨0,Nat.zero_le _,by omega,rfl,rfl,Below.refl _ _⟩
 case round =>
  obtain⟨q,hq,hgq,rfl,rfl,Ua⟩:=hrel
  rename World=>wq
  have HGQ:=hide hgq
  have Ik:=hide Ua
  have k4q:wq.cell? ⟨bn,on+4,none⟩=some (.slice b4 eqs.length c4):=by rw[Ua.cell (p:=⟨bn,on+4,none⟩) hbl];exact uh K4
  clear hgq Ua
  by_cases hlt:q<eqs.length
  ·obtain⟨be,oe,ce,I8,hAt⟩:=(uh H4).at' q hlt
   simp only[Value.slice.injEq] at I8
   obtain⟨rfl,_,rfl⟩:=I8
   have HAT:=hide (hAt.stays xq (uh Ik))
   have hsm:=uh Uw eqs[q] (List.getElem_mem hlt)
   have hub:=uh avh q
   have a3t:=uh avh (q+1)
   have hue:Ba ns k (jl ns k) eqs (q+1)=Ba ns k (jl ns k) eqs q+uEq ns k (jl ns k) eqs[q]:=by
    rw[Ba,List.getElem?_eq_getElem hlt]
   have a0l:=ari ns k eqs[q] hsm.1.1 hsm.1.2
   have hin:yc eqs[q]<=1500000:=by
    have h4:=Ez (decide (eqs[q].call.size=0)) (dw eqs[q]) (dw eqs[q]).length
    have h3:=Ed (dw eqs[q]) 3000 hsm.1.2 (dw eqs[q]).length
    have h5:(dw eqs[q]).length*3000<=500*3000:=Nat.mul_le_mul_right _ hsm.1.1
    unfold yc
    omega
   have HLEN:=hide (fun m=>Ed (dw eqs[q]) 3000 hsm.1.2 m)
   unfold uEq at hue a0l
   obtain⟨_,cs,_,hcE,l0,c0,a0,rfl,hcl0,_,_,_⟩:=uh HAT
   have r2:=hcE 2 (by simp)
   simp only[List.getElem_cons_zero,List.getElem_cons_succ] at r2
   have R2:=hide r2
   have hbE:=(uh HAT).1
   obtain⟨f,hMF,hM0,hM1⟩:=(uh HL).below (uh Ik)
   have HMF:=hide hMF
   have Zq:Hid ((jh ns k eqs[q].call<0∧f eqs[q].call=.pointer none∧Ba ns k (jl ns k) eqs (q+1)=Ba ns k (jl ns k) eqs q+(1+2*yc eqs[q]+zq (dw eqs[q]) (dw eqs[q]).length))∨(∃(m wn:Nat),f eqs[q].call=.pointer (some ⟨m,0,none⟩)∧m<wq.heap.size∧wq.cell? ⟨m,1,none⟩=some (.int .i64 (wn:Int))∧wn<=20001∧Ba ns k (jl ns k) eqs (q+1)=Ba ns k (jl ns k) eqs q+(1+2*yc eqs[q]+zq (dw eqs[q]) (dw eqs[q]).length)+wn)):=by
    by_cases hf:jh ns k eqs[q].call<0
    ·refine Or.inl ⟨hf,hM0 _ hf,?_⟩
     rw[if_pos hf] at hue
     omega
    ·have hfb:=J7 ns k eqs[q].call
     obtain⟨i,hi⟩:=Int.eq_ofNat_of_zero_le (show 0<=jh ns k eqs[q].call by omega)
     obtain⟨m,g1,g2,g3,g4,g5⟩:=hM1 _ i hi
     have hil:i<(jl ns k).length:=by rw[Ig];omega
     have e1:(jl ns k).getD i 0=(jl ns k)[i]:=by simp[List.getD,hil]
     have hwb:=abx ns k _ (List.getElem_mem hil)
     rw[←e1] at hwb
     rw[if_neg hf,hi,Int.toNat_natCast] at hue
     generalize (jl ns k).getD i 0=wi at *
     obtain⟨wn,rfl⟩:=Int.eq_ofNat_of_zero_le hwb.1
     exact Or.inr ⟨m,wn,g1,g3,g5,by omega,by rw[hue,Int.toNat_natCast];omega⟩
   have hcl:eqs[q].call.size<=maxLen:=by unfold Len at hcl0;unfold maxLen;omega
   clear hAt hue hcE r2 hMF hM0 hM1 a0l hcl0
   generalize eqs[q]=x at *
   generalize Ba ns k (jl ns k) eqs q=u0 at *
   have hu0:u0<=2500000001:=by omega
   clear hub a3t
   have HIN:=hide (aaq x be (oe+q*4) wq (uh HAT) hsm.1.2 hsm.1.1 hsm.2)
   have a3u:=hide (fun w1 (h:Below wq.heap.size wq w1)=>Ym x be (oe+q*4) w1 ((uh HAT).stays xq h))
   have hcn:=hsm.1.1
   generalize yc x=inn at *
   generalize dw x=iy at *
   clear hsm HAT
   have hlt':(q:Int)<(eqs.length:Int):=by omega
   go_wp2_with fail
   refine(uh HIN).mono ?_
   rintro e w1 ⟨rfl,hb1⟩
   have B1:=hide hb1
   clear hb1
   go_wp2_with fail
   refine(uh a3u _ (uh B1)).mono ?_
   rintro e w2 ⟨vc,rfl,Xg,hb2⟩
   have B2:Hid (Below wq.heap.size wq w2):=(uh B1).trans (hb2.mono (uh B1).size)
   obtain⟨bv,cv,rfl⟩:=Xg.shape
   obtain⟨_,_,hvv,_,hvn,Gw⟩:=Xg
   simp only[Value.slice.injEq] at hvv
   obtain⟨rfl,_,rfl⟩:=hvv
   have Jf:=hide Gw
   have r2:w2.cell? ⟨be,oe+q*4+2,none⟩=some (.string x.call):=by rw[(uh B2).cell (p:=⟨be,_,none⟩) hbE];exact uh R2
   have a0m:=hide ((uh HMF).below (uh B2))
   clear Gw hb2 R2 hvn
   go_wp2
   go_loopg [5,34] iy.length (fun g n i wr=>∃(m:Nat),m<=iy.length∧g=iy.length-m∧i=.int .i64 m∧n=.int .i64 ((u0+(1+2*inn)+zq iy m:Nat):Int)∧wr=w2)
   case atStart=>exact⟨0,Nat.zero_le _,by omega,rfl,int_eq (by simp[zq]),rfl⟩
   case round =>
    obtain⟨m,hm,hgm,rfl,rfl,hw9⟩:=hrel
    obtain rfl:=hw9.symm
    have Hy:=hide hgm
    have hlb:=uh HLEN m
    have V8:m*3000<=500*3000:=Nat.mul_le_mul_right _ (by omega)
    clear hgm
    by_cases Aj:m<iy.length
    ·obtain⟨ba,oa,Le,jr,_,hba,Gx,hca,Oy⟩:=uh Jf m Aj
     subst jr
     obtain⟨va,rfl,hE⟩:=Oy
     obtain⟨bx,cx,rfl⟩:=hE.shape
     have r0:=hca 0 (by simp)
     simp only[Nat.mul_one,Nat.add_zero,List.getElem_cons_zero,List.getElem_cons_succ] at r0
     have nE:=hE.len'
     have SM:zq iy (m+1)=zq iy m+iy[m].length:=by
      rw[zq,List.getElem?_eq_getElem Aj]
     have a3v:=hide SM
     have a0n:=uh HLEN (m+1)
     have a3w:(m+1)*3000<=500*3000:=Nat.mul_le_mul_right _ (by omega)
     have hsz:u0+(1+2*inn)+zq iy m+iy[m].length<=3000000000:=by rw[SM] at a0n;omega
     clear SM hca Gx hE hlb V8 a0n a3w
     generalize iy[m]=el at *
     generalize zq iy m=lm at *
     have ahe:(m:Int)<(iy.length:Int):=by omega
     go_wp2
     go_roundg (iy.length-(m+1))
     case measure=>have:=uh Hy;omega
     case rel=>exact⟨m+1,by omega,rfl,by go_num,int_eq (by rw[uh a3v];omega),rfl⟩
    ·have e:m=iy.length:=by omega
     subst e
     generalize zq iy iy.length=lt at *
     have hsz:u0+(1+2*inn)+lt<=2600000000:=by omega
     rcases uh Zq with ⟨hf,hfn,hu1⟩|⟨mm,wn,hfn,hmm,hmc,hwn,hu1⟩
     ·have hlk:=(uh a0m).look (t:=104) Tryz.underlying9 Tryz.underlying104 (X0 _) hcl
      rw[hfn] at hlk
      have HU1:=hide hu1
      clear hu1 hfn hf hlb V8
      go_wp2
      go_roundg (eqs.length-(q+1))
      case measure=>have:=uh HGQ;omega
      case rel=>exact⟨q+1,by omega,rfl,by go_num,int_eq (by rw[uh HU1];omega),(uh Ik).trans ((uh B2).mono (uh Ik).size)⟩
     ·have hlk:=(uh a0m).look (t:=104) Tryz.underlying9 Tryz.underlying104 (X0 _) hcl
      rw[hfn] at hlk
      have a6q:w2.cell? ⟨mm,1,none⟩=some (.int .i64 (wn:Int)):=by rw[(uh B2).cell (p:=⟨mm,1,none⟩) hmm];exact hmc
      have HU1:=hide hu1
      clear hu1 hfn hmc hlb V8
      go_wp2
      go_roundg (eqs.length-(q+1))
      case measure=>have:=uh HGQ;omega
      case rel=>exact⟨q+1,by omega,rfl,by go_num,int_eq (by rw[uh HU1];omega),(uh Ik).trans ((uh B2).mono (uh Ik).size)⟩
  ·have e:q=eqs.length:=by omega
   subst e
   have hub:=uh avh eqs.length
   have HCP:=hide (axo (Ba ns k (jl ns k) eqs eqs.length))
   generalize Ba ns k (jl ns k) eqs eqs.length=u0 at *
   go_wp2
   ·have hx:Hl u0=20001:=by
     unfold Hl
     rw[if_pos (by omega)]
    have HX:=hide hx
    clear hx
    go_ret
    exact⟨yx (by rw[uh HCAP,uh HX];rfl),uh Ik⟩
   ·have hx:Hl u0=u0:=by
     unfold Hl
     split<;>omega
    have HX:=hide hx
    clear hx
    go_ret
    exact⟨yx (by rw[uh HCAP,uh HX]),uh Ik⟩
def aj (n:ay):List gy:=n.ins++n.outs++n.vars
def jc (vs:List gy) (x:ByteArray):Nat:=vs.findIdx fun v=>v.name.toList == x.toList
def jg (vs:List gy) (x:ByteArray):gy:=if h:jc vs x<vs.length then vs[jc vs x] else ⟨⟨#[]⟩,0,[]⟩
def uq (vs:List gy) (x:ByteArray):Int:=if jc vs x<vs.length then (jc vs x:Int) else -1
theorem ahl (vs:List gy) (x:ByteArray) (k:Nat) (h:k<vs.length) (hb:∀j (hj:j<vs.length),j<k->(vs[j].name.toList == x.toList)=false) (he:(vs[k].name.toList == x.toList)=true):jg vs x=vs[k]∧uq vs x=k:=by
 have e:jc vs x=k:=by
  unfold jc
  rw[List.findIdx_eq h]
  exact⟨he,fun j hj=>by simpa using hb j (by omega) hj⟩
 unfold jg uq
 rw[e]
 simp[h]
theorem af7 (vs:List gy) (x:ByteArray) (hb:∀j (hj:j<vs.length),(vs[j].name.toList == x.toList)=false):jg vs x=⟨⟨#[]⟩,0,[]⟩∧uq vs x = -1:=by
 have e:jc vs x=vs.length:=by
  unfold jc
  rw[List.findIdx_eq_length]
  intro v hv
  obtain⟨j,hj,rfl⟩:=List.getElem_of_mem hv
  exact hb j hj
 unfold jg uq
 rw[e]
 simp
theorem arj {w w':World} {cl:Value} {ks:List cu} {rb l c:Nat} {e:TypeId} {s:ByteArray} {a:Option Addr} {z:Int} {kd:IntKind} (h:bf 2 24 jm 0 w cl ks) (hb:dh w rb e #[.string s,.int kd z,.slice a l c])
  (hk:∀b,b≠rb->b<w.heap.size->w'.heap[b]?=w.heap[b]?) (hs:w.heap.size<=w'.heap.size):bf 2 24 jm 0 w' cl ks:=by
 obtain⟨ad,cap,rfl,h1,h2,hx⟩:=h
 refine⟨ad,cap,rfl,h1,h2,fun i hi=>?_⟩
 obtain⟨b,o,cs,rfl,hlo,hlt,hcs,hc,hR⟩:=hx i hi
 have hne:b≠rb:=by
  intro he
  subst he
  obtain⟨rfl,_⟩:=hR
  have hc1:=hc 1 (by simp)
  unfold dh at hb
  simp only[World.cell?,hb,Option.isSome_none,Bool.false_eq_true,if_false,List.getElem_cons_succ,List.getElem_cons_zero] at hc1
  match hq:o+i*2+1 with
  | 0=>omega
  | 1=>rw[hq] at hc1;simp at hc1
  | 2=>rw[hq] at hc1;simp at hc1
  | q+3=>rw[hq] at hc1;simp at hc1
 refine⟨b,o,cs,rfl,hlo,by omega,hcs,fun j hj=>?_,hR⟩
 rw[←hc j hj]
 unfold World.cell?
 rw[hk b hne hlt]
def aad (vs:List gy) (x:ByteArray) (w:World) (e:Ending) (w':World):Prop :=
 ∃cl,e=.returned (.tuple #[.agg #[.string (jg vs x).name,.int .i64 (jg vs x).type,cl],.int .i64 (uq vs x)])∧bf 2 24 jm 0 w' cl (jg vs x).clock∧Below w.heap.size w w'
set_option maxHeartbeats 2000000 in
theorem Yq (x:ay) (a1 a2 a3 a4:Value) (nm:ByteArray) (w:World) (h1:bf 3 48 RVar 0 w a1 x.ins) (h2:bf 3 48 RVar 0 w a2 x.outs) (h3:bf 3 48 RVar 0 w a3 x.vars) (h4:∃a n c,a4=.slice a n c) (hsum:x.ins.length+x.outs.length+x.vars.length<=1048576) :
  Calls Tryz.prog 66 #[.agg #[.string x.name,a1,a2,a3,a4],.string nm] w (aad (aj x) nm w):=by
 have P0:Below w.heap.size w ((w.alloc (.cells #[.string x.name,a1,a2,a3,a4] 42)).alloc (.cells #[.string ⟨#[]⟩,.int .i64 0,.slice none 0 0] 68)):=((Below.refl _ _).alloc (Nat.le_refl _) _).alloc (by simp) _
 have Oq:=hide P0
 have HC:=hide (agw x a1 a2 a3 a4 _ (h1.stays ji P0) (h2.stays ji P0) (h3.stays ji P0) hsum)
 obtain⟨b1,c1,rfl⟩:=h1.shape
 obtain⟨b2,c2,rfl⟩:=h2.shape
 obtain⟨b3,c3,rfl⟩:=h3.shape
 obtain⟨b4,n4,c4,rfl⟩:=h4
 clear h1 h2 h3 P0 hsum
 have EV:Hid (aj x=x.ins++x.outs++x.vars):=rfl
 rw[←uh EV] at HC
 clear EV
 generalize aj x=vs at *
 go_enter Tryz.func66,Tryz.ntmps66
 go_wp2_with fail
 refine(uh HC).mono ?_
 rintro e w1 ⟨v,rfl,hv,hb1⟩
 have HB1:Hid (Below w.heap.size w w1):=(uh Oq).trans (hb1.mono (uh Oq).size)
 have hs1:w.heap.size+2<=w1.heap.size:=by
  have:=hb1.size
  simp at this
  omega
 have Ob:Hid (dh w1 (w.heap.size+1) 68 #[.string ⟨#[]⟩,.int .i64 0,.slice none 0 0]):=by
  have h:=jd (w.alloc (.cells #[.string x.name,.slice b1 x.ins.length c1,.slice b2 x.outs.length c2,.slice b3 x.vars.length c3,.slice b4 n4 c4] 42)) #[.string ⟨#[]⟩,.int .i64 0,.slice none 0 0] 68
  have h2:=h.below hb1 (by simp)
  have e:(w.alloc (.cells #[.string x.name,.slice b1 x.ins.length c1,.slice b2 x.outs.length c2,.slice b3 x.vars.length c3,.slice b4 n4 c4] 42)).heap.size=w.heap.size+1:=by simp
  rw[e] at h2
  exact h2
 obtain⟨a,cap,rfl,_,hn,hx⟩:=hv
 unfold Len at hn
 have HX:=hide hx
 clear hx hb1 HC
 go_wp2
 go_loopg [11] vs.length (fun g i wr=>∃(k:Nat),k<=vs.length∧g=vs.length-k∧i=.int .i64 k∧Below w1.heap.size w1 wr∧∀j (hj:j<vs.length),j<k->(vs[j].name.toList == nm.toList)=false)
 case atStart=>exact⟨0,Nat.zero_le _,by omega,rfl,Below.refl _ _,fun j _ h=>absurd h (Nat.not_lt_zero _)⟩
 case round =>
  obtain⟨k,hk,hg,rfl,hbl,hno⟩:=hrel
  rename World=>wN
  have HG:=hide hg
  have jo:=hide hno
  have yj:=hide hbl
  have hNs:=hbl.size
  clear hg hno
  by_cases hlt:k<vs.length
  ·obtain⟨b,o,cs,jr,_,hb,hcs,hc0,hR⟩:=uh HX k hlt
   subst jr
   have hc:∀j (hj:j<cs.length),wN.cell? ⟨b,o+k*3+j,none⟩=some cs[j]:=fun j hj=>by rw[hbl.cell (p:=⟨b,_,none⟩) hb];exact hc0 j hj
   obtain⟨cl,rfl,hsn,hty,hcl⟩:=hR
   have q0:=hc 0 (by simp)
   have q1:=hc 1 (by simp)
   have q2:=hc 2 (by simp)
   simp only[Nat.mul_one,Nat.add_zero,List.getElem_cons_zero,List.getElem_cons_succ] at q0 q1 q2
   have Gv:=hide hcl
   obtain⟨acl,ccl,rfl⟩:=hcl.shape
   clear hc hc0 hcs hty hcl hsn
   cases he:(vs[k].name.toList == nm.toList)
   ·have Yn:Hid (∀j (hj:j<vs.length),j<k+1->(vs[j].name.toList == nm.toList)=false):=by
     intro j h h1
     by_cases e:j=k
     ·subst e;exact he
     ·exact uh jo j h (by omega)
    generalize vs[k].clock.length=n1 at *
    generalize vs[k].type=t1 at *
    generalize vs[k].name=s1 at *
    go_wp2
    go_roundg (vs.length-(k+1))
    case measure=>have:=uh HG;omega
    case rel=>exact⟨k+1,by omega,rfl,by go_num,hbl.alloc hbl.size _,uh Yn⟩
   ·have HL:=hide (ahl vs nm k hlt (uh jo) he)
    have hal:Below w1.heap.size w1 (wN.alloc (.cells #[.string vs[k].name,.int .i64 vs[k].type,.slice acl vs[k].clock.length ccl] 68)):=hbl.alloc hbl.size _
    have hbk:=(uh Ob).below hal (by omega)
    have acf:=hide hbk
    have r0:=hbk.cell (i:=0) rfl
    have r1:=hbk.cell (i:=1) rfl
    have r2:=hbk.cell (i:=2) rfl
    have f0:=hbk.free 0
    have f1:=hbk.free 1
    have f2:=hbk.free 2
    have Gg:=hide hal
    clear hbk hal
    go_wp2
    have hB:=dh.ahm (x:=.string vs[k].name) (y:=.int .i64 vs[k].type) (z:=.slice acl vs[k].clock.length ccl) (uh acf)
    have cc0:=hB.cell (i:=0) rfl
    have Zm:=hB.cell (i:=1) rfl
    have Oc:=hB.cell (i:=2) rfl
    refine bodyPost_ret (v:=.tuple #[.agg #[.string vs[k].name,.int .i64 vs[k].type,.slice acl vs[k].clock.length ccl],.int .i64 k]) (by simp[results,Tryz.results66,go_sem,cc0,Zm,Oc]) rfl ?_
    refine⟨.slice acl vs[k].clock.length ccl,by rw[(uh HL).1,(uh HL).2],?_,?_⟩
    ·rw[(uh HL).1]
     refine arj (uh Gv) (uh Ob) (fun b' h1 h2=>?_) ?_
     ·rw[Below.heap_setCell _ _ _ _ h1,Below.heap_setCell _ _ _ _ h1,Below.heap_setCell _ _ _ _ h1]
      exact(uh Gg).block b' h2
     ·simpa using (uh Gg).size
    ·exact((((uh HB1).trans ((uh Gg).mono (by omega))).setCell (by simp) _).setCell (by simp) _).setCell (by simp) _
  ·have e:k=vs.length:=by omega
   subst e
   have HL:=hide (af7 vs nm (fun j hj=>uh jo j hj hj))
   have hbk:=(uh Ob).below hbl (by omega)
   have acf:=hide hbk
   have r0:=hbk.cell (i:=0) rfl
   have r1:=hbk.cell (i:=1) rfl
   have r2:=hbk.cell (i:=2) rfl
   have f0:=hbk.free 0
   have f1:=hbk.free 1
   have f2:=hbk.free 2
   clear hbk
   go_wp2
   have hB:=dh.ahm (x:=.string ⟨#[]⟩) (y:=.int .i64 0) (z:=.slice none 0 0) (uh acf)
   have cc0:=hB.cell (i:=0) rfl
   have Zm:=hB.cell (i:=1) rfl
   have Oc:=hB.cell (i:=2) rfl
   refine bodyPost_ret (v:=.tuple #[.agg #[.string ⟨#[]⟩,.int .i64 0,.slice none 0 0],.int .i64 (-1)]) (by simp[results,Tryz.results66,go_sem,cc0,Zm,Oc]) rfl ?_
   refine⟨.slice none 0 0,by rw[(uh HL).1,(uh HL).2],?_,?_⟩
   ·rw[(uh HL).1]
    exact⟨none,0,rfl,⟨by simp[Len],Nat.le_refl _⟩,by simp[Len],fun i hi=>absurd hi (Nat.not_lt_zero _)⟩
   ·exact((((uh HB1).trans ((uh yj).mono (by omega))).setCell (by simp) _).setCell (by simp) _).setCell (by simp) _
def jv (vs:List gy) (x:ByteArray):List cu:=(jg vs x).clock
set_option maxHeartbeats 1000000 in
theorem Qw (x:ay) (a1 a2 a3 a4:Value) (nm:ByteArray) (w:World) (h1:bf 3 48 RVar 0 w a1 x.ins) (h2:bf 3 48 RVar 0 w a2 x.outs) (h3:bf 3 48 RVar 0 w a3 x.vars) (h4:∃a n c,a4=.slice a n c) (hsum:x.ins.length+x.outs.length+x.vars.length<=1048576) :
  Calls Tryz.prog 39 #[.agg #[.string x.name,a1,a2,a3,a4],.string nm] w fun e w'=>∃cl,e=.returned cl∧bf 2 24 jm 0 w' cl (jv (aj x) nm)∧Below w.heap.size w w':=by
 have P0:Below w.heap.size w (w.alloc (.cells #[.string x.name,a1,a2,a3,a4] 42)):=(Below.refl _ _).alloc (Nat.le_refl _) _
 have Oq:=hide P0
 have HC:=hide (Yq x a1 a2 a3 a4 nm _ (h1.stays ji P0) (h2.stays ji P0) (h3.stays ji P0) h4 hsum)
 obtain⟨b1,c1,rfl⟩:=h1.shape
 obtain⟨b2,c2,rfl⟩:=h2.shape
 obtain⟨b3,c3,rfl⟩:=h3.shape
 obtain⟨b4,n4,c4,rfl⟩:=h4
 clear h1 h2 h3 P0 hsum
 unfold aad at HC
 go_enter Tryz.func39,Tryz.ntmps39
 go_wp2_with fail
 refine(uh HC).mono ?_
 rintro e w1 ⟨cl,rfl,hcl,hb1⟩
 have HB1:Hid (Below w.heap.size w w1):=(uh Oq).trans (hb1.mono (uh Oq).size)
 have hs1:=(uh HB1).size
 have Gv:=hide hcl
 obtain⟨ac,cc,rfl⟩:=hcl.shape
 clear hb1 hcl HC
 have HE:Hid (jv (aj x) nm=(jg (aj x) nm).clock):=rfl
 generalize jg (aj x) nm=lv at *
 generalize uq (aj x) nm=li at *
 go_wp2
 go_ret
 have hal:Below w1.heap.size w1 (w1.alloc (.cells #[.string lv.name,.int .i64 lv.type,.slice ac lv.clock.length cc] 68)):=(Below.refl _ _).alloc (Nat.le_refl _) _
 exact⟨_,rfl,by rw[uh HE];exact(uh Gv).stays lg hal,(uh HB1).trans (hal.mono hs1)⟩
def Io (c d:cu):Bool:=(c.name.toList == d.name.toList)&&(c.on == d.on)
def qj (xs ys:List cu):Bool:=decide (xs.length=ys.length)&&(xs.zip ys).all fun p=>Io p.1 p.2
theorem avi {xs ys:List cu} (i:Nat) (h1:i<xs.length) (h2:i<ys.length) (h:Io xs[i] ys[i]=false):qj xs ys=false:=by
 have:((xs.zip ys).all fun p=>Io p.1 p.2)=false:=by
  rw[List.all_eq_false]
  refine⟨(xs[i],ys[i]),?_,by simp[h]⟩
  have hz:i<(xs.zip ys).length:=by simp;omega
  have:=List.getElem_mem hz
  rwa[List.getElem_zip] at this
 unfold qj
 rw[this,Bool.and_false]
theorem ark {xs ys:List cu} (hl:xs.length=ys.length) (h:∀i (h1:i<xs.length) (h2:i<ys.length),Io xs[i] ys[i]=true):qj xs ys=true:=by
 unfold qj
 rw[Bool.and_eq_true,decide_eq_true_iff,List.all_eq_true]
 refine⟨hl,fun p hp=>?_⟩
 obtain⟨i,hi,rfl⟩:=List.getElem_of_mem hp
 rw[List.getElem_zip]
 exact h i _ _
set_option maxHeartbeats 2000000 in
theorem Eu (xs ys:List cu) (u v:Value) (w:World) (hu:bf 2 24 jm 0 w u xs) (hv:bf 2 24 jm 0 w v ys) :
  Calls Tryz.prog 67 #[u,v] w (Ans (.bool (qj xs ys)) w):=by
 obtain⟨a,ca,rfl,_,hn,hx⟩:=hu
 obtain⟨b,cb,rfl,_,hm,hy⟩:=hv
 unfold Len at hn hm
 have HX:=hide hx
 have HY:=hide hy
 clear hx hy
 by_cases hl:xs.length=ys.length
 ·have HL:=hide hl
  rw[←hl]
  have hb:((xs.length:Int) != (xs.length:Int))=false:=by simp
  go_enter Tryz.func67,Tryz.ntmps67
  clear hl
  go_wp2
  go_loopg [13] xs.length (fun g i wr=>∃(k:Nat),k<=xs.length∧g=xs.length-k∧i=.int .i64 k∧Below w.heap.size w wr∧∀i (h1:i<xs.length) (h2:i<ys.length),i<k->Io xs[i] ys[i]=true)
  case atStart=>exact⟨0,Nat.zero_le _,by omega,rfl,Below.refl _ _,fun i _ _ h=>absurd h (Nat.not_lt_zero _)⟩
  case round =>
   obtain⟨k,hk,hg,rfl,hbl,hall⟩:=hrel
   rename World=>wN
   have HG:=hide hg
   have uy:=hide hall
   have yj:=hide hbl
   clear hg hall
   by_cases hlt:k<xs.length
   ·have hlt2:k<ys.length:=by rw[←uh HL];exact hlt
    obtain⟨b1,o1,cs1,a3x,_,hb1,hcs1,hc1,hR1⟩:=uh HX k hlt
    obtain⟨b2,o2,cs2,a3y,_,hb2,hcs2,hc2,hR2⟩:=uh HY k hlt2
    subst a3x a3y
    obtain⟨rfl,_⟩:=hR1
    obtain⟨rfl,_⟩:=hR2
    have hd1:∀j (hj:j<2),wN.drew.cell? ⟨b1,o1+k*2+j,none⟩=some ([Value.string xs[k].name,.bool xs[k].on][j]'hj):=fun j hj=>by rw[(hbl.drew).cell (p:=⟨b1,_,none⟩) hb1];exact hc1 j hj
    have hd2:∀j (hj:j<2),wN.drew.cell? ⟨b2,o2+k*2+j,none⟩=some ([Value.string ys[k].name,.bool ys[k].on][j]'hj):=fun j hj=>by rw[(hbl.drew).cell (p:=⟨b2,_,none⟩) hb2];exact hc2 j hj
    have p0:=hd1 0 (by decide)
    have p1:=hd1 1 (by decide)
    have q0:=hd2 0 (by decide)
    have q1:=hd2 1 (by decide)
    simp only[Nat.mul_one,Nat.add_zero,List.getElem_cons_zero,List.getElem_cons_succ] at p0 p1 q0 q1
    have HN:=hide (avi k hlt hlt2)
    have HA2:Hid (Io xs[k] ys[k]=true->∀i (h1:i<xs.length) (h2:i<ys.length),i<k+1->Io xs[i] ys[i]=true):=fun he i h1 h2 h3=>by
     by_cases e:i=k
     ·subst e;exact he
     ·exact uh uy i h1 h2 (by omega)
    have Rq:Hid (Io xs[k] ys[k]=((xs[k].name.toList == ys[k].name.toList)&&(xs[k].on == ys[k].on))):=rfl
    have hki:(k:Int)<(xs.length:Int):=by omega
    clear hd1 hd2 hc1 hc2 hcs1 hcs2
    generalize Io xs[k] ys[k]=ce at *
    generalize xs[k].name=n1 at *
    generalize ys[k].name=n2 at *
    generalize xs[k].on=t1 at *
    generalize ys[k].on=t2 at *
    cases hn:(n1.toList == n2.toList)
    ·have hcf:ce=false:=by rw[uh Rq,hn,Bool.false_and]
     have HS:=hide (uh HN hcf)
     clear Rq HN HA2 hcf
     go_wp2_with fail
     go_region_with (fail)
     all_goals
      go_wp2
      go_ret
      exact⟨gu (uh HS).symm,hbl.drew⟩
    ·cases t1<;>cases t2
     case true.true =>
      have hcf:ce=true:=by rw[uh Rq,hn];rfl
      have HS:=hide (uh HA2 hcf)
      clear Rq HN HA2 hcf
      go_wp2_with fail
      go_region_with (fail)
      all_goals
       go_wp2
       go_roundg (xs.length-(k+1))
       case measure=>have:=uh HG;omega
       case rel=>exact⟨k+1,by omega,rfl,by go_num,hbl.drew,uh HS⟩
     case false.false =>
      have hcf:ce=true:=by rw[uh Rq,hn];rfl
      have HS:=hide (uh HA2 hcf)
      clear Rq HN HA2 hcf
      go_wp2_with fail
      go_region_with (fail)
      all_goals
       go_wp2
       go_roundg (xs.length-(k+1))
       case measure=>have:=uh HG;omega
       case rel=>exact⟨k+1,by omega,rfl,by go_num,hbl.drew,uh HS⟩
     all_goals
      have hcf:ce=false:=by rw[uh Rq,hn];rfl
      have HS:=hide (uh HN hcf)
      clear Rq HN HA2 hcf
      go_wp2_with fail
      go_region_with (fail)
      all_goals
       go_wp2
       go_ret
       exact⟨gu (uh HS).symm,hbl.drew⟩
   ·have e:k=xs.length:=by omega
    have HS:=hide (ark (uh HL) (fun i h1 h2=>uh uy i h1 h2 (by omega)))
    subst e
    go_wp2
    go_ret
    exact⟨gu (uh HS).symm,hbl⟩
 ·have HS:Hid (qj xs ys=false):=by
   show qj xs ys=false
   unfold qj
   simp[hl]
  have hb:((xs.length:Int) != (ys.length:Int))=true:=by simp;omega
  clear hl
  go_enter Tryz.func67,Tryz.ntmps67
  go_wp2
  go_ret
  exact⟨gu (uh HS).symm,Below.refl _ _⟩
end Go.Proofs.YtflcnhfakcgkeaaGreat
