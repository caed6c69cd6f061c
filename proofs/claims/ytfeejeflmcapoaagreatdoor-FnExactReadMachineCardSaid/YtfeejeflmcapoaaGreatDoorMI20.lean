import Derived.Test.YtfeejeflmcapoaaGreatDoorMI17
import Derived.Deep.RegionLaw
import Derived.Test.YtfeejeflmcapoaaGreatDoorPS3
set_option linter.unusedSimpArgs false
set_option linter.unusedVariables false
set_option maxHeartbeats 4000000
set_option maxRecDepth 20000
namespace Go.Proofs.YtfeejeflmcapoaaGreatDoor
open Go.RowKit
theorem uj {P:Program} {w w':cu} {ops:Array Oper} {o:Oper} {a:Act} {K:Act->cu->Prop} {Q:Exit->Act->cu->Prop} {Er:Prop} (hgd:o.guard=none) (s x:Operand) (t ty:TypeId)
  (ho:o.op=.call { callee:=.builtin .append,args:=#[s,x],argTypes:=#[t,t] }) (hty:o.type=ty) (v xv v':Value) (hs:a.eval s=v) (hx:a.eval x=xv) (hrun:(Builtin.append_ #[t,t] ty #[v,xv]).run P w=.ok v' w') (h:K (a.put o.dst v') w') :
  if Region.wanted o (yielded ops a.tmps)=true then Oper.wp P o a w K Q else Er:=by
 have hwant:Region.wanted o (yielded ops a.tmps)=true:=by simp[Region.wanted,hgd]
 rw[gy hwant];subst hty;unfold Oper.wp execOp;simp only[ho,resolve,invoke,builtin,Sem.run_bind,Sem.run_pure,Result.andThen_ok,List.map_toArray,Ai,Fv,hs,hx,hrun];exact h
theorem a4f (xs:List Int) (v:Value) (w:cu) (hv:jc 1 8 Jv 0 w v xs):Calls Tryz.prog 148 #[v,.func (.func 149) #[] #[]] w (Ans (.bool (xs.all Qq)) w):=by
 have HQ:(List.range xs.length).all (fun j=>match xs[j]? with|some c=>Qq c|none=>false)=xs.all Qq:=afx _ _ _ (fun j hj=>by rw[jy hj])
 refine(au9 (fun _ wr=>Below w.heap.size w wr) (fun wr=>Below w.heap.size w wr) (fun j=>match xs[j]? with|some c=>Qq c|none=>false) xs _ w ?_ ?_ ?_ (iq _ _)).mono ?_
 ·intro _ wr h
  exact hv.stays E8 h
 ·intro _ w1 w2 h1 h2
  exact h1.trans (h2.mono h1.size)
 ·intro j hj cs wr h hR
  obtain⟨rfl,_⟩:=hR;refine(asa xs[j] wr).mono ?_;rintro e w' ⟨rfl,rfl⟩;rw[jy hj];exact⟨rfl,(fun _=>h),fun _=>h⟩
 ·rintro e w' ⟨rfl,h1,h2⟩
  rw[HQ] at h1 h2 ⊢;refine⟨rfl,?_⟩
  cases hh:xs.all Qq
  ·exact h2 hh
  ·exact h1 hh
theorem a7r (k:dw) (pb mb cb co:Nat) (a1 a2 a3 a4 a5 a6 ev:Value) (pl:List Nat) (fs:List (List Int)) (rs:List Int) (f:dh->Option Value) (W0 w:cu) (hC:CA W0 cb co k a1 a2 a3 a4 a5 a6) (hEA:EA W0 ev pl fs rs) (hpn:pl.length<=1000) (hW:Below W0.heap.size W0 w) (hpb:W0.heap.size<=pb) (hM:Iu w mb (varsOf k).length f) (hvl:(varsOf k).length<=1000)
  (hpl:jd w pb 127 (Jr cb co mb (.slice none 0 0) (.slice none 0 0) (.slice none 0 0) 0 0)) :
  Calls Tryz.prog 127 #[.pointer (some ⟨pb,0,none⟩),ev] w (an4 k pb mb cb co pl fs rs w (ownB fs k)):=by
 obtain⟨eb,ec,hev⟩:=hEA.sl.shape;subst hev;obtain⟨m4,n4,h4⟩:=hC.gq.shape;obtain⟨m5,n5,h5⟩:=hC.ay.shape;have l4:=hC.gq.Ob;have l5:=hC.ay.Ob;have HEA:=ak hEA;have HM:=ak hM;have Fa:=ak hpl
 have J9:Hid (∀w',But [pb] w w'->Below W0.heap.size W0 w'/\w'.cell? ⟨cb,co+4,none⟩=some (.slice m4 k.gq.length n4)/\w'.cell? ⟨cb,co+5,none⟩=some (.slice m5 k.ay.length n5)):=fun w' hb=>by
  have hold:Below W0.heap.size W0 w':=hW.trans (hb.below _ hW.size (fun q hq=>by rw[yt] at hq;omega));exact⟨hold,(hold.cell (p:=⟨cb,_,none⟩) hC.lt).trans (by rw[hC.c4,h4]),(hold.cell (p:=⟨cb,_,none⟩) hC.lt).trans (by rw[hC.c5,h5])⟩
 have HIX:Hid (∀i (hi:i<k.ay.length),∃b o,m5=some ⟨b,o,none⟩/\I64 k.ay[i]/\∀w',Below W0.heap.size W0 w'->w'.cell? ⟨b,o+i,none⟩=some (.int .i64 k.ay[i])):=fun i hi=>by
  have hs:=hC.ay;rw[h5] at hs;obtain⟨_,_,Ja,_,_,Fh⟩:=hs;simp only[qw] at Ja;obtain⟨rfl,_,rfl⟩:=Ja;obtain⟨b,o,cs,rfl,_,hb,_,hc,⟨rfl,hr⟩⟩:=Fh i hi;refine⟨b,o,rfl,hr,fun w' h'=>?_⟩;rw[h'.cell (p:=⟨b,_,none⟩) hb];have h0:=hc 0 (by simp);rw[jr,ji] at h0;exact h0
 have HMV:Hid (∀w',Below W0.heap.size W0 w'->jc 1 8 Jv 0 w' (.slice m4 k.gq.length n4) k.gq):=fun w' hb=>by
  rw[←h4];exact hC.gq.stays E8 hb
 have p0:=hpl.cell (i:=0) (v:=.pointer (some ⟨cb,co,none⟩)) rfl;have lp:=hpl.lt;obtain⟨hWw,c4,c5⟩:=uh J9 w (But.refl _ _);have HB:Hid (ownB fs k=(decide (k.gq.length<=1000/\k.ay.length<=1000)&&(k.gq.all Qq&&(List.range k.ay.length).all (O9 fs k.gq k.ay)))):=rfl;have Vu:=ak (a4f k.gq _ w (uh HMV w hWw));have HNR:Hid (k.gq.all Qq=true->k.gq.length<=1000->∀w',Below W0.heap.size W0 w'->Calls Tryz.prog 150 #[.slice m4 k.gq.length n4] w' fun e w''=>∃g,e=.returned (.slice (some ⟨g,0,none⟩) k.gq.length k.gq.length)/\jq W9 w'' w'.heap.size (.slice (some ⟨g,0,none⟩) k.gq.length k.gq.length) k.gq/\Below w'.heap.size w' w''):=fun h1 h2 w' hb=>av1 k.gq _ w' (uh HMV w' hb) (yc.1 h1) (by omega)
 have HFZ:=ak (Y3 fs k.gq k.ay)
 have Jb:Hid (∀x,x∈rs->0<=x/\x<=1000000):=fun x hx=>by
  obtain⟨j,hj,rfl⟩:=List.getElem_of_mem hx;exact(hEA.c6 j (by rw[←hEA.rl];exact hj) hj).2
 have HMP:Hid (mb≠pb):=fun e=>by
  subst e;have h9:=hM.an5 0;rw[hpl.cell (i:=0) (v:=.pointer (some ⟨cb,co,none⟩)) rfl] at h9
  cases h9
 clear hEA hM hpl hW hWw hC h4 h5 HMV;generalize ownB fs k=R at *;generalize hmv:k.gq.all Qq=mv at *
 by_cases h1:k.gq.length<=1000
 case neg =>
  have e1:decide (1000<(k.gq.length:Int))=true:=jf (by omega);have HF:Hid (R=false):=(uh HB).trans (by rw[iy (by omega)];rfl);clear HB h1;go_enter Tryz.func127,Tryz.ntmps127;go_wp2;go_ret;rw[uh HF];exact⟨rfl,But.refl _ _,fun h=>by cases h⟩
 have e1:decide (1000<(k.gq.length:Int))=false:=iy (by omega)
 by_cases h2:k.ay.length<=1000
 case neg =>
  have e2:decide (1000<(k.ay.length:Int))=true:=jf (by omega);have HF:Hid (R=false):=(uh HB).trans (by rw[iy (by omega)];rfl);clear HB h1 h2;go_enter Tryz.func127,Tryz.ntmps127;go_wp2;go_ret;rw[uh HF];exact⟨rfl,But.refl _ _,fun h=>by cases h⟩
 have e2:decide (1000<(k.ay.length:Int))=false:=iy (by omega)
 cases mv
 ·have HF:Hid (R=false):=(uh HB).trans (by rw[Aw,Bool.and_false])
  clear HB;go_enter Tryz.func127,Tryz.ntmps127;go_wp2_with fail;refine(uh Vu).mono ?_;rintro e w1 ⟨rfl,hb1⟩;have HB1:=ak hb1;clear hb1;go_wp2;go_ret;rw[uh HF];exact⟨rfl,But.of_below (uh HB1),fun h=>by cases h⟩
 have HR2:Hid (R=(List.range k.ay.length).all (O9 fs k.gq k.ay)):=(uh HB).trans (by rw[jf ⟨h1,h2⟩,Ak,Ak]);have a7s:=ak (uh HNR rfl h1);clear HB HNR;go_enter Tryz.func127,Tryz.ntmps127;go_wp2_with fail;refine(uh Vu).mono ?_;rintro e w1 ⟨rfl,hb1⟩;have HB1:=ak hb1;obtain⟨hW1,c4',c5'⟩:=uh J9 w1 (But.of_below hb1);have HNC:=ak (uh a7s w1 hW1);clear hb1 hW1 c4 c5 a7s Vu;go_wp2_with fail;refine(uh HNC).mono ?_;rintro e w2 ⟨g,rfl,ho,hb2⟩;have hb2':Below w.heap.size w w2:=(uh HB1).trans (hb2.mono (uh HB1).size);have hk2:=(uh Fa).below hb2' lp;have x3:=hk2.cell (i:=3) (v:=.slice none 0 0) rfl;have z3:=hk2.free 3;have hk3:=hk2.set 3 (.slice (some ⟨g,0,none⟩) k.gq.length k.gq.length);have hgo:w1.heap.size<=g:=(ho.lt g rfl).1;have ho3:=ho.Ia (w':=w2.setCell ⟨pb,3,none⟩ (.slice (some ⟨g,0,none⟩) k.gq.length k.gq.length)) (fun b hb=>zf _ _ _ _ (by simp only[Value.ownBlock,uw] at hb;subst hb;show g≠pb;have:=(uh HB1).size;omega))
 have a7t:jq W9 (w2.setCell ⟨pb,3,none⟩ (.slice (some ⟨g,0,none⟩) k.gq.length k.gq.length)) w.heap.size (.slice (some ⟨g,0,none⟩) k.gq.length k.gq.length) k.gq:=by
  obtain⟨q1,q2⟩:=ho3;refine⟨q1,?_⟩;rcases q2 with q2|⟨gg,cap,cur,e1,e2,e3⟩
  ·exact Or.inl q2
  ·exact Or.inr ⟨gg,cap,cur,e1,ku (uh HB1).size e2,e3⟩
 have ah9:But [pb] w (w2.setCell ⟨pb,3,none⟩ (.slice (some ⟨g,0,none⟩) k.gq.length k.gq.length)):=(But.of_below hb2').abd (p:=⟨pb,3,none⟩) (yt.2 rfl) _;obtain⟨_,c4,c5⟩:=uh J9 _ ah9;have HK3:Hid (jd (w2.setCell ⟨pb,3,none⟩ (.slice (some ⟨g,0,none⟩) k.gq.length k.gq.length)) pb 127 (Jr cb co mb (.slice none 0 0) (.slice (some ⟨g,0,none⟩) k.gq.length k.gq.length) (.slice none 0 0) 0 0)):=hk3;have HO3:=ak a7t;have akl:=ak ah9;clear hb2 hb2' hk2 hk3 ho ho3 a7t ah9 c4' c5';go_wp2;generalize w2.setCell ⟨pb,3,none⟩ (.slice (some ⟨g,0,none⟩) k.gq.length k.gq.length)=w3 at *;clear x3 z3 c4 c5 p0
 go_loopg [6,49] k.ay.length (fun gm sv iv wr=>∃(i:Nat) (ivv:Value) (g c:Nat),i<=k.ay.length/\gm=k.ay.length-i/\iv=.int .i64 i/\sv=.int .i64 (Ea rs k.ay i)/\(∀j,j<i->O9 fs k.gq k.ay j=true)/\jd wr pb 127 (Jr cb co mb ivv (.slice (some ⟨g,0,none⟩) (firstTo fs k.gq k.ay i).length c) (.slice none 0 0) 0 0)/\jq Xk wr w.heap.size ivv (Qk pl fs k.gq k.ay i)/\jq W9 wr w.heap.size (.slice (some ⟨g,0,none⟩) (firstTo fs k.gq k.ay i).length c) (firstTo fs k.gq k.ay i)/\But [pb] w wr)
 case atStart =>
  refine⟨0,.slice none 0 0,g,k.gq.length,jg _,by omega,rfl,rfl,fun j hj=>absurd hj (yu _),?_,jq.nil _ _,?_,uh akl⟩
  ·rw[uh HFZ];exact uh HK3
  ·rw[uh HFZ];exact uh HO3
 case round =>
  clear HK3 HO3 akl hgo;obtain⟨i,ivv,g,c,hi,hg,rfl,rfl,hone,hblk,hoi,hof,hbt⟩:=hrel;rename cu=>wr;obtain⟨ia,ic,a7u⟩:=hoi.slice;rw[Yg] at a7u;subst a7u;have HG:=ak hg;have an6:=ak hone;have HK:=ak hblk;have HOI:=ak hoi;have HOF:=ak hof;have L6:=ak hbt;obtain⟨hold,_,_⟩:=uh J9 wr hbt;have HOLD:=ak hold
  have hfl:(firstTo fs k.gq k.ay i).length<=20000+1000:=by
   cases i with
   | zero=>rw[Y3];omega
   | succ i =>
    have h9:=hone i (by omega);unfold O9 at h9;rw[jy (by omega)] at h9;simp only[uy] at h9;have:=xw h9.2;omega
  have hrm:=aq3 rs k.ay (uh Jb) i;clear hg hone hblk hoi hof hbt hold
  by_cases hlt:i<k.ay.length
  case neg =>
   have e:i=k.ay.length:=by omega
   subst e;have HF:Hid (R=true):=(uh HR2).trans (by rw[yc];exact fun j hj=>uh an6 j (uz.1 hj));have y1:=(uh HK).cell (i:=1) (v:=.map (some mb)) rfl;have y6:=(uh HK).cell (i:=6) (v:=.int .i64 0) rfl;have z6:=(uh HK).free 6;have hml:∀ty,(Builtin.len_ #[33] ty #[.map (some mb)]).run Tryz.prog wr=.ok (.int .i64 ((varsOf k).length:Int)) wr:=fun ty=>((uh L6).map (uh HM) (by simpa using uh HMP)).len Tryz.underlying33 ty
   have HKE:Hid (jd (wr.setCell ⟨pb,6,none⟩ (.int .i64 (((varsOf k).length:Int)+Ea rs k.ay k.ay.length))) pb 127 (Jr cb co mb (.slice ia k.ay.length ic) (.slice (some ⟨g,0,none⟩) (firstTo fs k.gq k.ay k.ay.length).length c) (.slice none 0 0) 0 (((varsOf k).length:Int)+Ea rs k.ay k.ay.length))):=(uh HK).set 6 (.int .i64 (((varsOf k).length:Int)+Ea rs k.ay k.ay.length))
   have Dc:Hid (∀w',w'=wr.setCell ⟨pb,6,none⟩ (.int .i64 (((varsOf k).length:Int)+Ea rs k.ay k.ay.length))->an4 k pb mb cb co pl fs rs w true (.returned (.bool true)) w'):=fun w' hw'=>by
    subst hw';have hpi:=jq.Tj (uh HOI) (uh HK) (by decide);have hpf:=jq.Tj (uh HOF) (uh HK) (by decide);refine⟨rfl,(uh L6).abd (p:=⟨pb,6,none⟩) (yt.2 rfl) _,fun _=>⟨_,g,c,uh HKE,(uh HOI).Ia (fun b hb=>zf _ _ _ _ (fun e=>?_)),(uh HOF).Ia (fun b hb=>zf _ _ _ _ (fun e=>?_))⟩⟩
    ·have e':b=pb:=e
     subst e';exact hpi hb
    ·have e':b=pb:=e
     subst e';exact hpf hb
   generalize Ea rs k.ay k.ay.length=rm at *;go_wp2;go_ret;rw[uh HF];exact uh Dc _ rfl
  obtain⟨xb,xo,rfl,be0,hxc⟩:=uh HIX i hlt;have x0:=hxc wr (uh HOLD)
  have U6:Hid (O9 fs k.gq k.ay i=(decide (0<=k.ay[i]/\k.ay[i]<(fs.length:Int))&&decide ((firstTo fs k.gq k.ay (i+1)).length<=20000))):=by
   refine ak ?_;unfold O9;rw[jy hlt]
  have Bo:Hid (O9 fs k.gq k.ay i=false->R=false):=fun h=>(uh HR2).trans (by rw[List.all_eq_false];exact⟨i,uz.2 hlt,by rw[h];decide⟩)
  have HYE:Hid (O9 fs k.gq k.ay i=true->∀j,j<i+1->O9 fs k.gq k.ay j=true):=fun h j hj=>by
   by_cases e:j=i
   ·subst e;exact h
   ·exact uh an6 j (by omega)
  have Bj:=ak (abp fs k.gq k.ay i hlt)
  have HIS:Hid (Qk pl fs k.gq k.ay (i+1)=Qk pl fs k.gq k.ay i++[(pl.getD k.ay[i].toNat 0,(firstTo fs k.gq k.ay i).length)]):=by
   refine ak ?_;rw[ate,yw (l:=k.ay),jy hlt,Kw]
  have HRS:Hid (Ea rs k.ay (i+1)=maxS (Ea rs k.ay i) (rs.getD k.ay[i].toNat 0)):=by
   refine ak ?_;show maxS _ _=_;rw[yw (l:=k.ay),jy hlt,Kw]
  have Yy:(i:Int)<(k.ay.length:Int):=by omega
  clear hxc;generalize k.ay[i]=kk at *;have be1:=(uh HEA).fl
  by_cases hk0:kk<0
  ·have f1:decide (kk<0)=true:=jf hk0
   have HF:Hid (R=false):=uh Bo ((uh U6).trans (by rw[iy (by omega)];rfl));clear Bo HYE U6 hk0;go_wp2;go_ret;rw[uh HF];exact⟨rfl,uh L6,fun h=>by cases h⟩
  have f1:decide (kk<0)=false:=iy hk0
  by_cases hk1:(pl.length:Int)<=kk
  ·have f2:decide ((pl.length:Int)<=kk)=true:=jf hk1
   have HF:Hid (R=false):=uh Bo ((uh U6).trans (by rw[iy (by omega)];rfl));clear Bo HYE U6 hk0 hk1;go_wp2;go_ret;rw[uh HF];exact⟨rfl,uh L6,fun h=>by cases h⟩
  obtain⟨q,rfl⟩:=Ht (show 0<=kk by omega);have hq:q<pl.length:=by omega
  have f2:decide ((pl.length:Int)<=(q:Int))=false:=iy hk1;have f2n:decide (pl.length<=q)=false:=iy (by omega);obtain⟨fa,fc,t3,tS,tl⟩:=(uh HEA).c3 q hq (by omega);obtain⟨t6,tr0,tr1⟩:=(uh HEA).c6 q hq (by rw[(uh HEA).rl];exact hq);have bcw:=(uh HEA).sl;obtain⟨ea,be3,a7v,_,_,Fh⟩:=bcw;simp only[qw] at a7v;obtain⟨rfl,_,rfl⟩:=a7v;obtain⟨peb,peo,pcs,rfl,_,a7w,_,hpc,rfl⟩:=Fh q hq;have t0:=hpc 0 (by simp);simp only[jr,ji,og] at t0;have atf:Hid (O9 fs k.gq k.ay i=decide ((firstTo fs k.gq k.ay (i+1)).length<=20000)):=(uh U6).trans (by rw[jf (by omega),Ak]);have hgf:fs.getD q []=fs[q]'(by omega):=by rw[yw,jy (by omega),Kw]
  have hgr:rs.getD q 0=rs[q]'(by rw[(uh HEA).rl];exact hq):=by rw[yw,jy (by rw[(uh HEA).rl];exact hq),Kw]
  have hgp:pl.getD q 0=pl[q]:=by rw[yw,jy hq,Kw]
  rw[Ed] at Bj HIS HRS;rw[hgf] at Bj;rw[hgp] at HIS;rw[hgr] at HRS;generalize hpq:pl[q]=pq at *;generalize fs[q]'(by omega)=fq at *;generalize rs[q]'(by rw[(uh HEA).rl];exact hq)=rq at *;have HT:Hid (∀w',Below W0.heap.size W0 w'->w'.cell? ⟨peb,peo+q,none⟩=some (.pointer (some ⟨pq,0,none⟩))/\w'.cell? ⟨pq,3,none⟩=some (.slice fa fq.length fc)/\w'.cell? ⟨pq,6,none⟩=some (.int .i64 rq)/\jc 1 4 ac3 0 w' (.slice fa fq.length fc) fq):=fun w' hb=>⟨(hb.cell (p:=⟨peb,_,none⟩) a7w).trans t0,(hb.cell (p:=⟨pq,3,none⟩) (Jh W0 _ t3)).trans t3,(hb.cell (p:=⟨pq,6,none⟩) (Jh W0 _ t6)).trans t6,tS.stays alx hb⟩
  obtain⟨v0,v3,v6,_⟩:=uh HT wr (uh HOLD);clear t0 t3 t6 tS Fh hpc hgf hgr hgp hk0 hk1 U6 hpq a7w;have hA:Below wr.heap.size wr (wr.alloc (.cells #[.pointer (some ⟨pq,0,none⟩),.int .i64 ((firstTo fs k.gq k.ay i).length:Int)] 176)).drew:=((iq _ _).alloc (gu _) _).drew
  obtain⟨v',w2,hrun,ho2,hg2,hn2⟩:=Dn Xk (wr.alloc (.cells #[.pointer (some ⟨pq,0,none⟩),.int .i64 ((firstTo fs k.gq k.ay i).length:Int)] 176)).drew 123 w.heap.size _ _ ((uh HOI).below hA) wr.heap.size (pq,(firstTo fs k.gq k.ay i).length) (fun j u hu=>by
   have h9:=(oh wr #[.pointer (some ⟨pq,0,none⟩),.int .i64 ((firstTo fs k.gq k.ay i).length:Int)] 176).cell (i:=j) (v:=u) (by simpa[Xk] using hu);exact h9) (by rw[Yg];simp[Xk];omega) (ku (uh L6).size hA.size)
  have hrun':(Builtin.append_ #[123,123] 123 #[.slice ia i ic,.slice (some ⟨wr.heap.size,0,none⟩) 1 1]).run Tryz.prog (wr.alloc (.cells #[.pointer (some ⟨pq,0,none⟩),.int .i64 ((firstTo fs k.gq k.ay i).length:Int)] 176)).drew=.ok v' w2:=hrun;have hlp:pb<wr.heap.size:=(uh HK).lt;have y2:=(uh HK).cell (i:=2) (v:=.slice ia i ic) rfl;have y3:=(uh HK).cell (i:=3) (v:=.slice (some ⟨g,0,none⟩) (firstTo fs k.gq k.ay i).length c) rfl;have y2a:=(hA.cell (p:=⟨pb,2,none⟩) hlp).trans y2;have y3a:=(hA.cell (p:=⟨pb,3,none⟩) hlp).trans y3;have hpi:=jq.Tj (uh HOI) (uh HK) (by decide);have hpf:=jq.Tj (uh HOF) (uh HK) (by decide);have hblk2:∀b,b<wr.heap.size->(Value.slice ia i ic).ownBlock≠some b->w2.heap[b]?=wr.heap[b]?:=fun b hb hne=>(hg2.block b (qg hb hA.size) (fun e=>hne e.symm)).trans (hA.block b hb)
  have hK2:jd w2 pb 127 (Jr cb co mb (.slice ia i ic) (.slice (some ⟨g,0,none⟩) (firstTo fs k.gq k.ay i).length c) (.slice none 0 0) 0 0):=(hblk2 pb hlp hpi).trans (uh HK);have y2b:=hK2.cell (i:=2) (v:=.slice ia i ic) rfl;have z2b:=hK2.free 2;have y3b:=hK2.cell (i:=3) (v:=.slice (some ⟨g,0,none⟩) (firstTo fs k.gq k.ay i).length c) rfl;have hsz2:wr.heap.size<=w2.heap.size:=ku hA.size hg2.size;have a3f:But [pb] w w2:=⟨hg2.os.trans (hA.os.trans (uh L6).os),hg2.tape.trans (hA.tape.trans (uh L6).tape),hg2.output.trans (hA.output.trans (uh L6).output),ku (uh L6).size hsz2,fun b hb hn=>(hblk2 b (qg hb (uh L6).size) (fun e=>by have:=((uh HOI).lt b e).1;omega)).trans ((uh L6).block b hb hn)⟩;obtain⟨va,vc,hv'⟩:=ho2.slice;rw[jh,Yg,N9] at hv';subst hv';have hKA:=hK2.set 2 (.slice va (i+1) vc);have HKA:Hid (jd (w2.setCell ⟨pb,2,none⟩ (.slice va (i+1) vc)) pb 127 (Jr cb co mb (.slice va (i+1) vc) (.slice (some ⟨g,0,none⟩) (firstTo fs k.gq k.ay i).length c) (.slice none 0 0) 0 0)):=hKA;have afy:Hid (But [pb] w (w2.setCell ⟨pb,2,none⟩ (.slice va (i+1) vc))):=a3f.abd (p:=⟨pb,2,none⟩) (yt.2 rfl) _;have hpv:=jq.Tj ho2 hK2 (by decide)
  have atg:Hid (jq Xk (w2.setCell ⟨pb,2,none⟩ (.slice va (i+1) vc)) w.heap.size (.slice va (i+1) vc) (Qk pl fs k.gq k.ay (i+1))):=by
   refine ak ?_;rw[uh HIS];exact ho2.Ia (fun b hb=>zf _ _ _ _ (fun e=>by have e':b=pb:=e;subst e';exact hpv hb))
  have ath:Hid (jq W9 (w2.setCell ⟨pb,2,none⟩ (.slice va (i+1) vc)) w.heap.size (.slice (some ⟨g,0,none⟩) (firstTo fs k.gq k.ay i).length c) (firstTo fs k.gq k.ay i)):=by
   refine ak ((uh HOF).Ia (fun b hb=>?_));rw[zf _ _ _ _ (fun e=>by have e':b=pb:=e;subst e';exact hpf hb)];exact hblk2 b ((uh HOF).lt b hb).2 (fun e=>(ajg (uh HOI) (uh HOF) (by decide) b e) hb)
  clear hA hrun ho2 hg2 hn2 hpi hpf hblk2 hK2 hsz2 a3f hKA hpv;have Df:=ak hrun';clear hrun';go_wp2_with fail
  go_region_law (refine uj rfl _ _ 123 123 rfl rfl _ _ _ rfl rfl (uh Df) ?_)
  all_goals
   generalize w2.setCell ⟨pb,2,none⟩ (.slice va (i+1) vc)=wA at *;clear y2 y3 y2a y3a y2b z2b y3b x0 v0 v3 v6;obtain⟨holdA,_,_⟩:=uh J9 wA (uh afy);obtain⟨v0,v3,v6,vS⟩:=uh HT wA holdA;have hlenS:(firstTo fs k.gq k.ay (i+1)).length=(firstTo fs k.gq k.ay i).length+fq.length:=by rw[uh Bj,jh]
   obtain⟨g',c',w3',hrun3,ho3,hg3⟩:=aki W9 (R:=ac3) (fun _ _ _ h=>h) wA.drew 124 w.heap.size g c (firstTo fs k.gq k.ay i) ((uh ath).Ia (fun _ _=>rfl)) (.slice fa fq.length fc) fq (vS.stays alx (Below.drew (iq _ wA))) (by simp[W9];omega) (uh afy).size;have bbt:Hid ((Builtin.append_ #[124,124] 124 #[.slice (some ⟨g,0,none⟩) (firstTo fs k.gq k.ay i).length c,.slice fa fq.length fc]).run Tryz.prog wA.drew=.ok (.slice (some ⟨g',0,none⟩) ((firstTo fs k.gq k.ay i).length+fq.length) c') w3'):=hrun3;have hpf:=jq.Tj (uh ath) (uh HKA) (by decide);have hblk3:∀b,b<wA.heap.size->(Value.slice (some ⟨g,0,none⟩) (firstTo fs k.gq k.ay i).length c).ownBlock≠some b->w3'.heap[b]?=wA.heap[b]?:=fun b hb hne=>hg3.block b hb (fun e=>hne e.symm)
   have bcx:pb<wA.heap.size:=(uh HKA).lt;have hK3:jd w3' pb 127 (Jr cb co mb (.slice va (i+1) vc) (.slice (some ⟨g,0,none⟩) (firstTo fs k.gq k.ay i).length c) (.slice none 0 0) 0 0):=(hblk3 pb bcx hpf).trans (uh HKA);have y3:=(uh HKA).cell (i:=3) (v:=.slice (some ⟨g,0,none⟩) (firstTo fs k.gq k.ay i).length c) rfl;have y3b:=hK3.cell (i:=3) (v:=.slice (some ⟨g,0,none⟩) (firstTo fs k.gq k.ay i).length c) rfl;have z3b:=hK3.free 3;have hpv:=jq.Tj ho3 hK3 (by decide)
   have HKB:Hid (jd (w3'.setCell ⟨pb,3,none⟩ (.slice (some ⟨g',0,none⟩) ((firstTo fs k.gq k.ay i).length+fq.length) c')) pb 127 (Jr cb co mb (.slice va (i+1) vc) (.slice (some ⟨g',0,none⟩) (firstTo fs k.gq k.ay (i+1)).length c') (.slice none 0 0) 0 0)):=by
    refine ak ?_;rw[hlenS];exact hK3.set 3 (.slice (some ⟨g',0,none⟩) ((firstTo fs k.gq k.ay i).length+fq.length) c')
   have a7x:Hid (jq W9 (w3'.setCell ⟨pb,3,none⟩ (.slice (some ⟨g',0,none⟩) ((firstTo fs k.gq k.ay i).length+fq.length) c')) w.heap.size (.slice (some ⟨g',0,none⟩) (firstTo fs k.gq k.ay (i+1)).length c') (firstTo fs k.gq k.ay (i+1))):=by
    refine ak ?_;rw[hlenS,uh Bj];exact ho3.Ia (fun b hb=>zf _ _ _ _ (fun e=>by have e':b=pb:=e;subst e';exact hpv hb))
   have hpi:=jq.Tj (uh atg) (uh HKA) (by decide)
   have a7y:Hid (jq Xk (w3'.setCell ⟨pb,3,none⟩ (.slice (some ⟨g',0,none⟩) ((firstTo fs k.gq k.ay i).length+fq.length) c')) w.heap.size (.slice va (i+1) vc) (Qk pl fs k.gq k.ay (i+1))):=by
    refine ak ((uh atg).Ia (fun b hb=>?_));rw[zf _ _ _ _ (fun e=>by have e':b=pb:=e;subst e';exact hpi hb)];exact hblk3 b ((uh atg).lt b hb).2 (fun e=>(ajg (uh ath) (uh atg) (by decide) b e) hb)
   have ati:Hid (But [pb] w (w3'.setCell ⟨pb,3,none⟩ (.slice (some ⟨g',0,none⟩) ((firstTo fs k.gq k.ay i).length+fq.length) c'))):=by
    have h9:But [pb] w w3':=⟨hg3.os.trans (uh afy).os,hg3.tape.trans (uh afy).tape,hg3.output.trans (uh afy).output,ku (uh afy).size hg3.size,fun b hb hn=>(hblk3 b (qg hb (uh afy).size) (fun e=>by have:=((uh ath).lt b e).1;omega)).trans ((uh afy).block b hb hn)⟩;exact h9.abd (p:=⟨pb,3,none⟩) (yt.2 rfl) _
   clear hrun3 hpf hblk3 hK3 hpv hpi ho3 hg3 vS holdA v0;go_wp2_with fail
   go_region_law (refine uj rfl _ _ 124 124 rfl rfl _ _ _ rfl rfl (uh bbt) ?_)
   all_goals
    generalize w3'.setCell ⟨pb,3,none⟩ (.slice (some ⟨g',0,none⟩) ((firstTo fs k.gq k.ay i).length+fq.length) c')=wB at *;have Eo:=ak hlenS;clear hlenS;have y3:=(uh HKB).cell (i:=3) (v:=.slice (some ⟨g',0,none⟩) (firstTo fs k.gq k.ay (i+1)).length c') rfl;obtain⟨holdB,_,_⟩:=uh J9 wB (uh ati);obtain⟨_,_,v6,_⟩:=uh HT wB holdB
    by_cases hbig:(firstTo fs k.gq k.ay (i+1)).length<=20000
    ·have e9:decide (20000<((firstTo fs k.gq k.ay (i+1)).length:Int))=false:=iy (by omega)
     have Lr:=ak (uh HYE ((uh atf).trans (jf hbig)));have HMX:Hid (Ea rs k.ay (i+1)=if Ea rs k.ay i<rq then rq else Ea rs k.ay i):=uh HRS;clear Bo HYE atf y3b z3b
     by_cases hmx:Ea rs k.ay i<rq
     ·have HRX:Hid (Ea rs k.ay (i+1)=rq):=(uh HMX).trans (gy hmx)
      go_wp2
      go_roundg (k.ay.length-(i+1))
      case measure=>have:=uh HG;omega
      case rel=>exact⟨i+1,.slice va (i+1) vc,g',c',by omega,rfl,by go_num,(by rw[uh HRX];first|done|exact congrArg _ (by omega)),uh Lr,uh HKB,uh a7y,uh a7x,uh ati⟩
     ·have HRX:Hid (Ea rs k.ay (i+1)=Ea rs k.ay i):=(uh HMX).trans (bf hmx)
      go_wp2
      go_roundg (k.ay.length-(i+1))
      case measure=>have:=uh HG;omega
      case rel=>exact⟨i+1,.slice va (i+1) vc,g',c',by omega,rfl,by go_num,(by rw[uh HRX];first|done|exact congrArg _ (by omega)),uh Lr,uh HKB,uh a7y,uh a7x,uh ati⟩
    ·have e9:decide (20000<((firstTo fs k.gq k.ay (i+1)).length:Int))=true:=jf (by omega)
     have HF:Hid (R=false):=uh Bo ((uh atf).trans (iy hbig));clear Bo HYE atf y3b z3b;go_wp2;go_ret;rw[uh HF];exact⟨rfl,uh ati,fun h=>by cases h⟩
theorem aia {W1:cu} {mb:Nat} {a:List dw} {k:dw} {bs:List Nat} {X:cu} {g mc al:Nat} (hG:Jz W1 mb (a++[k]) (.slice (some ⟨g,0,none⟩) (al+1) mc) bs X) (hal:al=a.length) (hm:mb<W1.heap.size) (hw:pz qy (a++[k])<=1048577) (c:Raw 6) (s:lu) (sb:List Nat) (hT:Y4 X c.1 s sb) (hnd:sb.Nodup) (hsb:∀b,b∈sb->b∉bs/\W1.heap.size<=b) (hlt:∀b,b∈sb->b<X.heap.size) :
  ∃ia n1 ic va n2 vc w5 bs',X.cell? ⟨g,al*7+6,none⟩=some (.slice ia n1 ic)/\g<X.heap.size/\(Builtin.append_ #[48,48] 48 #[.slice ia n1 ic,.slice (some ⟨X.heap.size,0,none⟩) 1 1]).run Tryz.prog (X.alloc (.cells c.1.toArray 60))=.ok (.slice va n2 vc) w5/\(w5.cell? ⟨g,al*7+6,none⟩=some (.slice ia n1 ic)/\w5.frozen? ⟨g,al*7+6,none⟩=false/\g<w5.heap.size)/\Jz W1 mb (a++[Dj k s]) (.slice (some ⟨g,0,none⟩) (al+1) mc) bs' (w5.setCell ⟨g,al*7+6,none⟩ (.slice va n2 vc)):=by
 subst hal;have hA:Below X.heap.size X (X.alloc (.cells c.1.toArray 60)):=(iq _ _).alloc (gu _) _;have hgA:=hG.below hA;obtain⟨v1,Pe,hc1,ho1,hl6,hgl,hgrow⟩:=yj.aes hgA.row;have hsm:=Aj hw
 obtain⟨v',w5,hrun,yh,hg5,F9⟩:=Dn abq (X.alloc (.cells c.1.toArray 60)) 48 W1.heap.size v1 Pe ho1 X.heap.size c (fun j u hu=>by
  have hu':c.1[j]?=some u:=hu;exact(oh X c.1.toArray 60).cell (i:=j) (v:=u) (by simpa using hu')) (by rw[hl6];show (k.body.length+1)*104<=_;omega) hgA.but.size
 obtain⟨⟨hc5,Oy⟩,bs',hmk⟩:=hgrow v' w5 c s sb (Qs _ _ _ _ _ hT (fun b hb=>hA.block b (hlt b hb))) hnd hsb yh hg5 F9 (by omega);have hput:=hgA.put hm ho1 (by decide) hg5 hgA.Y5 hmk;obtain⟨ia,ic,rfl⟩:=ho1.slice;obtain⟨va,vc,rfl⟩:=yh.slice
 have Qd:g<X.heap.size:=by
  obtain⟨abr,Y6,Jc,_⟩:=hG.row;exact(Az Jc g rfl).2
 exact⟨ia,_,ic,va,_,vc,w5,bs',(hA.cell (p:=⟨g,_,none⟩) Qd).symm.trans hc1,Qd,hrun,⟨hc5,Oy,qg hgl hg5.size⟩,hput⟩
theorem akm (kd at_:Int) (nm:dh) (w:cu) (B:Nat) (cv:Value) (code:List l9) (h:Len nm.size/\I64 kd/\I64 at_) (ho:jq Gp w B cv code) (hk:∀x,x∈code->okI x) (hl:code.length<=2000000):Y4 w [.int .i64 kd,.string nm,.int .i64 at_,.slice none 0 0,cv,.slice none 0 0] ⟨kd,nm,at_,[],code,[]⟩ (zq cv):=by
 have z:∀{α:Type} (E:Fj Tryz.prog α) (ok:α->Prop),Tn E ok w (.slice none 0 0) [] []:=fun E ok=>⟨jq.nil _ _,(fun x hx=>by cases hx),by simp,rfl⟩
 refine⟨_,_,_,[],zq cv,[],rfl,h.1,h.2.1,h.2.2,z _ _,⟨ho.low (jg _),hk,?_,rfl⟩,⟨[],[],jq.nil _ _,by simp,.nil,rfl⟩,by simp⟩;show code.length*32<=_;omega
theorem azp {w:cu} {B fg fc:Nat} {f:List dh} (h:jq ny w B (.slice (some ⟨fg,0,none⟩) f.length fc) f) (hs:f.length<=1048577/\∀p,p∈f->p.size<=1048576) (p:Nat) (hp:p<=f.length):jc 1 16 xk 0 w (.slice (if fc=p then some ⟨fg,0,none⟩ else some ⟨fg,p,none⟩) (f.length-p) (fc-p)) (f.drop p):=by
 have h1:=J3 h hs
 by_cases c:fc=p
 ·rw[gy c]
  obtain⟨a',c',hv,⟨h2,h3⟩,h4,hx⟩:=h1;simp only[qw] at hv;have e:f.drop p=[]:=List.drop_eq_nil_of_le (by omega);rw[e];exact⟨_,fc-p,by rw[show f.length-p=0 from by omega];rfl,⟨by unfold Len;simp,jg _⟩,by unfold Len;simp,fun i hi=>absurd hi (yu _)⟩
 ·rw[bf c]
  have h9:=h1.sub p f.length hp (gu _)
  have e:wz f p f.length=f.drop p:=by
   unfold wz;exact P8 (by rw[Cc];exact gu _)
  rw[e] at h9;simpa using h9
theorem ajh {W1:cu} {mb:Nat} {a:List dw} {k:dw} {bs:List Nat} {w2 W:cu} {g mc al B fg fc n1 ic:Nat} {ia:Option Addr} {f:List dh} (hG:Jz W1 mb (a++[k]) (.slice (some ⟨g,0,none⟩) (al+1) mc) bs w2) (hal:al=a.length) (hc6:w2.cell? ⟨g,al*7+6,none⟩=some (.slice ia n1 ic)) (hm:mb<W1.heap.size) (hw:pz qy (a++[k])<=1048577) (ho:jq ny w2 B (.slice (some ⟨fg,0,none⟩) f.length fc) f) (hs:f.length<=1048577/\∀p,p∈f->p.size<=1048576) (h3:3<=f.length) (hW:Below w2.heap.size w2 W) (kd at_:Int) (nm:dh) (hok:Len nm.size/\I64 kd/\I64 at_) (av:Value) (hav:av=.slice (if fc=3 then some ⟨fg,0,none⟩ else some ⟨fg,3,none⟩) (f.length-3) (fc-3)) :
  Calls Tryz.prog 22 #[av] W (fun e w9=>∃ca n9 cc va n2 vc w5 w6 bs',e=.returned (.slice ca n9 cc)/\w9.cell? ⟨fg,1,none⟩=some (.string (fA f 1))/\w9.cell? ⟨g,al*7+6,none⟩=some (.slice ia n1 ic)/\g<w9.heap.size/\fg<w9.heap.size/\(w9.alloc (.cells #[.int .i64 kd,.string nm,.int .i64 at_,.slice none 0 0,.slice ca n9 cc,.slice none 0 0] 60)).cell? ⟨fg,1,none⟩=some (.string (fA f 1))/\(w9.alloc (.cells #[.int .i64 kd,.string nm,.int .i64 at_,.slice none 0 0,.slice ca n9 cc,.slice none 0 0] 60)).cell? ⟨g,al*7+6,none⟩=some (.slice ia n1 ic)/\Hid ((Builtin.append_ #[48,48] 48 #[.slice ia n1 ic,.slice (some ⟨w9.heap.size,0,none⟩) 1 1]).run Tryz.prog (w9.alloc (.cells #[.int .i64 kd,.string nm,.int .i64 at_,.slice none 0 0,.slice ca n9 cc,.slice none 0 0] 60))=.ok (.slice va n2 vc) w5)/\w5.cell? ⟨g,al*7+6,none⟩=some (.slice ia n1 ic)/\w5.frozen? ⟨g,al*7+6,none⟩=false/\g<w5.heap.size/\Hid (w6=w5.setCell ⟨g,al*7+6,none⟩ (.slice va n2 vc))/\Hid (Jz W1 mb (a++[Dj k ⟨kd,nm,at_,[],Dk (f.drop 3),[]⟩]) (.slice (some ⟨g,0,none⟩) (al+1) mc) bs' w6)):=by
 subst hav;have hoW:=ho.below hW;have hdl:(f.drop 3).length<=1048577:=by rw[Cc];omega
 have hds:∀p,p∈f.drop 3->p.size<=1048576:=fun p hp=>hs.2 p (List.mem_of_mem_drop hp)
 refine(aji (f.drop 3) _ W (azp hoW hs 3 h3) hds (by omega)).mono ?_;rintro e w9 ⟨v9,rfl,Jc,yx⟩;obtain⟨ca,cc,rfl⟩:=Jc.slice;have hb:Below w2.heap.size w2 w9:=hW.trans (yx.mono hW.size);have hlt:=fun b hb'=>(Az Jc b (Bq.1 hb'))
 have hnew:∀b,b∈zq (.slice ca (Dk (f.drop 3)).length cc)->w2.heap.size<=b:=fun b hb'=>ku hW.size (hlt b hb').1
 have hfl:fg<w2.heap.size:=(Az ho fg rfl).2
 obtain⟨ia2,n12,ic2,va,n2,vc,w5,bs',h1,h2,h3',h4,h5⟩:=aia (hG.below hb) hal hm hw ⟨[.int .i64 kd,.string nm,.int .i64 at_,.slice none 0 0,.slice ca (Dk (f.drop 3)).length cc,.slice none 0 0],by simp,by intro u hu;simp only[qj,xq,xu] at hu;rcases hu with rfl|rfl|rfl|rfl|rfl|rfl<;>rfl⟩ ⟨kd,nm,at_,[],Dk (f.drop 3),[]⟩ _ (akm kd at_ nm w9 _ _ _ hok Jc (fun x hx=>by
  obtain⟨p,hp,rfl⟩:=List.mem_map.1 hx;exact aib p (hds p hp)) (by unfold Dk;rw[zy];omega)) (by unfold zq;cases (Value.slice ca (Dk (f.drop 3)).length cc).ownBlock<;>simp) (fun b hb'=>⟨fun h9=>by have h8:=(hG.row.nd.2 b h9).2;have h7:=hnew b hb';omega,ku hG.but.size (hnew b hb')⟩) (fun b hb'=>(hlt b hb').2)
 have Qd:g<w2.heap.size:=by
  obtain⟨abr,Y6,azq,_⟩:=hG.row;exact(Az azq g rfl).2
 have h0:=(hb.cell (p:=⟨g,al*7+6,none⟩) Qd).trans hc6;rw[h1] at h0;simp only[uw,qw] at h0;obtain⟨rfl,rfl,rfl⟩:=h0
 have x1:w9.cell? ⟨fg,1,none⟩=some (.string (fA f 1)):=by
  obtain⟨g',cap',e1,_,_,_,hc⟩:=ag1 (ho.below hb) (by omega);simp only[qw,uw,Addr.mk.injEq] at e1;rw[e1.1.1,hc 1 (by omega),Jj]
 have hA:Below w9.heap.size w9 (w9.alloc (.cells #[.int .i64 kd,.string nm,.int .i64 at_,.slice none 0 0,.slice ca (Dk (f.drop 3)).length cc,.slice none 0 0] 60)):=(iq _ _).alloc (gu _) _;have hf9:fg<w9.heap.size:=qg hfl hb.size;exact⟨ca,_,cc,va,n2,vc,w5,_,bs',rfl,x1,h1,h2,hf9,(hA.cell (p:=⟨fg,1,none⟩) hf9).trans x1,(hA.cell (p:=⟨g,_,none⟩) h2).trans h1,ak h3',h4.1,h4.2.1,h4.2.2,ak rfl,ak h5⟩
structure Mc (W4:cu) (sb:Nat) (at_:Int) (ov:Value) (args:List (List l9)) (cur:List dh) (av gv:Value) (abs:List Nat) (wr:cu):Prop where
 box:jd wr sb 60 #[.int .i64 3,.string ⟨#[]⟩,.int .i64 at_,ov,.slice none 0 0,av]
 row:yj an7 ads W4.heap.size wr av args abs
 cur:jq ny wr W4.heap.size gv cur
 but:But [sb] W4 wr
section
variable {W4:cu} {sb:Nat} {at_:Int} {ov:Value} {args:List (List l9)} {cur:List dh} {av gv:Value} {abs:List Nat} {wr w':cu}
theorem Mc.below (h:Mc W4 sb at_ ov args cur av gv abs wr) (hb:Below wr.heap.size wr w'):Mc W4 sb at_ ov args cur av gv abs w' :=
 ⟨h.box.below hb h.box.lt,h.row.fr Yh (fun b yx=>hb.block b (h.row.nd.2 b yx).2) hb.size,h.cur.below hb,h.but.trans (But.of_below hb)⟩
theorem Mc.ne (h:Mc W4 sb at_ ov args cur av gv abs wr):∀b,b∈abs->gv.ownBlock≠some b:=fun b hb e=>by
 obtain⟨c1,T,hT,h1⟩:=(h.row.rowT.typ aly) b hb;obtain⟨c2,h2⟩:=h.cur.cellT e;rw[h1] at h2;simp only[uw,Obj.cells.injEq] at h2;rw[h2.2.1] at hT;exact absurd hT (by decide)
theorem Mc.arg {wA w5:cu} {gv':Value} {p:dh} (h:Mc W4 sb at_ ov args cur av gv abs wr) (hA:Below wr.heap.size wr wA) (hg:wA.grownBy w5 gv.ownBlock) (yh:jq ny w5 W4.heap.size gv' (cur++[p])):Mc W4 sb at_ ov args (cur++[p]) av gv' abs w5:=by
 have hA':=h.below hA;refine⟨(RwB.Xl hA'.cur hg).blk hA'.box (by decide),hA'.row.fr Yh (fun b hb=>hg.block b (hA'.row.nd.2 b hb).2 (fun e=>hA'.ne b hb e.symm)) hg.size,yh,⟨hg.os.trans hA'.but.os,hg.tape.trans hA'.but.tape,hg.output.trans hA'.but.output,ku hA'.but.size hg.size,fun b hb hs=>(hg.block b (qg hb hA'.but.size) (fun e=>?_)).trans (hA'.but.block b hb hs)⟩⟩;have:=hA'.cur.block b e.symm;omega
theorem Mc.fresh (h:Mc W4 sb at_ ov args cur av gv abs wr):Mc W4 sb at_ ov args [] av (.slice (some ⟨wr.heap.size,0,none⟩) 0 0) abs (wr.alloc (.cells #[] 9)):=by
 have h9:=h.below (w':=wr.alloc (.cells #[] 9)) ((iq _ _).alloc (gu _) _);exact⟨h9.box,h9.row,jq.start (E:=ny) wr W4.heap.size h.but.size,h9.but⟩
theorem Mc.push {w9:cu} {ca:Option Addr} {cn cc:Nat} {code:List l9} (h:Mc W4 sb at_ ov args cur av gv abs wr) (hsb:sb<W4.heap.size) (Qe:Below wr.heap.size wr w9) (Jc:jq Gp w9 wr.heap.size (.slice ca cn cc) code) (hok:∀x,x∈code->okI x) (hcl:code.length<=2000000) (hal:args.length<=2000000) :
  ∃va n2 vc w5 Zz,(Builtin.append_ #[58,58] 58 #[av,.slice (some ⟨w9.heap.size,0,none⟩) 1 1]).run Tryz.prog (w9.alloc (.cells #[.slice ca cn cc] 56))=.ok (.slice va n2 vc) w5/\(w5.cell? ⟨sb,5,none⟩=some av/\w5.frozen? ⟨sb,5,none⟩=false/\sb<w5.heap.size)/\Mc W4 sb at_ ov (args++[code]) cur (.slice va n2 vc) gv Zz (w5.setCell ⟨sb,5,none⟩ (.slice va n2 vc)):=by
 have hA:Below w9.heap.size w9 (w9.alloc (.cells #[.slice ca cn cc] 56)):=(iq _ _).alloc (gu _) _;have hcA:=(h.below Qe).below hA;obtain⟨css,subs,h1,h2,h3,hbs,h4,h5⟩:=h.row;subst hbs;have Zo:=(h1.below Qe).below hA;have hlen:=h3.len
 obtain⟨v',w5,hrun,yh,hg5,F9⟩:=Dn an7 (w9.alloc (.cells #[.slice ca cn cc] 56)) 58 W4.heap.size av css Zo w9.heap.size ⟨[.slice ca cn cc],by simp,by intro u hu;simp only[qj,xq,xu] at hu;rw[hu];rfl⟩ (fun j u hu=>by
  have hu':([.slice ca cn cc]:List Value)[j]?=some u:=hu;exact(oh w9 #[.slice ca cn cc] 56).cell (i:=j) (v:=u) (by simpa using hu')) (by show (css.length+1)*24<=_;omega) hcA.but.size
 have hlt:=fun b hb'=>(Az Jc b (Bq.1 hb'))
 have hmk:=ajj Yh h1 h3 h4 h5 Qe hA (c:=⟨[.slice ca cn cc],by simp,by intro u hu;simp only[qj,xq,xu] at hu;rw[hu];rfl⟩) (y:=code) (s:=zq (.slice ca cn cc)) ⟨_,rfl,Jc.low (jg _),hok,by show code.length*32<=_;omega,rfl⟩ (by unfold zq;cases (Value.slice ca cn cc).ownBlock<;>simp) (fun b hb=>hlt b hb) h.but.size yh hg5 F9 (by rw[jh];show (css.length+1)*24<=_;omega);have hbx:=(RwB.Xl Zo hg5).blk hcA.box (by decide);obtain⟨va,vc,rfl⟩:=yh.slice;have hset:∀b,b≠sb->(w5.setCell ⟨sb,5,none⟩ (.slice va (css++[(⟨[.slice ca cn cc],by simp,by intro u hu;simp only[qj,xq,xu] at hu;rw[hu];rfl⟩:Raw 1)]).length vc)).heap[b]?=w5.heap[b]?:=fun b hb=>zf _ _ _ _ (fun e=>hb e)
 have hz:(w5.setCell ⟨sb,5,none⟩ (.slice va (css++[(⟨[.slice ca cn cc],by simp,by intro u hu;simp only[qj,xq,xu] at hu;rw[hu];rfl⟩:Raw 1)]).length vc)).heap.size=w5.heap.size:=by simp[World.setCell]
 have hne:∀b,gv.ownBlock=some b->av.ownBlock≠some b:=fun b hb e=>by
  obtain⟨c1,g1⟩:=hcA.cur.cellT hb;obtain⟨c2,g2⟩:=Zo.cellT e;rw[g1] at g2;simp only[uw,Obj.cells.injEq] at g2;exact absurd g2.2.1 (by decide)
 refine⟨va,_,vc,w5,_,hrun,⟨hbx.cell (i:=5) (v:=av) rfl,hbx.free 5,hbx.lt⟩,⟨hbx.set 5 _,hmk.fr Yh (fun b hb=>hset b (by have:=(hmk.nd.2 b hb).1;omega)) (by omega),hcA.cur.Ia (fun b hb=>(hset b (by have:=hcA.cur.block b hb;omega)).trans (hg5.block b (Az hcA.cur b hb).2 (fun e=>hne b hb e.symm))),⟨hg5.os.trans hcA.but.os,hg5.tape.trans hcA.but.tape,hg5.output.trans hcA.but.output,by rw[hz];exact ku hcA.but.size hg5.size,fun b hb hs=>(hset b (by simpa using hs)).trans ((hg5.block b (qg hb hcA.but.size) (fun e=>?_)).trans (hcA.but.block b hb hs))⟩⟩⟩;have:=(Az Zo b e.symm).1;omega
theorem Mc.a7z {au:List dh} {B:Nat} {cs0:Array Value} (h:Mc W4 sb at_ ov args cur av gv abs wr) (hb0:jd W4 sb 60 cs0) (ho:jq ny W4 B ov au) (hos:∀x,x∈au->okS x) (hol:au.length<=2000000) (hat:I64 at_):Y4 wr [.int .i64 3,.string ⟨#[]⟩,.int .i64 at_,ov,.slice none 0 0,av] ⟨3,⟨#[]⟩,at_,au,[],args⟩ (zq ov++abs)/\(zq ov++abs).Nodup/\∀b,b∈zq ov++abs->B<=b\/W4.heap.size<=b:=by
 have hne:=ho.Tj hb0 (by decide);have hlt:=fun b hb=>Az ho b (Bq.1 hb)
 have hor:jq ny wr B ov au:=ho.Ia (fun b hb=>h.but.block b (Az ho b hb).2 (by
  simp only[yt];exact fun e=>hne (by rw[hb,e])))
 refine⟨⟨_,_,_,zq ov,[],abs,rfl,by show Len 0;unfold Len;omega,by show I64 3;unfold I64;omega,hat,⟨hor.low (jg _),hos,by show au.length*16<=_;omega,rfl⟩,⟨jq.nil _ _,(fun x hx=>by cases hx),by simp,rfl⟩,h.row.rowT,by simp⟩,?_,fun b hb=>?_⟩
 ·rw[List.nodup_append]
  refine⟨by unfold zq;cases ov.ownBlock<;>simp,h.row.nd.1,fun x hx y hy e=>?_⟩;have h1:=(hlt x hx).2;have h2:=(h.row.nd.2 y hy).1;omega
 ·rcases Dx.1 hb with h9|h9
  ·exact Or.inl (hlt b h9).1
  ·exact Or.inr (h.row.nd.2 b h9).1
end
theorem azr {w:cu} {B fg fc:Nat} {f:List dh} (ho:jq ny w B (.slice (some ⟨fg,0,none⟩) f.length fc) f) (q:Nat) (h2:2<q) (hq:q<=f.length) (hs:f.length<=1048577) (cx:Nat):∃va vc w5,(Builtin.append_ #[40,40] 40 #[.slice none 0 0,.slice (some ⟨fg,2,none⟩) (q-2) cx]).run Tryz.prog w=.ok (.slice va (q-2) vc) w5/\jq ny w5 w.heap.size (.slice va (q-2) vc) (wz f 2 q)/\Below w.heap.size w w5:=by
 obtain⟨i,hi,hz0,hz1,hz2⟩:=info_parts ny.hi;obtain⟨g',cap',e1,_,_,_,hc⟩:=ag1 ho (by omega);simp only[qw,uw,Addr.mk.injEq] at e1;obtain⟨⟨rfl,_⟩,_,_⟩:=e1;have hl:=Rj f 2 q (by omega) hq;have hn:jq ny w w.heap.size (.slice none 0 0) []:=jq.nil _ _
 obtain⟨v',w',hr,g2,g3,g4⟩:=Zu (P:=Tryz.prog) (w:=w) w.heap.size ny.ST 40 ny.T i _ ny.sz ny.uf ny.hT hi hz0 hz1 hz2 ny.hz ny.hsz (.slice none 0 0) 0 [] hn ⟨fg,2,none⟩ (q-2) cx ((wz f 2 q).flatMap ny.f) (by rw[Rl ny.f ny.sz ny.hf,hl]) (fun j u hu=>by
  have hj:j<(wz f 2 q).length:=by
   have h9:=(List.getElem?_eq_some_iff.1 hu).1;rw[Rl ny.f ny.sz ny.hf] at h9;simpa[ny] using h9
  have e:((wz f 2 q).flatMap ny.f)[j]?=some (.string (wz f 2 q)[j]):=by
   have e9:(wz f 2 q).flatMap ny.f=(wz f 2 q).map Value.string:=by
    generalize wz f 2 q=l
    induction l with
    | nil=>rfl
    | cons x l ih=>rw[List.flatMap_cons,ih];rfl
   rw[e9,List.getElem?_map,jy hj];rfl
  rw[e] at hu
  cases hu;have hg:(wz f 2 q)[j]=f[2+j]'(by omega):=by simp[wz]
  rw[Addr.add_lit,hg]
  exact hc (2+j) (by omega)) (fun u hu=>by
  obtain⟨x,hx,h9⟩:=List.mem_flatMap.1 hu;exact ny.h1 x u h9) (by simp[maxLen];omega) (by show (0+(q-2))*16<=_;omega) (gu _)
 have yh:jq ny w' w.heap.size v' (wz f 2 q):=by
  unfold jq;rw[hl];simpa using g2
 obtain⟨va,vc,rfl⟩:=yh.slice;rw[hl] at hr yh;exact⟨va,vc,w',hr,yh,⟨g3.os,g3.tape,g3.output,g3.size,fun b hb=>g3.block b hb (fun e=>by cases e)⟩⟩
theorem ajk {α:Type} [DecidableEq α] (c:α) (l:List α) (x:α) (d:List (List α)) (e:List α) (h:cutAt c l=d++[e]):cutAt c (l++[x])=if x=c then d++[e]++[[]] else d++[e++[x]]:=by
 induction l generalizing d e with
 | nil =>
  simp only[cutAt] at h
  have hd:d=[]/\e=[]:=by
   cases d with
   | nil=>simpa using h
   | cons a d=>simp at h
  rw[hd.1,hd.2];simp only[Gm,cutAt]
  split<;>rfl
 | cons y l ih =>
  rw[cutAt] at h;rw[Ew,cutAt]
  obtain⟨d',e',h9⟩:∃d' e',cutAt c l=d'++[e']:=by
   rcases List.eq_nil_or_concat (cutAt c l) with h8|⟨d',e',h8⟩
   ·exact absurd h8 (abt c l)
   ·exact⟨d',e',by rw[h8,List.concat_eq_append]⟩
  have h7:=ih d' e' h9
  by_cases hy:y=c
  ·rw[gy hy,h9] at h
   rw[gy hy,h7]
   have hd:d=[]::d'/\e=e':=by
    have h6:([]::d')++[e']=d++[e]:=h;have h5:=List.append_inj' h6 rfl;exact⟨h5.1.symm,by simpa using h5.2.symm⟩
   rw[hd.1,hd.2]
   split<;>rfl
  ·rw[bf hy,h9] at h
   rw[bf hy,h7]
   cases d' with
   | nil =>
    have hd:d=[]/\e=y::e':=by
     have h6:[]++[y::e']=d++[e]:=h;have h5:=List.append_inj' h6 rfl;exact⟨h5.1.symm,by simpa using h5.2.symm⟩
    rw[hd.1,hd.2]
    split<;>rfl
   | cons a d' =>
    have hd:d=(y::a)::d'/\e=e':=by
     have h6:((y::a)::d')++[e']=d++[e]:=h;have h5:=List.append_inj' h6 rfl;exact⟨h5.1.symm,by simpa using h5.2.symm⟩
    rw[hd.1,hd.2]
    split<;>rfl
theorem cut_small {α:Type} [DecidableEq α] (c:α):∀(l:List α) (d:List (List α)) (e:List α),cutAt c l=d++[e]->(e.length<=l.length/\d.length<=l.length)/\∀x,x∈e->x∈l:=by
 intro l d e h;have h1:=afz c l;rw[h] at h1;simp only[jh,ug,Ar,Ig,Ai,Fv,List.sum_append,List.sum_cons,List.sum_nil] at h1;refine⟨by omega,fun x hx=>?_⟩
 have key:∀(l:List α) (p:List α),p∈cutAt c l->∀x,x∈p->x∈l:=by
  intro l
  induction l with
  | nil=>intro p hp x hx;simp[cutAt] at hp;rw[hp] at hx;cases hx
  | cons y l ih =>
   intro p hp x hx;rw[cutAt] at hp;have e9:=Uc c l
   split at hp
   ·rcases qj.1 hp with h9|h9
    ·rw[h9] at hx;cases hx
    ·exact Gu _ (ih p h9 x hx)
   ·rcases qj.1 hp with h9|h9
    ·rw[h9] at hx
     rcases qj.1 hx with h8|h8
     ·rw[h8];exact Hr ..
     ·exact Gu _ (ih _ (by rw[e9];exact Hr ..) x h8)
    ·exact Gu _ (ih p (by rw[e9];exact Gu _ h9) x hx)
 exact key l e (by rw[h];simp) x hx
theorem alz {W4 wr W:cu} {sb gn gc an ac:Nat} {at_:Int} {ov:Value} {args:List (List l9)} {cur:List dh} {ga aa:Option Addr} {abs:List Nat} (h:Mc W4 sb at_ ov args cur (.slice aa an ac) (.slice ga gn gc) abs wr) (hsb:sb<W4.heap.size) (hW:Below wr.heap.size wr W) (hs:∀p,p∈cur->p.size<=1048576) (hl:cur.length<=1048577) (hal:args.length<=1048577) :
  Calls Tryz.prog 22 #[.slice ga gn gc] W (fun e w9=>∃ca cn cc va n2 vc w5 X Zz,e=.returned (.slice ca cn cc)/\w9.cell? ⟨sb,5,none⟩=some (.slice aa an ac)/\(w9.alloc (.cells #[.slice ca cn cc] 56)).cell? ⟨sb,5,none⟩=some (.slice aa an ac)/\sb<w9.heap.size/\Hid ((Builtin.append_ #[58,58] 58 #[.slice aa an ac,.slice (some ⟨w9.heap.size,0,none⟩) 1 1]).run Tryz.prog (w9.alloc (.cells #[.slice ca cn cc] 56))=.ok (.slice va n2 vc) w5)/\w5.cell? ⟨sb,5,none⟩=some (.slice aa an ac)/\w5.frozen? ⟨sb,5,none⟩=false/\sb<w5.heap.size/\Hid (X=w5.setCell ⟨sb,5,none⟩ (.slice va n2 vc))/\Hid (Mc W4 sb at_ ov (args++[Dk cur]) cur (.slice va n2 vc) (.slice ga gn gc) Zz X)):=by
 have hc:=(h.below hW).cur;refine(aji cur _ W (J3 hc ⟨hl,hs⟩) hs (by omega)).mono ?_;rintro e w9 ⟨v9,rfl,Jc,yx⟩;obtain⟨ca,cc,rfl⟩:=Jc.slice;have hb:Below wr.heap.size wr w9:=hW.trans (yx.mono hW.size);have azq:jq Gp w9 wr.heap.size (.slice ca (Dk cur).length cc) (Dk cur):=Jc.low hW.size
 obtain⟨va,n2,vc,w5,Zz,h1,h2,h3⟩:=h.push hsb hb azq (fun x hx=>by
  obtain⟨p,hp,rfl⟩:=List.mem_map.1 hx;exact aib p (hs p hp)) (by unfold Dk;rw[zy];omega) (by omega)
 have hx:=(h.below hb).box;have hA:Below w9.heap.size w9 (w9.alloc (.cells #[.slice ca (Dk cur).length cc] 56)):=(iq _ _).alloc (gu _) _;exact⟨ca,_,cc,va,n2,vc,w5,_,Zz,rfl,hx.cell (i:=5) (v:=.slice aa an ac) rfl,(hx.below hA hx.lt).cell (i:=5) (v:=.slice aa an ac) rfl,hx.lt,ak h1,h2.1,h2.2.1,h2.2.2,ak rfl,ak h3⟩
theorem Mc.init {W4:cu} {sb:Nat} {at_:Int} {ov:Value} (hb:jd W4 sb 60 #[.int .i64 3,.string ⟨#[]⟩,.int .i64 at_,ov,.slice none 0 0,.slice none 0 0]):Mc W4 sb at_ ov [] [] (.slice none 0 0) (.slice (some ⟨W4.heap.size,0,none⟩) 0 0) [] (W4.alloc (.cells #[] 9)) :=
 ⟨hb.below ((iq _ _).alloc (gu _) _) hb.lt,yj.nil _ _ _ _,jq.start (E:=ny) W4 W4.heap.size (gu _),But.of_below ((iq _ _).alloc (gu _) _)⟩
end Go.Proofs.YtfeejeflmcapoaaGreatDoor
