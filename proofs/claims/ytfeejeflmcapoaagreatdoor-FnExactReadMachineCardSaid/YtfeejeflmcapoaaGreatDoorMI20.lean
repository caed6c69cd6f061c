import Derived.Test.YtfeejeflmcapoaaGreatDoorMI17
import Derived.Deep.RegionLaw
import Derived.Test.YtfeejeflmcapoaaGreatDoorPI2
set_option linter.unusedSimpArgs false
set_option linter.unusedVariables false
set_option maxHeartbeats 4000000
namespace Go.Proofs.YtfeejeflmcapoaaGreatDoor
open Go.RowKit
theorem ug {P:Program} {w w':bf} {ops:Array Oper} {o:Oper} {a:Act} {K:Act->bf->Prop} {Q:Exit->Act->bf->Prop} {Er:Prop} (hgd:o.guard=none) (s x:Operand) (t ty:TypeId)
  (ho:o.op=.call { callee:=.builtin .append,args:=#[s,x],argTypes:=#[t,t] }) (hty:o.type=ty) (v xv v':Value) (hs:a.eval s=v) (hx:a.eval x=xv) (hrun:(Builtin.append_ #[t,t] ty #[v,xv]).run P w=.ok v' w') (h:K (a.put o.dst v') w') :
  if Region.wanted o (yielded ops a.tmps)=true then Oper.wp P o a w K Q else Er:=by
 have hwant:Region.wanted o (yielded ops a.tmps)=true:=by simp[Region.wanted,hgd]
 rw[gu hwant];subst hty;unfold Oper.wp execOp;simp only[ho,resolve,invoke,builtin,Sem.run_bind,Sem.run_pure,Result.andThen_ok,List.map_toArray,Ap,Gf,hs,hx,hrun];exact h
theorem a4q (xs:List Int) (v:Value) (w:bf) (hv:iy 1 8 J4 0 w v xs):Calls Tryz.prog 148 #[v,.func (.func 149) #[] #[]] w (Ans (.bool (xs.all Qx)) w):=by
 have HQ:(List.range xs.length).all (fun j=>match xs[j]? with|some c=>Qx c|none=>false)=xs.all Qx:=afz _ _ _ (fun j hj=>by rw[jy hj])
 refine(avc (fun _ wr=>Below w.heap.size w wr) (fun wr=>Below w.heap.size w wr) (fun j=>match xs[j]? with|some c=>Qx c|none=>false) xs _ w ?_ ?_ ?_ (gy _ _)).mono ?_
 ·intro _ wr h
  exact hv.stays Fp h
 ·intro _ w1 w2 h1 h2
  exact h1.trans (h2.mono h1.size)
 ·intro j hj cs wr h hR
  obtain⟨rfl,_⟩:=hR;refine(asb xs[j] wr).mono ?_;rintro e w' ⟨rfl,rfl⟩;rw[jy hj];exact⟨rfl,(fun _=>h),fun _=>h⟩
 ·rintro e w' ⟨rfl,h1,h2⟩
  rw[HQ] at h1 h2 ⊢;refine⟨rfl,?_⟩
  cases hh:xs.all Qx
  ·exact h2 hh
  ·exact h1 hh
set_option maxRecDepth 20000 in
theorem a8g (k:dw) (pb mb cb co:Nat) (a1 a2 a3 a4 a5 a6 ev:Value) (pl:List Nat) (fs:List (List Int)) (rs:List Int) (f:dh->Option Value) (W0 w:bf) (hC:CA W0 cb co k a1 a2 a3 a4 a5 a6) (hEA:EA W0 ev pl fs rs) (hpn:pl.length<=1000) (hW:Below W0.heap.size W0 w) (hpb:W0.heap.size<=pb) (hM:I5 w mb (varsOf k).length f) (hvl:(varsOf k).length<=1000)
  (hpl:jc w pb 127 (Jv cb co mb (.slice none 0 0) (.slice none 0 0) (.slice none 0 0) 0 0)) :
  Calls Tryz.prog 127 #[.pointer (some ⟨pb,0,none⟩),ev] w (an5 k pb mb cb co pl fs rs w (ownB fs k)):=by
 obtain⟨eb,ec,hev⟩:=hEA.sl.shape;subst hev;obtain⟨m4,n4,h4⟩:=hC.eu.shape;obtain⟨m5,n5,h5⟩:=hC.au.shape;have l4:=hC.eu.Oe;have l5:=hC.au.Oe;have HEA:=hide hEA;have HM:=hide hM;have Bj:=hide hpl
 have Kr:Hid (∀w',But [pb] w w'->Below W0.heap.size W0 w'∧w'.cell? ⟨cb,co+4,none⟩=some (.slice m4 k.eu.length n4)∧w'.cell? ⟨cb,co+5,none⟩=some (.slice m5 k.au.length n5)):=fun w' hb=>by
  have hold:Below W0.heap.size W0 w':=hW.trans (hb.below _ hW.size (fun q hq=>by rw[yj] at hq;omega));exact⟨hold,(hold.cell (p:=⟨cb,_,none⟩) hC.lt).trans (by rw[hC.c4,h4]),(hold.cell (p:=⟨cb,_,none⟩) hC.lt).trans (by rw[hC.c5,h5])⟩
 have HIX:Hid (∀i (hi:i<k.au.length),∃b o,m5=some ⟨b,o,none⟩∧I64 k.au[i]∧∀w',Below W0.heap.size W0 w'->w'.cell? ⟨b,o+i,none⟩=some (.int .i64 k.au[i])):=fun i hi=>by
  have hs:=hC.au;rw[h5] at hs;obtain⟨_,_,Jb,_,_,F5⟩:=hs;simp only[qw] at Jb;obtain⟨rfl,_,rfl⟩:=Jb;obtain⟨b,o,cs,rfl,_,hb,_,hc,⟨rfl,hr⟩⟩:=F5 i hi;refine⟨b,o,rfl,hr,fun w' h'=>?_⟩;rw[h'.cell (p:=⟨b,_,none⟩) hb];have h0:=hc 0 (by simp);rw[jr,jh] at h0;exact h0
 have HMV:Hid (∀w',Below W0.heap.size W0 w'->iy 1 8 J4 0 w' (.slice m4 k.eu.length n4) k.eu):=fun w' hb=>by
  rw[←h4];exact hC.eu.stays Fp hb
 have p0:=hpl.cell (i:=0) (v:=.pointer (some ⟨cb,co,none⟩)) rfl;have lp:=hpl.lt;obtain⟨hWw,c4,c5⟩:=uh Kr w (But.refl _ _);have HB:Hid (ownB fs k=(decide (k.eu.length<=1000∧k.au.length<=1000)&&(k.eu.all Qx&&(List.range k.au.length).all (Pm fs k.eu k.au)))):=rfl;have Vz:=hide (a4q k.eu _ w (uh HMV w hWw));have HNR:Hid (k.eu.all Qx=true->k.eu.length<=1000->∀w',Below W0.heap.size W0 w'->Calls Tryz.prog 150 #[.slice m4 k.eu.length n4] w' fun e w''=>∃g,e=.returned (.slice (some ⟨g,0,none⟩) k.eu.length k.eu.length)∧jm Xd w'' w'.heap.size (.slice (some ⟨g,0,none⟩) k.eu.length k.eu.length) k.eu∧Below w'.heap.size w' w''):=fun h1 h2 w' hb=>av4 k.eu _ w' (uh HMV w' hb) (xw.1 h1) (by omega)
 have HFZ:=hide (Y5 fs k.eu k.au)
 have Jc:Hid (∀x,x∈rs->0<=x∧x<=1000000):=fun x hx=>by
  obtain⟨j,hj,rfl⟩:=List.getElem_of_mem hx;exact(hEA.c6 j (by rw[←hEA.rl];exact hj) hj).2
 have HMP:Hid (mb≠pb):=fun e=>by
  subst e;have h9:=hM.an6 0;rw[hpl.cell (i:=0) (v:=.pointer (some ⟨cb,co,none⟩)) rfl] at h9
  cases h9
 clear hEA hM hpl hW hWw hC h4 h5 HMV;generalize ownB fs k=R at *;generalize hmv:k.eu.all Qx=mv at *
 by_cases h1:k.eu.length<=1000
 case neg =>
  have e1:decide (1000<(k.eu.length:Int))=true:=jf (by omega);have HF:Hid (R=false):=(uh HB).trans (by rw[iw (by omega)];rfl);clear HB h1;go_enter Tryz.func127,Tryz.ntmps127;go_wp2;go_ret;rw[uh HF];exact⟨rfl,But.refl _ _,fun h=>by cases h⟩
 have e1:decide (1000<(k.eu.length:Int))=false:=iw (by omega)
 by_cases h2:k.au.length<=1000
 case neg =>
  have e2:decide (1000<(k.au.length:Int))=true:=jf (by omega);have HF:Hid (R=false):=(uh HB).trans (by rw[iw (by omega)];rfl);clear HB h1 h2;go_enter Tryz.func127,Tryz.ntmps127;go_wp2;go_ret;rw[uh HF];exact⟨rfl,But.refl _ _,fun h=>by cases h⟩
 have e2:decide (1000<(k.au.length:Int))=false:=iw (by omega)
 cases mv
 ·have HF:Hid (R=false):=(uh HB).trans (by rw[Bc,Bool.and_false])
  clear HB;go_enter Tryz.func127,Tryz.ntmps127;go_wp2_with fail;refine(uh Vz).mono ?_;rintro e w1 ⟨rfl,hb1⟩;have HB1:=hide hb1;clear hb1;go_wp2;go_ret;rw[uh HF];exact⟨rfl,But.of_below (uh HB1),fun h=>by cases h⟩
 have HR2:Hid (R=(List.range k.au.length).all (Pm fs k.eu k.au)):=(uh HB).trans (by rw[jf ⟨h1,h2⟩,Ar,Ar]);have a8h:=hide (uh HNR rfl h1);clear HB HNR;go_enter Tryz.func127,Tryz.ntmps127;go_wp2_with fail;refine(uh Vz).mono ?_;rintro e w1 ⟨rfl,hb1⟩;have HB1:=hide hb1;obtain⟨hW1,c4',c5'⟩:=uh Kr w1 (But.of_below hb1);have HNC:=hide (uh a8h w1 hW1);clear hb1 hW1 c4 c5 a8h Vz;go_wp2_with fail;refine(uh HNC).mono ?_;rintro e w2 ⟨g,rfl,ho,hb2⟩;have hb2':Below w.heap.size w w2:=(uh HB1).trans (hb2.mono (uh HB1).size);have hk2:=(uh Bj).below hb2' lp;have x3:=hk2.cell (i:=3) (v:=.slice none 0 0) rfl;have z3:=hk2.free 3;have hk3:=hk2.set 3 (.slice (some ⟨g,0,none⟩) k.eu.length k.eu.length);have hgo:w1.heap.size<=g:=(ho.lt g rfl).1;have ho3:=ho.Ii (w':=w2.setCell ⟨pb,3,none⟩ (.slice (some ⟨g,0,none⟩) k.eu.length k.eu.length)) (fun b hb=>yx _ _ _ _ (by simp only[Value.ownBlock,uo] at hb;subst hb;show g≠pb;have:=(uh HB1).size;omega))
 have a8i:jm Xd (w2.setCell ⟨pb,3,none⟩ (.slice (some ⟨g,0,none⟩) k.eu.length k.eu.length)) w.heap.size (.slice (some ⟨g,0,none⟩) k.eu.length k.eu.length) k.eu:=by
  obtain⟨q1,q2⟩:=ho3;refine⟨q1,?_⟩;rcases q2 with q2|⟨gg,cap,cur,e1,e2,e3⟩
  ·exact Or.inl q2
  ·exact Or.inr ⟨gg,cap,cur,e1,jq (uh HB1).size e2,e3⟩
 have aib:But [pb] w (w2.setCell ⟨pb,3,none⟩ (.slice (some ⟨g,0,none⟩) k.eu.length k.eu.length)):=(But.of_below hb2').abg (p:=⟨pb,3,none⟩) (yj.2 rfl) _;obtain⟨_,c4,c5⟩:=uh Kr _ aib;have HK3:Hid (jc (w2.setCell ⟨pb,3,none⟩ (.slice (some ⟨g,0,none⟩) k.eu.length k.eu.length)) pb 127 (Jv cb co mb (.slice none 0 0) (.slice (some ⟨g,0,none⟩) k.eu.length k.eu.length) (.slice none 0 0) 0 0)):=hk3;have HO3:=hide a8i;have akn:=hide aib;clear hb2 hb2' hk2 hk3 ho ho3 a8i aib c4' c5';go_wp2;generalize w2.setCell ⟨pb,3,none⟩ (.slice (some ⟨g,0,none⟩) k.eu.length k.eu.length)=w3 at *;clear x3 z3 c4 c5 p0
 go_loopg [6,49] k.au.length (fun gm sv iv wr=>∃(i:Nat) (ivv:Value) (g c:Nat),i<=k.au.length∧gm=k.au.length-i∧iv=.int .i64 i∧sv=.int .i64 (Ej rs k.au i)∧(∀j,j<i->Pm fs k.eu k.au j=true)∧jc wr pb 127 (Jv cb co mb ivv (.slice (some ⟨g,0,none⟩) (firstTo fs k.eu k.au i).length c) (.slice none 0 0) 0 0)∧jm Xo wr w.heap.size ivv (Qs pl fs k.eu k.au i)∧jm Xd wr w.heap.size (.slice (some ⟨g,0,none⟩) (firstTo fs k.eu k.au i).length c) (firstTo fs k.eu k.au i)∧But [pb] w wr)
 case atStart =>
  refine⟨0,.slice none 0 0,g,k.eu.length,jg _,by omega,rfl,rfl,fun j hj=>absurd hj (yt _),?_,jm.nil _ _,?_,uh akn⟩
  ·rw[uh HFZ];exact uh HK3
  ·rw[uh HFZ];exact uh HO3
 case round =>
  clear HK3 HO3 akn hgo;obtain⟨i,ivv,g,c,hi,hg,rfl,rfl,hone,hblk,hoi,hof,hbt⟩:=hrel;rename bf=>wr;obtain⟨ia,ic,a8j⟩:=hoi.slice;rw[Yj] at a8j;subst a8j;have HG:=hide hg;have an7:=hide hone;have HK:=hide hblk;have HOI:=hide hoi;have HOF:=hide hof;have L8:=hide hbt;obtain⟨hold,_,_⟩:=uh Kr wr hbt;have HOLD:=hide hold
  have hfl:(firstTo fs k.eu k.au i).length<=20000+1000:=by
   cases i with
   | zero=>rw[Y5];omega
   | succ i =>
    have h9:=hone i (by omega);unfold Pm at h9;rw[jy (by omega)] at h9;simp only[uq] at h9;have:=xq h9.2;omega
  have hrm:=aq4 rs k.au (uh Jc) i;clear hg hone hblk hoi hof hbt hold
  by_cases hlt:i<k.au.length
  case neg =>
   have e:i=k.au.length:=by omega
   subst e;have HF:Hid (R=true):=(uh HR2).trans (by rw[xw];exact fun j hj=>uh an7 j (uw.1 hj));have y1:=(uh HK).cell (i:=1) (v:=.map (some mb)) rfl;have y6:=(uh HK).cell (i:=6) (v:=.int .i64 0) rfl;have z6:=(uh HK).free 6;have hml:∀ty,(Builtin.len_ #[33] ty #[.map (some mb)]).run Tryz.prog wr=.ok (.int .i64 ((varsOf k).length:Int)) wr:=fun ty=>((uh L8).map (uh HM) (by simpa using uh HMP)).len Tryz.underlying33 ty
   have HKE:Hid (jc (wr.setCell ⟨pb,6,none⟩ (.int .i64 (((varsOf k).length:Int)+Ej rs k.au k.au.length))) pb 127 (Jv cb co mb (.slice ia k.au.length ic) (.slice (some ⟨g,0,none⟩) (firstTo fs k.eu k.au k.au.length).length c) (.slice none 0 0) 0 (((varsOf k).length:Int)+Ej rs k.au k.au.length))):=(uh HK).set 6 (.int .i64 (((varsOf k).length:Int)+Ej rs k.au k.au.length))
   have Dn:Hid (∀w',w'=wr.setCell ⟨pb,6,none⟩ (.int .i64 (((varsOf k).length:Int)+Ej rs k.au k.au.length))->an5 k pb mb cb co pl fs rs w true (.returned (.bool true)) w'):=fun w' hw'=>by
    subst hw';have hpi:=jm.Ua (uh HOI) (uh HK) (by decide);have hpf:=jm.Ua (uh HOF) (uh HK) (by decide);refine⟨rfl,(uh L8).abg (p:=⟨pb,6,none⟩) (yj.2 rfl) _,fun _=>⟨_,g,c,uh HKE,(uh HOI).Ii (fun b hb=>yx _ _ _ _ (fun e=>?_)),(uh HOF).Ii (fun b hb=>yx _ _ _ _ (fun e=>?_))⟩⟩
    ·have e':b=pb:=e
     subst e';exact hpi hb
    ·have e':b=pb:=e
     subst e';exact hpf hb
   generalize Ej rs k.au k.au.length=rm at *;go_wp2;go_ret;rw[uh HF];exact uh Dn _ rfl
  obtain⟨xb,xo,rfl,bfn,hxc⟩:=uh HIX i hlt;have x0:=hxc wr (uh HOLD)
  have Va:Hid (Pm fs k.eu k.au i=(decide (0<=k.au[i]∧k.au[i]<(fs.length:Int))&&decide ((firstTo fs k.eu k.au (i+1)).length<=20000))):=by
   refine hide ?_;unfold Pm;rw[jy hlt]
  have Cc:Hid (Pm fs k.eu k.au i=false->R=false):=fun h=>(uh HR2).trans (by rw[List.all_eq_false];exact⟨i,uw.2 hlt,by rw[h];decide⟩)
  have HYE:Hid (Pm fs k.eu k.au i=true->∀j,j<i+1->Pm fs k.eu k.au j=true):=fun h j hj=>by
   by_cases e:j=i
   ·subst e;exact h
   ·exact uh an7 j (by omega)
  have Af:=hide (abt fs k.eu k.au i hlt)
  have HIS:Hid (Qs pl fs k.eu k.au (i+1)=Qs pl fs k.eu k.au i++[(pl.getD k.au[i].toNat 0,(firstTo fs k.eu k.au i).length)]):=by
   refine hide ?_;rw[atg,yw (l:=k.au),jy hlt,Kz]
  have HRS:Hid (Ej rs k.au (i+1)=maxS (Ej rs k.au i) (rs.getD k.au[i].toNat 0)):=by
   refine hide ?_;show maxS _ _=_;rw[yw (l:=k.au),jy hlt,Kz]
  have Y0:(i:Int)<(k.au.length:Int):=by omega
  clear hxc;generalize k.au[i]=kk at *;have bfo:=(uh HEA).fl
  by_cases hk0:kk<0
  ·have f1:decide (kk<0)=true:=jf hk0
   have HF:Hid (R=false):=uh Cc ((uh Va).trans (by rw[iw (by omega)];rfl));clear Cc HYE Va hk0;go_wp2;go_ret;rw[uh HF];exact⟨rfl,uh L8,fun h=>by cases h⟩
  have f1:decide (kk<0)=false:=iw hk0
  by_cases hk1:(pl.length:Int)<=kk
  ·have f2:decide ((pl.length:Int)<=kk)=true:=jf hk1
   have HF:Hid (R=false):=uh Cc ((uh Va).trans (by rw[iw (by omega)];rfl));clear Cc HYE Va hk0 hk1;go_wp2;go_ret;rw[uh HF];exact⟨rfl,uh L8,fun h=>by cases h⟩
  obtain⟨q,rfl⟩:=H8 (show 0<=kk by omega);have hq:q<pl.length:=by omega
  have f2:decide ((pl.length:Int)<=(q:Int))=false:=iw hk1;have f2n:decide (pl.length<=q)=false:=iw (by omega);obtain⟨fa,fc,t3,tS,tl⟩:=(uh HEA).c3 q hq (by omega);obtain⟨t6,tr0,tr1⟩:=(uh HEA).c6 q hq (by rw[(uh HEA).rl];exact hq);have bdk:=(uh HEA).sl;obtain⟨ea,bfp,a8k,_,_,F5⟩:=bdk;simp only[qw] at a8k;obtain⟨rfl,_,rfl⟩:=a8k;obtain⟨peb,peo,pcs,rfl,_,a8l,_,hpc,rfl⟩:=F5 q hq;have t0:=hpc 0 (by simp);simp only[jr,jh,ny] at t0;have ath:Hid (Pm fs k.eu k.au i=decide ((firstTo fs k.eu k.au (i+1)).length<=20000)):=(uh Va).trans (by rw[jf (by omega),Ar]);have hgf:fs.getD q []=fs[q]'(by omega):=by rw[yw,jy (by omega),Kz]
  have hgr:rs.getD q 0=rs[q]'(by rw[(uh HEA).rl];exact hq):=by rw[yw,jy (by rw[(uh HEA).rl];exact hq),Kz]
  have hgp:pl.getD q 0=pl[q]:=by rw[yw,jy hq,Kz]
  rw[En] at Af HIS HRS;rw[hgf] at Af;rw[hgp] at HIS;rw[hgr] at HRS;generalize hpq:pl[q]=pq at *;generalize fs[q]'(by omega)=fq at *;generalize rs[q]'(by rw[(uh HEA).rl];exact hq)=rq at *;have HT:Hid (∀w',Below W0.heap.size W0 w'->w'.cell? ⟨peb,peo+q,none⟩=some (.pointer (some ⟨pq,0,none⟩))∧w'.cell? ⟨pq,3,none⟩=some (.slice fa fq.length fc)∧w'.cell? ⟨pq,6,none⟩=some (.int .i64 rq)∧iy 1 4 ac6 0 w' (.slice fa fq.length fc) fq):=fun w' hb=>⟨(hb.cell (p:=⟨peb,_,none⟩) a8l).trans t0,(hb.cell (p:=⟨pq,3,none⟩) (Jl W0 _ t3)).trans t3,(hb.cell (p:=⟨pq,6,none⟩) (Jl W0 _ t6)).trans t6,tS.stays aly hb⟩
  obtain⟨v0,v3,v6,_⟩:=uh HT wr (uh HOLD);clear t0 t3 t6 tS F5 hpc hgf hgr hgp hk0 hk1 Va hpq a8l;have hA:Below wr.heap.size wr (wr.alloc (.cells #[.pointer (some ⟨pq,0,none⟩),.int .i64 ((firstTo fs k.eu k.au i).length:Int)] 176)).drew:=((gy _ _).alloc (gq _) _).drew
  obtain⟨v',w2,hrun,ho2,hg2,hn2⟩:=Dz Xo (wr.alloc (.cells #[.pointer (some ⟨pq,0,none⟩),.int .i64 ((firstTo fs k.eu k.au i).length:Int)] 176)).drew 123 w.heap.size _ _ ((uh HOI).below hA) wr.heap.size (pq,(firstTo fs k.eu k.au i).length) (fun j u hu=>by
   have h9:=(og wr #[.pointer (some ⟨pq,0,none⟩),.int .i64 ((firstTo fs k.eu k.au i).length:Int)] 176).cell (i:=j) (v:=u) (by simpa[Xo] using hu);exact h9) (by rw[Yj];simp[Xo];omega) (jq (uh L8).size hA.size)
  have hrun':(Builtin.append_ #[123,123] 123 #[.slice ia i ic,.slice (some ⟨wr.heap.size,0,none⟩) 1 1]).run Tryz.prog (wr.alloc (.cells #[.pointer (some ⟨pq,0,none⟩),.int .i64 ((firstTo fs k.eu k.au i).length:Int)] 176)).drew=.ok v' w2:=hrun;have hlp:pb<wr.heap.size:=(uh HK).lt;have y2:=(uh HK).cell (i:=2) (v:=.slice ia i ic) rfl;have y3:=(uh HK).cell (i:=3) (v:=.slice (some ⟨g,0,none⟩) (firstTo fs k.eu k.au i).length c) rfl;have y2a:=(hA.cell (p:=⟨pb,2,none⟩) hlp).trans y2;have y3a:=(hA.cell (p:=⟨pb,3,none⟩) hlp).trans y3;have hpi:=jm.Ua (uh HOI) (uh HK) (by decide);have hpf:=jm.Ua (uh HOF) (uh HK) (by decide);have hblk2:∀b,b<wr.heap.size->(Value.slice ia i ic).ownBlock≠some b->w2.heap[b]?=wr.heap[b]?:=fun b hb hne=>(hg2.block b (qj hb hA.size) (fun e=>hne e.symm)).trans (hA.block b hb)
  have hK2:jc w2 pb 127 (Jv cb co mb (.slice ia i ic) (.slice (some ⟨g,0,none⟩) (firstTo fs k.eu k.au i).length c) (.slice none 0 0) 0 0):=(hblk2 pb hlp hpi).trans (uh HK);have y2b:=hK2.cell (i:=2) (v:=.slice ia i ic) rfl;have z2b:=hK2.free 2;have y3b:=hK2.cell (i:=3) (v:=.slice (some ⟨g,0,none⟩) (firstTo fs k.eu k.au i).length c) rfl;have hsz2:wr.heap.size<=w2.heap.size:=jq hA.size hg2.size;have a3p:But [pb] w w2:=⟨hg2.os.trans (hA.os.trans (uh L8).os),hg2.tape.trans (hA.tape.trans (uh L8).tape),hg2.output.trans (hA.output.trans (uh L8).output),jq (uh L8).size hsz2,fun b hb hn=>(hblk2 b (qj hb (uh L8).size) (fun e=>by have:=((uh HOI).lt b e).1;omega)).trans ((uh L8).block b hb hn)⟩;obtain⟨va,vc,hv'⟩:=ho2.slice;rw[je,Yj,Ob] at hv';subst hv';have hKA:=hK2.set 2 (.slice va (i+1) vc);have HKA:Hid (jc (w2.setCell ⟨pb,2,none⟩ (.slice va (i+1) vc)) pb 127 (Jv cb co mb (.slice va (i+1) vc) (.slice (some ⟨g,0,none⟩) (firstTo fs k.eu k.au i).length c) (.slice none 0 0) 0 0)):=hKA;have af0:Hid (But [pb] w (w2.setCell ⟨pb,2,none⟩ (.slice va (i+1) vc))):=a3p.abg (p:=⟨pb,2,none⟩) (yj.2 rfl) _;have hpv:=jm.Ua ho2 hK2 (by decide)
  have ati:Hid (jm Xo (w2.setCell ⟨pb,2,none⟩ (.slice va (i+1) vc)) w.heap.size (.slice va (i+1) vc) (Qs pl fs k.eu k.au (i+1))):=by
   refine hide ?_;rw[uh HIS];exact ho2.Ii (fun b hb=>yx _ _ _ _ (fun e=>by have e':b=pb:=e;subst e';exact hpv hb))
  have atj:Hid (jm Xd (w2.setCell ⟨pb,2,none⟩ (.slice va (i+1) vc)) w.heap.size (.slice (some ⟨g,0,none⟩) (firstTo fs k.eu k.au i).length c) (firstTo fs k.eu k.au i)):=by
   refine hide ((uh HOF).Ii (fun b hb=>?_));rw[yx _ _ _ _ (fun e=>by have e':b=pb:=e;subst e';exact hpf hb)];exact hblk2 b ((uh HOF).lt b hb).2 (fun e=>(ajh (uh HOI) (uh HOF) (by decide) b e) hb)
  clear hA hrun ho2 hg2 hn2 hpi hpf hblk2 hK2 hsz2 a3p hKA hpv;have Dp:=hide hrun';clear hrun';go_wp2_with fail
  go_region_law (refine ug rfl _ _ 123 123 rfl rfl _ _ _ rfl rfl (uh Dp) ?_)
  all_goals
   generalize w2.setCell ⟨pb,2,none⟩ (.slice va (i+1) vc)=wA at *;clear y2 y3 y2a y3a y2b z2b y3b x0 v0 v3 v6;obtain⟨holdA,_,_⟩:=uh Kr wA (uh af0);obtain⟨v0,v3,v6,vS⟩:=uh HT wA holdA;have hlenS:(firstTo fs k.eu k.au (i+1)).length=(firstTo fs k.eu k.au i).length+fq.length:=by rw[uh Af,je]
   obtain⟨g',c',w3',hrun3,ho3,hg3⟩:=akk Xd (R:=ac6) (fun _ _ _ h=>h) wA.drew 124 w.heap.size g c (firstTo fs k.eu k.au i) ((uh atj).Ii (fun _ _=>rfl)) (.slice fa fq.length fc) fq (vS.stays aly (Below.drew (gy _ wA))) (by simp[Xd];omega) (uh af0).size;have bcg:Hid ((Builtin.append_ #[124,124] 124 #[.slice (some ⟨g,0,none⟩) (firstTo fs k.eu k.au i).length c,.slice fa fq.length fc]).run Tryz.prog wA.drew=.ok (.slice (some ⟨g',0,none⟩) ((firstTo fs k.eu k.au i).length+fq.length) c') w3'):=hrun3;have hpf:=jm.Ua (uh atj) (uh HKA) (by decide);have hblk3:∀b,b<wA.heap.size->(Value.slice (some ⟨g,0,none⟩) (firstTo fs k.eu k.au i).length c).ownBlock≠some b->w3'.heap[b]?=wA.heap[b]?:=fun b hb hne=>hg3.block b hb (fun e=>hne e.symm)
   have bdl:pb<wA.heap.size:=(uh HKA).lt;have hK3:jc w3' pb 127 (Jv cb co mb (.slice va (i+1) vc) (.slice (some ⟨g,0,none⟩) (firstTo fs k.eu k.au i).length c) (.slice none 0 0) 0 0):=(hblk3 pb bdl hpf).trans (uh HKA);have y3:=(uh HKA).cell (i:=3) (v:=.slice (some ⟨g,0,none⟩) (firstTo fs k.eu k.au i).length c) rfl;have y3b:=hK3.cell (i:=3) (v:=.slice (some ⟨g,0,none⟩) (firstTo fs k.eu k.au i).length c) rfl;have z3b:=hK3.free 3;have hpv:=jm.Ua ho3 hK3 (by decide)
   have HKB:Hid (jc (w3'.setCell ⟨pb,3,none⟩ (.slice (some ⟨g',0,none⟩) ((firstTo fs k.eu k.au i).length+fq.length) c')) pb 127 (Jv cb co mb (.slice va (i+1) vc) (.slice (some ⟨g',0,none⟩) (firstTo fs k.eu k.au (i+1)).length c') (.slice none 0 0) 0 0)):=by
    refine hide ?_;rw[hlenS];exact hK3.set 3 (.slice (some ⟨g',0,none⟩) ((firstTo fs k.eu k.au i).length+fq.length) c')
   have a8m:Hid (jm Xd (w3'.setCell ⟨pb,3,none⟩ (.slice (some ⟨g',0,none⟩) ((firstTo fs k.eu k.au i).length+fq.length) c')) w.heap.size (.slice (some ⟨g',0,none⟩) (firstTo fs k.eu k.au (i+1)).length c') (firstTo fs k.eu k.au (i+1))):=by
    refine hide ?_;rw[hlenS,uh Af];exact ho3.Ii (fun b hb=>yx _ _ _ _ (fun e=>by have e':b=pb:=e;subst e';exact hpv hb))
   have hpi:=jm.Ua (uh ati) (uh HKA) (by decide)
   have a8n:Hid (jm Xo (w3'.setCell ⟨pb,3,none⟩ (.slice (some ⟨g',0,none⟩) ((firstTo fs k.eu k.au i).length+fq.length) c')) w.heap.size (.slice va (i+1) vc) (Qs pl fs k.eu k.au (i+1))):=by
    refine hide ((uh ati).Ii (fun b hb=>?_));rw[yx _ _ _ _ (fun e=>by have e':b=pb:=e;subst e';exact hpi hb)];exact hblk3 b ((uh ati).lt b hb).2 (fun e=>(ajh (uh atj) (uh ati) (by decide) b e) hb)
   have atl:Hid (But [pb] w (w3'.setCell ⟨pb,3,none⟩ (.slice (some ⟨g',0,none⟩) ((firstTo fs k.eu k.au i).length+fq.length) c'))):=by
    have h9:But [pb] w w3':=⟨hg3.os.trans (uh af0).os,hg3.tape.trans (uh af0).tape,hg3.output.trans (uh af0).output,jq (uh af0).size hg3.size,fun b hb hn=>(hblk3 b (qj hb (uh af0).size) (fun e=>by have:=((uh atj).lt b e).1;omega)).trans ((uh af0).block b hb hn)⟩;exact h9.abg (p:=⟨pb,3,none⟩) (yj.2 rfl) _
   clear hrun3 hpf hblk3 hK3 hpv hpi ho3 hg3 vS holdA v0;go_wp2_with fail
   go_region_law (refine ug rfl _ _ 124 124 rfl rfl _ _ _ rfl rfl (uh bcg) ?_)
   all_goals
    generalize w3'.setCell ⟨pb,3,none⟩ (.slice (some ⟨g',0,none⟩) ((firstTo fs k.eu k.au i).length+fq.length) c')=wB at *;have Ey:=hide hlenS;clear hlenS;have y3:=(uh HKB).cell (i:=3) (v:=.slice (some ⟨g',0,none⟩) (firstTo fs k.eu k.au (i+1)).length c') rfl;obtain⟨holdB,_,_⟩:=uh Kr wB (uh atl);obtain⟨_,_,v6,_⟩:=uh HT wB holdB
    by_cases hbig:(firstTo fs k.eu k.au (i+1)).length<=20000
    ·have e9:decide (20000<((firstTo fs k.eu k.au (i+1)).length:Int))=false:=iw (by omega)
     have Ls:=hide (uh HYE ((uh ath).trans (jf hbig)));have HMX:Hid (Ej rs k.au (i+1)=if Ej rs k.au i<rq then rq else Ej rs k.au i):=uh HRS;clear Cc HYE ath y3b z3b
     by_cases hmx:Ej rs k.au i<rq
     ·have HRX:Hid (Ej rs k.au (i+1)=rq):=(uh HMX).trans (gu hmx)
      go_wp2
      go_roundg (k.au.length-(i+1))
      case measure=>have:=uh HG;omega
      case rel=>exact⟨i+1,.slice va (i+1) vc,g',c',by omega,rfl,by go_num,by rw[uh HRX],uh Ls,uh HKB,uh a8n,uh a8m,uh atl⟩
     ·have HRX:Hid (Ej rs k.au (i+1)=Ej rs k.au i):=(uh HMX).trans (ay hmx)
      go_wp2
      go_roundg (k.au.length-(i+1))
      case measure=>have:=uh HG;omega
      case rel=>exact⟨i+1,.slice va (i+1) vc,g',c',by omega,rfl,by go_num,by rw[uh HRX],uh Ls,uh HKB,uh a8n,uh a8m,uh atl⟩
    ·have e9:decide (20000<((firstTo fs k.eu k.au (i+1)).length:Int))=true:=jf (by omega)
     have HF:Hid (R=false):=uh Cc ((uh ath).trans (iw hbig));clear Cc HYE ath y3b z3b;go_wp2;go_ret;rw[uh HF];exact⟨rfl,uh atl,fun h=>by cases h⟩
theorem aic {W1:bf} {mb:Nat} {a:List dw} {k:dw} {bs:List Nat} {X:bf} {g mc al:Nat} (hG:Gw W1 mb (a++[k]) (.slice (some ⟨g,0,none⟩) (al+1) mc) bs X) (hal:al=a.length) (hm:mb<W1.heap.size) (hw:oq qx (a++[k])<=1048577) (c:Raw 6) (s:lu) (sb:List Nat) (hT:Y6 X c.1 s sb) (hnd:sb.Nodup) (hsb:∀b,b∈sb->b∉bs∧W1.heap.size<=b) (hlt:∀b,b∈sb->b<X.heap.size) :
  ∃ia n1 ic va n2 vc w5 bs',X.cell? ⟨g,al*7+6,none⟩=some (.slice ia n1 ic)∧g<X.heap.size∧(Builtin.append_ #[48,48] 48 #[.slice ia n1 ic,.slice (some ⟨X.heap.size,0,none⟩) 1 1]).run Tryz.prog (X.alloc (.cells c.1.toArray 60))=.ok (.slice va n2 vc) w5∧(w5.cell? ⟨g,al*7+6,none⟩=some (.slice ia n1 ic)∧w5.frozen? ⟨g,al*7+6,none⟩=false∧g<w5.heap.size)∧Gw W1 mb (a++[Dw k s]) (.slice (some ⟨g,0,none⟩) (al+1) mc) bs' (w5.setCell ⟨g,al*7+6,none⟩ (.slice va n2 vc)):=by
 subst hal;have hA:Below X.heap.size X (X.alloc (.cells c.1.toArray 60)):=(gy _ _).alloc (gq _) _;have hgA:=hG.below hA;obtain⟨v1,Pn,hc1,ho1,hl6,hgl,hgrow⟩:=yh.aev hgA.row;have hsm:=Aq hw
 obtain⟨v',w5,hrun,yc,hg5,Gm⟩:=Dz abu (X.alloc (.cells c.1.toArray 60)) 48 W1.heap.size v1 Pn ho1 X.heap.size c (fun j u hu=>by
  have hu':c.1[j]?=some u:=hu;exact(og X c.1.toArray 60).cell (i:=j) (v:=u) (by simpa using hu')) (by rw[hl6];show (k.body.length+1)*104<=_;omega) hgA.but.size
 obtain⟨⟨hc5,O6⟩,bs',hmk⟩:=hgrow v' w5 c s sb (Qz _ _ _ _ _ hT (fun b hb=>hA.block b (hlt b hb))) hnd hsb yc hg5 Gm (by omega);have hput:=hgA.put hm ho1 (by decide) hg5 hgA.Y7 hmk;obtain⟨ia,ic,rfl⟩:=ho1.slice;obtain⟨va,vc,rfl⟩:=yc.slice
 have Ql:g<X.heap.size:=by
  obtain⟨abv,Y8,Jd,_⟩:=hG.row;exact(Bd Jd g rfl).2
 exact⟨ia,_,ic,va,_,vc,w5,bs',(hA.cell (p:=⟨g,_,none⟩) Ql).symm.trans hc1,Ql,hrun,⟨hc5,O6,qj hgl hg5.size⟩,hput⟩
theorem ako (kd at_:Int) (nm:dh) (w:bf) (B:Nat) (cv:Value) (code:List ku) (h:Len nm.size∧I64 kd∧I64 at_) (ho:jm Gx w B cv code) (hk:∀x,x∈code->okI x) (hl:code.length<=2000000):Y6 w [.int .i64 kd,.string nm,.int .i64 at_,.slice none 0 0,cv,.slice none 0 0] ⟨kd,nm,at_,[],code,[]⟩ (zx cv):=by
 have z:∀{α:Type} (E:F6 Tryz.prog α) (ok:α->Prop),Ub E ok w (.slice none 0 0) [] []:=fun E ok=>⟨jm.nil _ _,(fun x hx=>by cases hx),by simp,rfl⟩
 refine⟨_,_,_,[],zx cv,[],rfl,h.1,h.2.1,h.2.2,z _ _,⟨ho.low (jg _),hk,?_,rfl⟩,⟨[],[],jm.nil _ _,by simp,.nil,rfl⟩,by simp⟩;show code.length*32<=_;omega
theorem azu {w:bf} {B fg fc:Nat} {f:List dh} (h:jm ni w B (.slice (some ⟨fg,0,none⟩) f.length fc) f) (hs:f.length<=1048577∧∀p,p∈f->p.size<=1048576) (p:Nat) (hp:p<=f.length):iy 1 16 wz 0 w (.slice (if fc=p then some ⟨fg,0,none⟩ else some ⟨fg,p,none⟩) (f.length-p) (fc-p)) (f.drop p):=by
 have h1:=Fh h hs
 by_cases c:fc=p
 ·rw[gu c]
  obtain⟨a',c',hv,⟨h2,h3⟩,h4,hx⟩:=h1;simp only[qw] at hv;have e:f.drop p=[]:=List.drop_eq_nil_of_le (by omega);rw[e];exact⟨_,fc-p,by rw[show f.length-p=0 from by omega];rfl,⟨by unfold Len;simp,jg _⟩,by unfold Len;simp,fun i hi=>absurd hi (yt _)⟩
 ·rw[ay c]
  have h9:=h1.sub p f.length hp (gq _)
  have e:vw f p f.length=f.drop p:=by
   unfold vw;exact Qg (by rw[Dh];exact gq _)
  rw[e] at h9;simpa using h9
theorem aji {W1:bf} {mb:Nat} {a:List dw} {k:dw} {bs:List Nat} {w2 W:bf} {g mc al B fg fc n1 ic:Nat} {ia:Option Addr} {f:List dh} (hG:Gw W1 mb (a++[k]) (.slice (some ⟨g,0,none⟩) (al+1) mc) bs w2) (hal:al=a.length) (hc6:w2.cell? ⟨g,al*7+6,none⟩=some (.slice ia n1 ic)) (hm:mb<W1.heap.size) (hw:oq qx (a++[k])<=1048577) (ho:jm ni w2 B (.slice (some ⟨fg,0,none⟩) f.length fc) f) (hs:f.length<=1048577∧∀p,p∈f->p.size<=1048576) (h3:3<=f.length) (hW:Below w2.heap.size w2 W) (kd at_:Int) (nm:dh) (hok:Len nm.size∧I64 kd∧I64 at_) (av:Value) (hav:av=.slice (if fc=3 then some ⟨fg,0,none⟩ else some ⟨fg,3,none⟩) (f.length-3) (fc-3)) :
  Calls Tryz.prog 22 #[av] W (fun e w9=>∃ca n9 cc va n2 vc w5 w6 bs',e=.returned (.slice ca n9 cc)∧w9.cell? ⟨fg,1,none⟩=some (.string (fA f 1))∧w9.cell? ⟨g,al*7+6,none⟩=some (.slice ia n1 ic)∧g<w9.heap.size∧fg<w9.heap.size∧(w9.alloc (.cells #[.int .i64 kd,.string nm,.int .i64 at_,.slice none 0 0,.slice ca n9 cc,.slice none 0 0] 60)).cell? ⟨fg,1,none⟩=some (.string (fA f 1))∧(w9.alloc (.cells #[.int .i64 kd,.string nm,.int .i64 at_,.slice none 0 0,.slice ca n9 cc,.slice none 0 0] 60)).cell? ⟨g,al*7+6,none⟩=some (.slice ia n1 ic)∧Hid ((Builtin.append_ #[48,48] 48 #[.slice ia n1 ic,.slice (some ⟨w9.heap.size,0,none⟩) 1 1]).run Tryz.prog (w9.alloc (.cells #[.int .i64 kd,.string nm,.int .i64 at_,.slice none 0 0,.slice ca n9 cc,.slice none 0 0] 60))=.ok (.slice va n2 vc) w5)∧w5.cell? ⟨g,al*7+6,none⟩=some (.slice ia n1 ic)∧w5.frozen? ⟨g,al*7+6,none⟩=false∧g<w5.heap.size∧Hid (w6=w5.setCell ⟨g,al*7+6,none⟩ (.slice va n2 vc))∧Hid (Gw W1 mb (a++[Dw k ⟨kd,nm,at_,[],Dx (f.drop 3),[]⟩]) (.slice (some ⟨g,0,none⟩) (al+1) mc) bs' w6)):=by
 subst hav;have hoW:=ho.below hW;have hdl:(f.drop 3).length<=1048577:=by rw[Dh];omega
 have hds:∀p,p∈f.drop 3->p.size<=1048576:=fun p hp=>hs.2 p (List.mem_of_mem_drop hp)
 refine(ajj (f.drop 3) _ W (azu hoW hs 3 h3) hds (by omega)).mono ?_;rintro e w9 ⟨v9,rfl,Jd,yu⟩;obtain⟨ca,cc,rfl⟩:=Jd.slice;have hb:Below w2.heap.size w2 w9:=hW.trans (yu.mono hW.size);have hlt:=fun b hb'=>(Bd Jd b (Ce.1 hb'))
 have hnew:∀b,b∈zx (.slice ca (Dx (f.drop 3)).length cc)->w2.heap.size<=b:=fun b hb'=>jq hW.size (hlt b hb').1
 have hfl:fg<w2.heap.size:=(Bd ho fg rfl).2
 obtain⟨ia2,n12,ic2,va,n2,vc,w5,bs',h1,h2,h3',h4,h5⟩:=aic (hG.below hb) hal hm hw ⟨[.int .i64 kd,.string nm,.int .i64 at_,.slice none 0 0,.slice ca (Dx (f.drop 3)).length cc,.slice none 0 0],by simp,by intro u hu;simp only[ql,xg,xk] at hu;rcases hu with rfl|rfl|rfl|rfl|rfl|rfl<;>rfl⟩ ⟨kd,nm,at_,[],Dx (f.drop 3),[]⟩ _ (ako kd at_ nm w9 _ _ _ hok Jd (fun x hx=>by
  obtain⟨p,hp,rfl⟩:=List.mem_map.1 hx;exact aie p (hds p hp)) (by unfold Dx;rw[Ad];omega)) (by unfold zx;cases (Value.slice ca (Dx (f.drop 3)).length cc).ownBlock<;>simp) (fun b hb'=>⟨fun h9=>by have h8:=(hG.row.nd.2 b h9).2;have h7:=hnew b hb';omega,jq hG.but.size (hnew b hb')⟩) (fun b hb'=>(hlt b hb').2)
 have Ql:g<w2.heap.size:=by
  obtain⟨abv,Y8,azv,_⟩:=hG.row;exact(Bd azv g rfl).2
 have h0:=(hb.cell (p:=⟨g,al*7+6,none⟩) Ql).trans hc6;rw[h1] at h0;simp only[uo,qw] at h0;obtain⟨rfl,rfl,rfl⟩:=h0
 have x1:w9.cell? ⟨fg,1,none⟩=some (.string (fA f 1)):=by
  obtain⟨g',cap',e1,_,_,_,hc⟩:=ag3 (ho.below hb) (by omega);simp only[qw,uo,Addr.mk.injEq] at e1;rw[e1.1.1,hc 1 (by omega),Jo]
 have hA:Below w9.heap.size w9 (w9.alloc (.cells #[.int .i64 kd,.string nm,.int .i64 at_,.slice none 0 0,.slice ca (Dx (f.drop 3)).length cc,.slice none 0 0] 60)):=(gy _ _).alloc (gq _) _;have hf9:fg<w9.heap.size:=qj hfl hb.size;exact⟨ca,_,cc,va,n2,vc,w5,_,bs',rfl,x1,h1,h2,hf9,(hA.cell (p:=⟨fg,1,none⟩) hf9).trans x1,(hA.cell (p:=⟨g,_,none⟩) h2).trans h1,hide h3',h4.1,h4.2.1,h4.2.2,hide rfl,hide h5⟩
structure Md (W4:bf) (sb:Nat) (at_:Int) (ov:Value) (args:List (List ku)) (cur:List dh) (av gv:Value) (abs:List Nat) (wr:bf):Prop where
 box:jc wr sb 60 #[.int .i64 3,.string ⟨#[]⟩,.int .i64 at_,ov,.slice none 0 0,av]
 row:yh an8 adu W4.heap.size wr av args abs
 cur:jm ni wr W4.heap.size gv cur
 but:But [sb] W4 wr
section
variable {W4:bf} {sb:Nat} {at_:Int} {ov:Value} {args:List (List ku)} {cur:List dh} {av gv:Value} {abs:List Nat} {wr w':bf}
theorem Md.below (h:Md W4 sb at_ ov args cur av gv abs wr) (hb:Below wr.heap.size wr w'):Md W4 sb at_ ov args cur av gv abs w' :=
 ⟨h.box.below hb h.box.lt,h.row.fr Yk (fun b yu=>hb.block b (h.row.nd.2 b yu).2) hb.size,h.cur.below hb,h.but.trans (But.of_below hb)⟩
theorem Md.ne (h:Md W4 sb at_ ov args cur av gv abs wr):∀b,b∈abs->gv.ownBlock≠some b:=fun b hb e=>by
 obtain⟨c1,T,hT,h1⟩:=(h.row.rowT.typ alz) b hb;obtain⟨c2,h2⟩:=h.cur.cellT e;rw[h1] at h2;simp only[uo,Obj.cells.injEq] at h2;rw[h2.2.1] at hT;exact absurd hT (by decide)
theorem Md.arg {wA w5:bf} {gv':Value} {p:dh} (h:Md W4 sb at_ ov args cur av gv abs wr) (hA:Below wr.heap.size wr wA) (hg:wA.grownBy w5 gv.ownBlock) (yc:jm ni w5 W4.heap.size gv' (cur++[p])):Md W4 sb at_ ov args (cur++[p]) av gv' abs w5:=by
 have hA':=h.below hA;refine⟨(RwB.Xp hA'.cur hg).blk hA'.box (by decide),hA'.row.fr Yk (fun b hb=>hg.block b (hA'.row.nd.2 b hb).2 (fun e=>hA'.ne b hb e.symm)) hg.size,yc,⟨hg.os.trans hA'.but.os,hg.tape.trans hA'.but.tape,hg.output.trans hA'.but.output,jq hA'.but.size hg.size,fun b hb hs=>(hg.block b (qj hb hA'.but.size) (fun e=>?_)).trans (hA'.but.block b hb hs)⟩⟩;have:=hA'.cur.block b e.symm;omega
theorem Md.fresh (h:Md W4 sb at_ ov args cur av gv abs wr):Md W4 sb at_ ov args [] av (.slice (some ⟨wr.heap.size,0,none⟩) 0 0) abs (wr.alloc (.cells #[] 9)):=by
 have h9:=h.below (w':=wr.alloc (.cells #[] 9)) ((gy _ _).alloc (gq _) _);exact⟨h9.box,h9.row,jm.start (E:=ni) wr W4.heap.size h.but.size,h9.but⟩
theorem Md.push {w9:bf} {ca:Option Addr} {cn cc:Nat} {code:List ku} (h:Md W4 sb at_ ov args cur av gv abs wr) (hsb:sb<W4.heap.size) (Qm:Below wr.heap.size wr w9) (Jd:jm Gx w9 wr.heap.size (.slice ca cn cc) code) (hok:∀x,x∈code->okI x) (hcl:code.length<=2000000) (hal:args.length<=2000000) :
  ∃va n2 vc w5 aac,(Builtin.append_ #[58,58] 58 #[av,.slice (some ⟨w9.heap.size,0,none⟩) 1 1]).run Tryz.prog (w9.alloc (.cells #[.slice ca cn cc] 56))=.ok (.slice va n2 vc) w5∧(w5.cell? ⟨sb,5,none⟩=some av∧w5.frozen? ⟨sb,5,none⟩=false∧sb<w5.heap.size)∧Md W4 sb at_ ov (args++[code]) cur (.slice va n2 vc) gv aac (w5.setCell ⟨sb,5,none⟩ (.slice va n2 vc)):=by
 have hA:Below w9.heap.size w9 (w9.alloc (.cells #[.slice ca cn cc] 56)):=(gy _ _).alloc (gq _) _;have hcA:=(h.below Qm).below hA;obtain⟨css,subs,h1,h2,h3,hbs,h4,h5⟩:=h.row;subst hbs;have Zq:=(h1.below Qm).below hA;have hlen:=h3.len
 obtain⟨v',w5,hrun,yc,hg5,Gm⟩:=Dz an8 (w9.alloc (.cells #[.slice ca cn cc] 56)) 58 W4.heap.size av css Zq w9.heap.size ⟨[.slice ca cn cc],by simp,by intro u hu;simp only[ql,xg,xk] at hu;rw[hu];rfl⟩ (fun j u hu=>by
  have hu':([.slice ca cn cc]:List Value)[j]?=some u:=hu;exact(og w9 #[.slice ca cn cc] 56).cell (i:=j) (v:=u) (by simpa using hu')) (by show (css.length+1)*24<=_;omega) hcA.but.size
 have hlt:=fun b hb'=>(Bd Jd b (Ce.1 hb'))
 have hmk:=ajk Yk h1 h3 h4 h5 Qm hA (c:=⟨[.slice ca cn cc],by simp,by intro u hu;simp only[ql,xg,xk] at hu;rw[hu];rfl⟩) (y:=code) (s:=zx (.slice ca cn cc)) ⟨_,rfl,Jd.low (jg _),hok,by show code.length*32<=_;omega,rfl⟩ (by unfold zx;cases (Value.slice ca cn cc).ownBlock<;>simp) (fun b hb=>hlt b hb) h.but.size yc hg5 Gm (by rw[je];show (css.length+1)*24<=_;omega);have hbx:=(RwB.Xp Zq hg5).blk hcA.box (by decide);obtain⟨va,vc,rfl⟩:=yc.slice;have hset:∀b,b≠sb->(w5.setCell ⟨sb,5,none⟩ (.slice va (css++[(⟨[.slice ca cn cc],by simp,by intro u hu;simp only[ql,xg,xk] at hu;rw[hu];rfl⟩:Raw 1)]).length vc)).heap[b]?=w5.heap[b]?:=fun b hb=>yx _ _ _ _ (fun e=>hb e)
 have hz:(w5.setCell ⟨sb,5,none⟩ (.slice va (css++[(⟨[.slice ca cn cc],by simp,by intro u hu;simp only[ql,xg,xk] at hu;rw[hu];rfl⟩:Raw 1)]).length vc)).heap.size=w5.heap.size:=by simp[World.setCell]
 have hne:∀b,gv.ownBlock=some b->av.ownBlock≠some b:=fun b hb e=>by
  obtain⟨c1,g1⟩:=hcA.cur.cellT hb;obtain⟨c2,g2⟩:=Zq.cellT e;rw[g1] at g2;simp only[uo,Obj.cells.injEq] at g2;exact absurd g2.2.1 (by decide)
 refine⟨va,_,vc,w5,_,hrun,⟨hbx.cell (i:=5) (v:=av) rfl,hbx.free 5,hbx.lt⟩,⟨hbx.set 5 _,hmk.fr Yk (fun b hb=>hset b (by have:=(hmk.nd.2 b hb).1;omega)) (by omega),hcA.cur.Ii (fun b hb=>(hset b (by have:=hcA.cur.block b hb;omega)).trans (hg5.block b (Bd hcA.cur b hb).2 (fun e=>hne b hb e.symm))),⟨hg5.os.trans hcA.but.os,hg5.tape.trans hcA.but.tape,hg5.output.trans hcA.but.output,by rw[hz];exact jq hcA.but.size hg5.size,fun b hb hs=>(hset b (by simpa using hs)).trans ((hg5.block b (qj hb hcA.but.size) (fun e=>?_)).trans (hcA.but.block b hb hs))⟩⟩⟩;have:=(Bd Zq b e.symm).1;omega
theorem Md.a8o {ak:List dh} {B:Nat} {cs0:Array Value} (h:Md W4 sb at_ ov args cur av gv abs wr) (hb0:jc W4 sb 60 cs0) (ho:jm ni W4 B ov ak) (hos:∀x,x∈ak->okS x) (hol:ak.length<=2000000) (hat:I64 at_):Y6 wr [.int .i64 3,.string ⟨#[]⟩,.int .i64 at_,ov,.slice none 0 0,av] ⟨3,⟨#[]⟩,at_,ak,[],args⟩ (zx ov++abs)∧(zx ov++abs).Nodup∧∀b,b∈zx ov++abs->B<=b∨W4.heap.size<=b:=by
 have hne:=ho.Ua hb0 (by decide);have hlt:=fun b hb=>Bd ho b (Ce.1 hb)
 have hor:jm ni wr B ov ak:=ho.Ii (fun b hb=>h.but.block b (Bd ho b hb).2 (by
  simp only[yj];exact fun e=>hne (by rw[hb,e])))
 refine⟨⟨_,_,_,zx ov,[],abs,rfl,by show Len 0;unfold Len;omega,by show I64 3;unfold I64;omega,hat,⟨hor.low (jg _),hos,by show ak.length*16<=_;omega,rfl⟩,⟨jm.nil _ _,(fun x hx=>by cases hx),by simp,rfl⟩,h.row.rowT,by simp⟩,?_,fun b hb=>?_⟩
 ·rw[List.nodup_append]
  refine⟨by unfold zx;cases ov.ownBlock<;>simp,h.row.nd.1,fun x hx y hy e=>?_⟩;have h1:=(hlt x hx).2;have h2:=(h.row.nd.2 y hy).1;omega
 ·rcases Ec.1 hb with h9|h9
  ·exact Or.inl (hlt b h9).1
  ·exact Or.inr (h.row.nd.2 b h9).1
end
theorem azw {w:bf} {B fg fc:Nat} {f:List dh} (ho:jm ni w B (.slice (some ⟨fg,0,none⟩) f.length fc) f) (q:Nat) (h2:2<q) (hq:q<=f.length) (hs:f.length<=1048577) (cx:Nat):∃va vc w5,(Builtin.append_ #[40,40] 40 #[.slice none 0 0,.slice (some ⟨fg,2,none⟩) (q-2) cx]).run Tryz.prog w=.ok (.slice va (q-2) vc) w5∧jm ni w5 w.heap.size (.slice va (q-2) vc) (vw f 2 q)∧Below w.heap.size w w5:=by
 obtain⟨i,hi,hz0,hz1,hz2⟩:=info_parts ni.hi;obtain⟨g',cap',e1,_,_,_,hc⟩:=ag3 ho (by omega);simp only[qw,uo,Addr.mk.injEq] at e1;obtain⟨⟨rfl,_⟩,_,_⟩:=e1;have hl:=Ru f 2 q (by omega) hq;have hn:jm ni w w.heap.size (.slice none 0 0) []:=jm.nil _ _
 obtain⟨v',w',hr,g2,g3,g4⟩:=Zy (P:=Tryz.prog) (w:=w) w.heap.size ni.ST 40 ni.T i _ ni.sz ni.qy ni.hT hi hz0 hz1 hz2 ni.hz ni.hsz (.slice none 0 0) 0 [] hn ⟨fg,2,none⟩ (q-2) cx ((vw f 2 q).flatMap ni.f) (by rw[Rx ni.f ni.sz ni.hf,hl]) (fun j u hu=>by
  have hj:j<(vw f 2 q).length:=by
   have h9:=(List.getElem?_eq_some_iff.1 hu).1;rw[Rx ni.f ni.sz ni.hf] at h9;simpa[ni] using h9
  have e:((vw f 2 q).flatMap ni.f)[j]?=some (.string (vw f 2 q)[j]):=by
   have e9:(vw f 2 q).flatMap ni.f=(vw f 2 q).map Value.string:=by
    generalize vw f 2 q=l
    induction l with
    | nil=>rfl
    | cons x l ih=>rw[List.flatMap_cons,ih];rfl
   rw[e9,List.getElem?_map,jy hj];rfl
  rw[e] at hu
  cases hu;have hg:(vw f 2 q)[j]=f[2+j]'(by omega):=by simp[vw]
  rw[Addr.add_lit,hg]
  exact hc (2+j) (by omega)) (fun u hu=>by
  obtain⟨x,hx,h9⟩:=List.mem_flatMap.1 hu;exact ni.h1 x u h9) (by simp[maxLen];omega) (by show (0+(q-2))*16<=_;omega) (gq _)
 have yc:jm ni w' w.heap.size v' (vw f 2 q):=by
  unfold jm;rw[hl];simpa using g2
 obtain⟨va,vc,rfl⟩:=yc.slice;rw[hl] at hr yc;exact⟨va,vc,w',hr,yc,⟨g3.os,g3.tape,g3.output,g3.size,fun b hb=>g3.block b hb (fun e=>by cases e)⟩⟩
theorem ajl {α:Type} [DecidableEq α] (c:α) (l:List α) (x:α) (d:List (List α)) (e:List α) (h:cutAt c l=d++[e]):cutAt c (l++[x])=if x=c then d++[e]++[[]] else d++[e++[x]]:=by
 induction l generalizing d e with
 | nil =>
  simp only[cutAt] at h
  have hd:d=[]∧e=[]:=by
   cases d with
   | nil=>simpa using h
   | cons a d=>simp at h
  rw[hd.1,hd.2];simp only[Gu,cutAt]
  split<;>rfl
 | cons y l ih =>
  rw[cutAt] at h;rw[Fe,cutAt]
  obtain⟨d',e',h9⟩:∃d' e',cutAt c l=d'++[e']:=by
   rcases List.eq_nil_or_concat (cutAt c l) with h8|⟨d',e',h8⟩
   ·exact absurd h8 (abw c l)
   ·exact⟨d',e',by rw[h8,List.concat_eq_append]⟩
  have h7:=ih d' e' h9
  by_cases hy:y=c
  ·rw[gu hy,h9] at h
   rw[gu hy,h7]
   have hd:d=[]::d'∧e=e':=by
    have h6:([]::d')++[e']=d++[e]:=h;have h5:=List.append_inj' h6 rfl;exact⟨h5.1.symm,by simpa using h5.2.symm⟩
   rw[hd.1,hd.2]
   split<;>rfl
  ·rw[ay hy,h9] at h
   rw[ay hy,h7]
   cases d' with
   | nil =>
    have hd:d=[]∧e=y::e':=by
     have h6:[]++[y::e']=d++[e]:=h;have h5:=List.append_inj' h6 rfl;exact⟨h5.1.symm,by simpa using h5.2.symm⟩
    rw[hd.1,hd.2]
    split<;>rfl
   | cons a d' =>
    have hd:d=(y::a)::d'∧e=e':=by
     have h6:((y::a)::d')++[e']=d++[e]:=h;have h5:=List.append_inj' h6 rfl;exact⟨h5.1.symm,by simpa using h5.2.symm⟩
    rw[hd.1,hd.2]
    split<;>rfl
theorem cut_small {α:Type} [DecidableEq α] (c:α):∀(l:List α) (d:List (List α)) (e:List α),cutAt c l=d++[e]->(e.length<=l.length∧d.length<=l.length)∧∀x,x∈e->x∈l:=by
 intro l d e h;have h1:=af2 c l;rw[h] at h1;simp only[je,uf,A8,Il,Ap,Gf,List.sum_append,List.sum_cons,List.sum_nil] at h1;refine⟨by omega,fun x hx=>?_⟩
 have key:∀(l:List α) (p:List α),p∈cutAt c l->∀x,x∈p->x∈l:=by
  intro l
  induction l with
  | nil=>intro p hp x hx;simp[cutAt] at hp;rw[hp] at hx;cases hx
  | cons y l ih =>
   intro p hp x hx;rw[cutAt] at hp;have e9:=Uh c l
   split at hp
   ·rcases ql.1 hp with h9|h9
    ·rw[h9] at hx;cases hx
    ·exact G8 _ (ih p h9 x hx)
   ·rcases ql.1 hp with h9|h9
    ·rw[h9] at hx
     rcases ql.1 hx with h8|h8
     ·rw[h8];exact H7 ..
     ·exact G8 _ (ih _ (by rw[e9];exact H7 ..) x h8)
    ·exact G8 _ (ih p (by rw[e9];exact G8 _ h9) x hx)
 exact key l e (by rw[h];simp) x hx
theorem al0 {W4 wr W:bf} {sb gn gc an ac:Nat} {at_:Int} {ov:Value} {args:List (List ku)} {cur:List dh} {ga aa:Option Addr} {abs:List Nat} (h:Md W4 sb at_ ov args cur (.slice aa an ac) (.slice ga gn gc) abs wr) (hsb:sb<W4.heap.size) (hW:Below wr.heap.size wr W) (hs:∀p,p∈cur->p.size<=1048576) (hl:cur.length<=1048577) (hal:args.length<=1048577) :
  Calls Tryz.prog 22 #[.slice ga gn gc] W (fun e w9=>∃ca cn cc va n2 vc w5 X aac,e=.returned (.slice ca cn cc)∧w9.cell? ⟨sb,5,none⟩=some (.slice aa an ac)∧(w9.alloc (.cells #[.slice ca cn cc] 56)).cell? ⟨sb,5,none⟩=some (.slice aa an ac)∧sb<w9.heap.size∧Hid ((Builtin.append_ #[58,58] 58 #[.slice aa an ac,.slice (some ⟨w9.heap.size,0,none⟩) 1 1]).run Tryz.prog (w9.alloc (.cells #[.slice ca cn cc] 56))=.ok (.slice va n2 vc) w5)∧w5.cell? ⟨sb,5,none⟩=some (.slice aa an ac)∧w5.frozen? ⟨sb,5,none⟩=false∧sb<w5.heap.size∧Hid (X=w5.setCell ⟨sb,5,none⟩ (.slice va n2 vc))∧Hid (Md W4 sb at_ ov (args++[Dx cur]) cur (.slice va n2 vc) (.slice ga gn gc) aac X)):=by
 have hc:=(h.below hW).cur;refine(ajj cur _ W (Fh hc ⟨hl,hs⟩) hs (by omega)).mono ?_;rintro e w9 ⟨v9,rfl,Jd,yu⟩;obtain⟨ca,cc,rfl⟩:=Jd.slice;have hb:Below wr.heap.size wr w9:=hW.trans (yu.mono hW.size);have azv:jm Gx w9 wr.heap.size (.slice ca (Dx cur).length cc) (Dx cur):=Jd.low hW.size
 obtain⟨va,n2,vc,w5,aac,h1,h2,h3⟩:=h.push hsb hb azv (fun x hx=>by
  obtain⟨p,hp,rfl⟩:=List.mem_map.1 hx;exact aie p (hs p hp)) (by unfold Dx;rw[Ad];omega) (by omega)
 have hx:=(h.below hb).box;have hA:Below w9.heap.size w9 (w9.alloc (.cells #[.slice ca (Dx cur).length cc] 56)):=(gy _ _).alloc (gq _) _;exact⟨ca,_,cc,va,n2,vc,w5,_,aac,rfl,hx.cell (i:=5) (v:=.slice aa an ac) rfl,(hx.below hA hx.lt).cell (i:=5) (v:=.slice aa an ac) rfl,hx.lt,hide h1,h2.1,h2.2.1,h2.2.2,hide rfl,hide h3⟩
theorem Md.init {W4:bf} {sb:Nat} {at_:Int} {ov:Value} (hb:jc W4 sb 60 #[.int .i64 3,.string ⟨#[]⟩,.int .i64 at_,ov,.slice none 0 0,.slice none 0 0]):Md W4 sb at_ ov [] [] (.slice none 0 0) (.slice (some ⟨W4.heap.size,0,none⟩) 0 0) [] (W4.alloc (.cells #[] 9)) :=
 ⟨hb.below ((gy _ _).alloc (gq _) _) hb.lt,yh.nil _ _ _ _,jm.start (E:=ni) W4 W4.heap.size (gq _),But.of_below ((gy _ _).alloc (gq _) _)⟩
end Go.Proofs.YtfeejeflmcapoaaGreatDoor
