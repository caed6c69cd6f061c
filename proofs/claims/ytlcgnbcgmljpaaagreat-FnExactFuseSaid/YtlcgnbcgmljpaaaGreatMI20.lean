import Derived.Test.YtlcgnbcgmljpaaaGreatMI17
import Derived.Deep.RegionLaw
namespace Go.Proofs.YtlcgnbcgmljpaaaGreat
open Go.RowKit
set_option linter.unusedSimpArgs false
set_option linter.unusedVariables false
theorem Ib {P:Program} {w w':World} {ops:Array Oper} {o:Oper} {a:Act} {K:Act->World->Prop} {Q:Exit->Act->World->Prop} {Er:Prop} (hgd:o.guard=none) (s x:Operand) (t ty:TypeId)
  (ho:o.op=.call { callee:=.builtin .append,args:=#[s,x],argTypes:=#[t,t] }) (hty:o.type=ty) (v xv v':Value) (hs:a.eval s=v) (hx:a.eval x=xv) (hrun:(Builtin.append_ #[t,t] ty #[v,xv]).run P w=.ok v' w') (h:K (a.put o.dst v') w') :
  if Region.wanted o (yielded ops a.tmps)=true then Oper.wp P o a w K Q else Er:=by
 have hwant:Region.wanted o (yielded ops a.tmps)=true:=by simp[Region.wanted,hgd]
 rw[if_pos hwant]
 subst hty
 unfold Oper.wp execOp
 simp only[ho,resolve,invoke,builtin,Sem.run_bind,Sem.run_pure,Result.andThen_ok,List.map_toArray,List.map_cons,List.map_nil,hs,hx,hrun]
 exact h
theorem axg (xs:List Int) (v:Value) (w:World) (hv:bf 1 8 yu 0 w v xs):Calls Tryz.prog 109 #[v,.func (.func 110) #[] #[]] w (Ans (.bool (xs.all H9)) w):=by
 have HQ:(List.range xs.length).all (fun j=>match xs[j]? with|some c=>H9 c|none=>false)=xs.all H9:=abw _ _ _ (fun j hj=>by rw[List.getElem?_eq_getElem hj])
 refine(aq1 (fun _ wr=>Below w.heap.size w wr) (fun wr=>Below w.heap.size w wr) (fun j=>match xs[j]? with|some c=>H9 c|none=>false) xs _ w ?_ ?_ ?_ (Below.refl _ _)).mono ?_
 ·intro _ wr h
  exact hv.stays jy h
 ·intro _ w1 w2 h1 h2
  exact h1.trans (h2.mono h1.size)
 ·intro j hj cs wr h hR
  obtain⟨rfl,_⟩:=hR
  refine(aop xs[j] wr).mono ?_
  rintro e w' ⟨rfl,rfl⟩
  rw[List.getElem?_eq_getElem hj]
  exact⟨rfl,(fun _=>h),fun _=>h⟩
 ·rintro e w' ⟨rfl,h1,h2⟩
  rw[HQ] at h1 h2 ⊢
  refine⟨rfl,?_⟩
  cases hh:xs.all H9
  ·exact h2 hh
  ·exact h1 hh
set_option maxRecDepth 20000 in
set_option maxHeartbeats 4000000 in
theorem ax8 (k:ak) (pb mb cb co:Nat) (a1 a2 a3 a4 a5 a6 ev:Value) (pl:List Nat) (fs:List (List Int)) (rs:List Int) (f:ByteArray->Option Value) (W0 w:World) (hC:CA W0 cb co k a1 a2 a3 a4 a5 a6) (hEA:EA W0 ev pl fs rs) (hpn:pl.length<=1000) (hW:Below W0.heap.size W0 w) (hpb:W0.heap.size<=pb) (hM:Ba w mb (varsOf k).length f) (hvl:(varsOf k).length<=1000)
  (hpl:au w pb 98 (Bz cb co mb (.slice none 0 0) (.slice none 0 0) (.slice none 0 0) 0 0)) :
  Calls Tryz.prog 81 #[.pointer (some ⟨pb,0,none⟩),ev] w (aif k pb mb cb co pl fs rs w (ownB fs k)):=by
 obtain⟨eb,ec,hev⟩:=hEA.sl.shape
 subst hev
 obtain⟨m4,n4,h4⟩:=hC.aj.shape
 obtain⟨m5,n5,h5⟩:=hC.insts.shape
 have l4:=hC.aj.Fz
 have l5:=hC.insts.Fz
 have HEA:=hide hEA
 have HM:=hide hM
 have HPL:=hide hpl
 have Rl:Hid (∀w',But [pb] w w'->Below W0.heap.size W0 w'∧w'.cell? ⟨cb,co+4,none⟩=some (.slice m4 k.aj.length n4)∧w'.cell? ⟨cb,co+5,none⟩=some (.slice m5 k.insts.length n5)):=fun w' hb=>by
  have hold:Below W0.heap.size W0 w':=hW.trans (hb.below _ hW.size (fun q hq=>by rw[List.mem_singleton] at hq;omega))
  exact⟨hold,(hold.cell (p:=⟨cb,_,none⟩) hC.lt).trans (by rw[hC.c4,h4]),(hold.cell (p:=⟨cb,_,none⟩) hC.lt).trans (by rw[hC.c5,h5])⟩
 have HIX:Hid (∀i (hi:i<k.insts.length),∃b o,m5=some ⟨b,o,none⟩∧I64 k.insts[i]∧∀w',Below W0.heap.size W0 w'->w'.cell? ⟨b,o+i,none⟩=some (.int .i64 k.insts[i])):=fun i hi=>by
  have hs:=hC.insts
  rw[h5] at hs
  obtain⟨_,_,yx,_,_,Em⟩:=hs
  simp only[Value.slice.injEq] at yx
  obtain⟨rfl,_,rfl⟩:=yx
  obtain⟨b,o,cs,rfl,_,hb,_,hc,⟨rfl,hr⟩⟩:=Em i hi
  refine⟨b,o,rfl,hr,fun w' h'=>?_⟩
  rw[h'.cell (p:=⟨b,_,none⟩) hb]
  have h0:=hc 0 (by simp)
  rw[Nat.mul_one,Nat.add_zero] at h0
  exact h0
 have HMV:Hid (∀w',Below W0.heap.size W0 w'->bf 1 8 yu 0 w' (.slice m4 k.aj.length n4) k.aj):=fun w' hb=>by
  rw[←h4]
  exact hC.aj.stays jy hb
 have p0:=hpl.cell (i:=0) (v:=.pointer (some ⟨cb,co,none⟩)) rfl
 have lp:=hpl.lt
 obtain⟨hWw,c4,c5⟩:=uh Rl w (But.refl _ _)
 have HB:Hid (ownB fs k=(decide (k.aj.length<=1000∧k.insts.length<=1000)&&(k.aj.all H9&&(List.range k.insts.length).all (Gt fs k.aj k.insts)))):=rfl
 have HEV:=hide (axg k.aj _ w (uh HMV w hWw))
 have HNR:Hid (k.aj.all H9=true->k.aj.length<=1000->∀w',Below W0.heap.size W0 w'->Calls Tryz.prog 111 #[.slice m4 k.aj.length n4] w' fun e w''=>∃g,e=.returned (.slice (some ⟨g,0,none⟩) k.aj.length k.aj.length)∧dw Oh w'' w'.heap.size (.slice (some ⟨g,0,none⟩) k.aj.length k.aj.length) k.aj∧Below w'.heap.size w' w''):=fun h1 h2 w' hb=>aqu k.aj _ w' (uh HMV w' hb) (List.all_eq_true.1 h1) (by omega)
 have HFZ:=hide (Qn fs k.aj k.insts)
 have qm:Hid (∀x,x∈rs->0<=x∧x<=1000000):=fun x hx=>by
  obtain⟨j,hj,rfl⟩:=List.getElem_of_mem hx
  exact(hEA.c6 j (by rw[←hEA.rl];exact hj) hj).2
 have Xf:Hid (mb≠pb):=fun e=>by
  subst e
  have h9:=hM.a0w 0
  rw[hpl.cell (i:=0) (v:=.pointer (some ⟨cb,co,none⟩)) rfl] at h9
  cases h9
 clear hEA hM hpl hW hWw hC h4 h5 HMV
 generalize ownB fs k=R at *
 generalize hmv:k.aj.all H9=mv at *
 by_cases h1:k.aj.length<=1000
 case neg =>
  have e1:decide (1000<(k.aj.length:Int))=true:=decide_eq_true (by omega)
  have HF:Hid (R=false):=(uh HB).trans (by rw[decide_eq_false (by omega)];rfl)
  clear HB h1
  go_enter Tryz.func81,Tryz.ntmps81
  go_wp2
  go_ret
  rw[uh HF]
  exact⟨rfl,But.refl _ _,fun h=>by cases h⟩
 have e1:decide (1000<(k.aj.length:Int))=false:=decide_eq_false (by omega)
 by_cases h2:k.insts.length<=1000
 case neg =>
  have e2:decide (1000<(k.insts.length:Int))=true:=decide_eq_true (by omega)
  have HF:Hid (R=false):=(uh HB).trans (by rw[decide_eq_false (by omega)];rfl)
  clear HB h1 h2
  go_enter Tryz.func81,Tryz.ntmps81
  go_wp2
  go_ret
  rw[uh HF]
  exact⟨rfl,But.refl _ _,fun h=>by cases h⟩
 have e2:decide (1000<(k.insts.length:Int))=false:=decide_eq_false (by omega)
 cases mv
 ·have HF:Hid (R=false):=(uh HB).trans (by rw[Bool.false_and,Bool.and_false])
  clear HB
  go_enter Tryz.func81,Tryz.ntmps81
  go_wp2_with fail
  refine(uh HEV).mono ?_
  rintro e w1 ⟨rfl,hb1⟩
  have HB1:=hide hb1
  clear hb1
  go_wp2
  go_ret
  rw[uh HF]
  exact⟨rfl,But.of_below (uh HB1),fun h=>by cases h⟩
 have HR2:Hid (R=(List.range k.insts.length).all (Gt fs k.aj k.insts)):=(uh HB).trans (by rw[decide_eq_true ⟨h1,h2⟩,Bool.true_and,Bool.true_and])
 have a0x:=hide (uh HNR rfl h1)
 clear HB HNR
 go_enter Tryz.func81,Tryz.ntmps81
 go_wp2_with fail
 refine(uh HEV).mono ?_
 rintro e w1 ⟨rfl,hb1⟩
 have HB1:=hide hb1
 obtain⟨hW1,c4',c5'⟩:=uh Rl w1 (But.of_below hb1)
 have HNC:=hide (uh a0x w1 hW1)
 clear hb1 hW1 c4 c5 a0x HEV
 go_wp2_with fail
 refine(uh HNC).mono ?_
 rintro e w2 ⟨g,rfl,ho,hb2⟩
 have hb2':Below w.heap.size w w2:=(uh HB1).trans (hb2.mono (uh HB1).size)
 have hk2:=(uh HPL).below hb2' lp
 have x3:=hk2.cell (i:=3) (v:=.slice none 0 0) rfl
 have z3:=hk2.free 3
 have hk3:=hk2.set 3 (.slice (some ⟨g,0,none⟩) k.aj.length k.aj.length)
 have hgo:w1.heap.size<=g:=(ho.lt g rfl).1
 have ho3:=ho.Ai (w':=w2.setCell ⟨pb,3,none⟩ (.slice (some ⟨g,0,none⟩) k.aj.length k.aj.length)) (fun b hb=>Below.heap_setCell _ _ _ _ (by simp only[Value.ownBlock,Option.some.injEq] at hb;subst hb;show g≠pb;have:=(uh HB1).size;omega))
 have a0y:dw Oh (w2.setCell ⟨pb,3,none⟩ (.slice (some ⟨g,0,none⟩) k.aj.length k.aj.length)) w.heap.size (.slice (some ⟨g,0,none⟩) k.aj.length k.aj.length) k.aj:=by
  obtain⟨q1,q2⟩:=ho3
  refine⟨q1,?_⟩
  rcases q2 with q2|⟨gg,cap,cur,e1,e2,e3⟩
  ·exact Or.inl q2
  ·exact Or.inr ⟨gg,cap,cur,e1,Nat.le_trans (uh HB1).size e2,e3⟩
 have ade:But [pb] w (w2.setCell ⟨pb,3,none⟩ (.slice (some ⟨g,0,none⟩) k.aj.length k.aj.length)):=(But.of_below hb2').Vu (p:=⟨pb,3,none⟩) (List.mem_singleton.2 rfl) _
 obtain⟨_,c4,c5⟩:=uh Rl _ ade
 have Y1:Hid (au (w2.setCell ⟨pb,3,none⟩ (.slice (some ⟨g,0,none⟩) k.aj.length k.aj.length)) pb 98 (Bz cb co mb (.slice none 0 0) (.slice (some ⟨g,0,none⟩) k.aj.length k.aj.length) (.slice none 0 0) 0 0)):=hk3
 have Y4:=hide a0y
 have Zx:=hide ade
 clear hb2 hb2' hk2 hk3 ho ho3 a0y ade c4' c5'
 go_wp2
 generalize w2.setCell ⟨pb,3,none⟩ (.slice (some ⟨g,0,none⟩) k.aj.length k.aj.length)=w3 at *
 clear x3 z3 c4 c5 p0
 go_loopg [6,49] k.insts.length (fun gm sv iv wr=>∃(i:Nat) (ivv:Value) (g c:Nat),i<=k.insts.length∧gm=k.insts.length-i∧iv=.int .i64 i∧sv=.int .i64 (yj rs k.insts i)∧(∀j,j<i->Gt fs k.aj k.insts j=true)∧au wr pb 98 (Bz cb co mb ivv (.slice (some ⟨g,0,none⟩) (firstTo fs k.aj k.insts i).length c) (.slice none 0 0) 0 0)∧dw Om wr w.heap.size ivv (Hz pl fs k.aj k.insts i)∧dw Oh wr w.heap.size (.slice (some ⟨g,0,none⟩) (firstTo fs k.aj k.insts i).length c) (firstTo fs k.aj k.insts i)∧But [pb] w wr)
 case atStart =>
  refine⟨0,.slice none 0 0,g,k.aj.length,Nat.zero_le _,by omega,rfl,rfl,fun j hj=>absurd hj (Nat.not_lt_zero _),?_,dw.nil _ _,?_,uh Zx⟩
  ·rw[uh HFZ];exact uh Y1
  ·rw[uh HFZ];exact uh Y4
 case round =>
  clear Y1 Y4 Zx hgo
  obtain⟨i,ivv,g,c,hi,hg,rfl,rfl,hone,hblk,hoi,hof,hbt⟩:=hrel
  rename World=>wr
  obtain⟨ia,ic,a0z⟩:=hoi.slice
  rw[Py] at a0z
  subst a0z
  have HG:=hide hg
  have ajr:=hide hone
  have HK:=hide hblk
  have HOI:=hide hoi
  have HOF:=hide hof
  have vg:=hide hbt
  obtain⟨hold,_,_⟩:=uh Rl wr hbt
  have HOLD:=hide hold
  have hfl:(firstTo fs k.aj k.insts i).length<=20000+1000:=by
   cases i with
   | zero=>rw[Qn];omega
   | succ i =>
    have h9:=hone i (by omega)
    unfold Gt at h9
    rw[List.getElem?_eq_getElem (by omega)] at h9
    simp only[Bool.and_eq_true] at h9
    have:=of_decide_eq_true h9.2
    omega
  have hrm:=alp rs k.insts (uh qm) i
  clear hg hone hblk hoi hof hbt hold
  by_cases hlt:i<k.insts.length
  case neg =>
   have e:i=k.insts.length:=by omega
   subst e
   have HF:Hid (R=true):=(uh HR2).trans (by rw[List.all_eq_true];exact fun j hj=>uh ajr j (List.mem_range.1 hj))
   have y1:=(uh HK).cell (i:=1) (v:=.map (some mb)) rfl
   have y6:=(uh HK).cell (i:=6) (v:=.int .i64 0) rfl
   have z6:=(uh HK).free 6
   have hml:∀ty,(Builtin.len_ #[93] ty #[.map (some mb)]).run Tryz.prog wr=.ok (.int .i64 ((varsOf k).length:Int)) wr:=fun ty=>((uh vg).map (uh HM) (by simpa using uh Xf)).len Tryz.underlying93 ty
   have HKE:Hid (au (wr.setCell ⟨pb,6,none⟩ (.int .i64 (((varsOf k).length:Int)+yj rs k.insts k.insts.length))) pb 98 (Bz cb co mb (.slice ia k.insts.length ic) (.slice (some ⟨g,0,none⟩) (firstTo fs k.aj k.insts k.insts.length).length c) (.slice none 0 0) 0 (((varsOf k).length:Int)+yj rs k.insts k.insts.length))):=(uh HK).set 6 (.int .i64 (((varsOf k).length:Int)+yj rs k.insts k.insts.length))
   have Fh:Hid (∀w',w'=wr.setCell ⟨pb,6,none⟩ (.int .i64 (((varsOf k).length:Int)+yj rs k.insts k.insts.length))->aif k pb mb cb co pl fs rs w true (.returned (.bool true)) w'):=fun w' hw'=>by
    subst hw'
    have hpi:=dw.Aw (uh HOI) (uh HK) (by decide)
    have hpf:=dw.Aw (uh HOF) (uh HK) (by decide)
    refine⟨rfl,(uh vg).Vu (p:=⟨pb,6,none⟩) (List.mem_singleton.2 rfl) _,fun _=>⟨_,g,c,uh HKE,(uh HOI).Ai (fun b hb=>Below.heap_setCell _ _ _ _ (fun e=>?_)),(uh HOF).Ai (fun b hb=>Below.heap_setCell _ _ _ _ (fun e=>?_))⟩⟩
    ·have e':b=pb:=e
     subst e'
     exact hpi hb
    ·have e':b=pb:=e
     subst e'
     exact hpf hb
   generalize yj rs k.insts k.insts.length=rm at *
   go_wp2
   go_ret
   rw[uh HF]
   exact uh Fh _ rfl
  obtain⟨xb,xo,rfl,a6n,hxc⟩:=uh HIX i hlt
  have x0:=hxc wr (uh HOLD)
  have Ei:Hid (Gt fs k.aj k.insts i=(decide (0<=k.insts[i]∧k.insts[i]<(fs.length:Int))&&decide ((firstTo fs k.aj k.insts (i+1)).length<=20000))):=by
   refine hide ?_
   unfold Gt
   rw[List.getElem?_eq_getElem hlt]
  have uw:Hid (Gt fs k.aj k.insts i=false->R=false):=fun h=>(uh HR2).trans (by rw[List.all_eq_false];exact⟨i,List.mem_range.2 hlt,by rw[h];decide⟩)
  have Xg:Hid (Gt fs k.aj k.insts i=true->∀j,j<i+1->Gt fs k.aj k.insts j=true):=fun h j hj=>by
   by_cases e:j=i
   ·subst e;exact h
   ·exact uh ajr j (by omega)
  have Yw:=hide (Xe fs k.aj k.insts i hlt)
  have HIS:Hid (Hz pl fs k.aj k.insts (i+1)=Hz pl fs k.aj k.insts i++[(pl.getD k.insts[i].toNat 0,(firstTo fs k.aj k.insts i).length)]):=by
   refine hide ?_
   rw[aoh,List.getD_eq_getElem?_getD (l:=k.insts),List.getElem?_eq_getElem hlt,Option.getD_some]
  have HRS:Hid (yj rs k.insts (i+1)=maxS (yj rs k.insts i) (rs.getD k.insts[i].toNat 0)):=by
   refine hide ?_
   show maxS _ _=_
   rw[List.getD_eq_getElem?_getD (l:=k.insts),List.getElem?_eq_getElem hlt,Option.getD_some]
  have Yr:(i:Int)<(k.insts.length:Int):=by omega
  clear hxc
  generalize k.insts[i]=kk at *
  have a6o:=(uh HEA).fl
  by_cases hk0:kk<0
  ·have f1:decide (kk<0)=true:=decide_eq_true hk0
   have HF:Hid (R=false):=uh uw ((uh Ei).trans (by rw[decide_eq_false (by omega)];rfl))
   clear uw Xg Ei hk0
   go_wp2
   go_ret
   rw[uh HF]
   exact⟨rfl,uh vg,fun h=>by cases h⟩
  have f1:decide (kk<0)=false:=decide_eq_false hk0
  by_cases hk1:(pl.length:Int)<=kk
  ·have f2:decide ((pl.length:Int)<=kk)=true:=decide_eq_true hk1
   have HF:Hid (R=false):=uh uw ((uh Ei).trans (by rw[decide_eq_false (by omega)];rfl))
   clear uw Xg Ei hk0 hk1
   go_wp2
   go_ret
   rw[uh HF]
   exact⟨rfl,uh vg,fun h=>by cases h⟩
  obtain⟨q,rfl⟩:=Int.eq_ofNat_of_zero_le (show 0<=kk by omega)
  have hq:q<pl.length:=by omega
  have f2:decide ((pl.length:Int)<=(q:Int))=false:=decide_eq_false hk1
  have f2n:decide (pl.length<=q)=false:=decide_eq_false (by omega)
  obtain⟨fa,fc,t3,tS,tl⟩:=(uh HEA).c3 q hq (by omega)
  obtain⟨t6,tr0,tr1⟩:=(uh HEA).c6 q hq (by rw[(uh HEA).rl];exact hq)
  have a4u:=(uh HEA).sl
  obtain⟨ea,a6p,a00,_,_,Em⟩:=a4u
  simp only[Value.slice.injEq] at a00
  obtain⟨rfl,_,rfl⟩:=a00
  obtain⟨peb,peo,pcs,rfl,_,a01,_,hpc,rfl⟩:=Em q hq
  have t0:=hpc 0 (by simp)
  simp only[Nat.mul_one,Nat.add_zero,List.getElem_cons_zero] at t0
  have aoq:Hid (Gt fs k.aj k.insts i=decide ((firstTo fs k.aj k.insts (i+1)).length<=20000)):=(uh Ei).trans (by rw[decide_eq_true (by omega),Bool.true_and])
  have hgf:fs.getD q []=fs[q]'(by omega):=by rw[List.getD_eq_getElem?_getD,List.getElem?_eq_getElem (by omega),Option.getD_some]
  have hgr:rs.getD q 0=rs[q]'(by rw[(uh HEA).rl];exact hq):=by rw[List.getD_eq_getElem?_getD,List.getElem?_eq_getElem (by rw[(uh HEA).rl];exact hq),Option.getD_some]
  have hgp:pl.getD q 0=pl[q]:=by rw[List.getD_eq_getElem?_getD,List.getElem?_eq_getElem hq,Option.getD_some]
  rw[Int.toNat_natCast] at Yw HIS HRS
  rw[hgf] at Yw
  rw[hgp] at HIS
  rw[hgr] at HRS
  generalize hpq:pl[q]=pq at *
  generalize fs[q]'(by omega)=fq at *
  generalize rs[q]'(by rw[(uh HEA).rl];exact hq)=rq at *
  have HT:Hid (∀w',Below W0.heap.size W0 w'->w'.cell? ⟨peb,peo+q,none⟩=some (.pointer (some ⟨pq,0,none⟩))∧w'.cell? ⟨pq,3,none⟩=some (.slice fa fq.length fc)∧w'.cell? ⟨pq,6,none⟩=some (.int .i64 rq)∧bf 1 4 Yc 0 w' (.slice fa fq.length fc) fq):=fun w' hb=>⟨(hb.cell (p:=⟨peb,_,none⟩) a01).trans t0,(hb.cell (p:=⟨pq,3,none⟩) (World.block_lt_of_cell? W0 _ t3)).trans t3,(hb.cell (p:=⟨pq,6,none⟩) (World.block_lt_of_cell? W0 _ t6)).trans t6,tS.stays agx hb⟩
  obtain⟨v0,v3,v6,_⟩:=uh HT wr (uh HOLD)
  clear t0 t3 t6 tS Em hpc hgf hgr hgp hk0 hk1 Ei hpq a01
  have hA:Below wr.heap.size wr (wr.alloc (.cells #[.pointer (some ⟨pq,0,none⟩),.int .i64 ((firstTo fs k.aj k.insts i).length:Int)] 156)).drew:=((Below.refl _ _).alloc (Nat.le_refl _) _).drew
  obtain⟨v',w2,hrun,ho2,hg2,hn2⟩:=Yx Om (wr.alloc (.cells #[.pointer (some ⟨pq,0,none⟩),.int .i64 ((firstTo fs k.aj k.insts i).length:Int)] 156)).drew 94 w.heap.size _ _ ((uh HOI).below hA) wr.heap.size (pq,(firstTo fs k.aj k.insts i).length) (fun j u hu=>by
   have h9:=(jl wr #[.pointer (some ⟨pq,0,none⟩),.int .i64 ((firstTo fs k.aj k.insts i).length:Int)] 156).cell (i:=j) (v:=u) (by simpa[Om] using hu)
   exact h9) (by rw[Py];simp[Om];omega) (Nat.le_trans (uh vg).size hA.size)
  have hrun':(Builtin.append_ #[94,94] 94 #[.slice ia i ic,.slice (some ⟨wr.heap.size,0,none⟩) 1 1]).run Tryz.prog (wr.alloc (.cells #[.pointer (some ⟨pq,0,none⟩),.int .i64 ((firstTo fs k.aj k.insts i).length:Int)] 156)).drew=.ok v' w2:=hrun
  have hlp:pb<wr.heap.size:=(uh HK).lt
  have y2:=(uh HK).cell (i:=2) (v:=.slice ia i ic) rfl
  have y3:=(uh HK).cell (i:=3) (v:=.slice (some ⟨g,0,none⟩) (firstTo fs k.aj k.insts i).length c) rfl
  have y2a:=(hA.cell (p:=⟨pb,2,none⟩) hlp).trans y2
  have y3a:=(hA.cell (p:=⟨pb,3,none⟩) hlp).trans y3
  have hpi:=dw.Aw (uh HOI) (uh HK) (by decide)
  have hpf:=dw.Aw (uh HOF) (uh HK) (by decide)
  have hblk2:∀b,b<wr.heap.size->(Value.slice ia i ic).ownBlock≠some b->w2.heap[b]?=wr.heap[b]?:=fun b hb hne=>(hg2.block b (Nat.lt_of_lt_of_le hb hA.size) (fun e=>hne e.symm)).trans (hA.block b hb)
  have hK2:au w2 pb 98 (Bz cb co mb (.slice ia i ic) (.slice (some ⟨g,0,none⟩) (firstTo fs k.aj k.insts i).length c) (.slice none 0 0) 0 0):=(hblk2 pb hlp hpi).trans (uh HK)
  have y2b:=hK2.cell (i:=2) (v:=.slice ia i ic) rfl
  have z2b:=hK2.free 2
  have y3b:=hK2.cell (i:=3) (v:=.slice (some ⟨g,0,none⟩) (firstTo fs k.aj k.insts i).length c) rfl
  have hsz2:wr.heap.size<=w2.heap.size:=Nat.le_trans hA.size hg2.size
  have awg:But [pb] w w2:=⟨hg2.os.trans (hA.os.trans (uh vg).os),hg2.tape.trans (hA.tape.trans (uh vg).tape),hg2.output.trans (hA.output.trans (uh vg).output),Nat.le_trans (uh vg).size hsz2,fun b hb hn=>(hblk2 b (Nat.lt_of_lt_of_le hb (uh vg).size) (fun e=>by have:=((uh HOI).lt b e).1;omega)).trans ((uh vg).block b hb hn)⟩
  obtain⟨va,vc,hv'⟩:=ho2.slice
  rw[List.length_append,Py,List.length_singleton] at hv'
  subst hv'
  have hKA:=hK2.set 2 (.slice va (i+1) vc)
  have HKA:Hid (au (w2.setCell ⟨pb,2,none⟩ (.slice va (i+1) vc)) pb 98 (Bz cb co mb (.slice va (i+1) vc) (.slice (some ⟨g,0,none⟩) (firstTo fs k.aj k.insts i).length c) (.slice none 0 0) 0 0)):=hKA
  have abx:Hid (But [pb] w (w2.setCell ⟨pb,2,none⟩ (.slice va (i+1) vc))):=awg.Vu (p:=⟨pb,2,none⟩) (List.mem_singleton.2 rfl) _
  have hpv:=dw.Aw ho2 hK2 (by decide)
  have aor:Hid (dw Om (w2.setCell ⟨pb,2,none⟩ (.slice va (i+1) vc)) w.heap.size (.slice va (i+1) vc) (Hz pl fs k.aj k.insts (i+1))):=by
   refine hide ?_
   rw[uh HIS]
   exact ho2.Ai (fun b hb=>Below.heap_setCell _ _ _ _ (fun e=>by have e':b=pb:=e;subst e';exact hpv hb))
  have aos:Hid (dw Oh (w2.setCell ⟨pb,2,none⟩ (.slice va (i+1) vc)) w.heap.size (.slice (some ⟨g,0,none⟩) (firstTo fs k.aj k.insts i).length c) (firstTo fs k.aj k.insts i)):=by
   refine hide ((uh HOF).Ai (fun b hb=>?_))
   rw[Below.heap_setCell _ _ _ _ (fun e=>by have e':b=pb:=e;subst e';exact hpf hb)]
   exact hblk2 b ((uh HOF).lt b hb).2 (fun e=>(ae0 (uh HOI) (uh HOF) (by decide) b e) hb)
  clear hA hrun ho2 hg2 hn2 hpi hpf hblk2 hK2 hsz2 awg hKA hpv
  have a4v:=hide hrun'
  clear hrun'
  go_wp2_with fail
  go_region_law (refine Ib rfl _ _ 94 94 rfl rfl _ _ _ rfl rfl (uh a4v) ?_)
  all_goals
   generalize w2.setCell ⟨pb,2,none⟩ (.slice va (i+1) vc)=wA at *
   clear y2 y3 y2a y3a y2b z2b y3b x0 v0 v3 v6
   obtain⟨holdA,_,_⟩:=uh Rl wA (uh abx)
   obtain⟨v0,v3,v6,vS⟩:=uh HT wA holdA
   have hlenS:(firstTo fs k.aj k.insts (i+1)).length=(firstTo fs k.aj k.insts i).length+fq.length:=by rw[uh Yw,List.length_append]
   obtain⟨g',c',w3',hrun3,ho3,hg3⟩:=afx Oh (R:=Yc) (fun _ _ _ h=>h) wA.drew 95 w.heap.size g c (firstTo fs k.aj k.insts i) ((uh aos).Ai (fun _ _=>rfl)) (.slice fa fq.length fc) fq (vS.stays agx (Below.drew (Below.refl _ wA))) (by simp[Oh];omega) (uh abx).size
   have a2p:Hid ((Builtin.append_ #[95,95] 95 #[.slice (some ⟨g,0,none⟩) (firstTo fs k.aj k.insts i).length c,.slice fa fq.length fc]).run Tryz.prog wA.drew=.ok (.slice (some ⟨g',0,none⟩) ((firstTo fs k.aj k.insts i).length+fq.length) c') w3'):=hrun3
   have hpf:=dw.Aw (uh aos) (uh HKA) (by decide)
   have hblk3:∀b,b<wA.heap.size->(Value.slice (some ⟨g,0,none⟩) (firstTo fs k.aj k.insts i).length c).ownBlock≠some b->w3'.heap[b]?=wA.heap[b]?:=fun b hb hne=>hg3.block b hb (fun e=>hne e.symm)
   have a4w:pb<wA.heap.size:=(uh HKA).lt
   have hK3:au w3' pb 98 (Bz cb co mb (.slice va (i+1) vc) (.slice (some ⟨g,0,none⟩) (firstTo fs k.aj k.insts i).length c) (.slice none 0 0) 0 0):=(hblk3 pb a4w hpf).trans (uh HKA)
   have y3:=(uh HKA).cell (i:=3) (v:=.slice (some ⟨g,0,none⟩) (firstTo fs k.aj k.insts i).length c) rfl
   have y3b:=hK3.cell (i:=3) (v:=.slice (some ⟨g,0,none⟩) (firstTo fs k.aj k.insts i).length c) rfl
   have z3b:=hK3.free 3
   have hpv:=dw.Aw ho3 hK3 (by decide)
   have HKB:Hid (au (w3'.setCell ⟨pb,3,none⟩ (.slice (some ⟨g',0,none⟩) ((firstTo fs k.aj k.insts i).length+fq.length) c')) pb 98 (Bz cb co mb (.slice va (i+1) vc) (.slice (some ⟨g',0,none⟩) (firstTo fs k.aj k.insts (i+1)).length c') (.slice none 0 0) 0 0)):=by
    refine hide ?_
    rw[hlenS]
    exact hK3.set 3 (.slice (some ⟨g',0,none⟩) ((firstTo fs k.aj k.insts i).length+fq.length) c')
   have a02:Hid (dw Oh (w3'.setCell ⟨pb,3,none⟩ (.slice (some ⟨g',0,none⟩) ((firstTo fs k.aj k.insts i).length+fq.length) c')) w.heap.size (.slice (some ⟨g',0,none⟩) (firstTo fs k.aj k.insts (i+1)).length c') (firstTo fs k.aj k.insts (i+1))):=by
    refine hide ?_
    rw[hlenS,uh Yw]
    exact ho3.Ai (fun b hb=>Below.heap_setCell _ _ _ _ (fun e=>by have e':b=pb:=e;subst e';exact hpv hb))
   have hpi:=dw.Aw (uh aor) (uh HKA) (by decide)
   have a03:Hid (dw Om (w3'.setCell ⟨pb,3,none⟩ (.slice (some ⟨g',0,none⟩) ((firstTo fs k.aj k.insts i).length+fq.length) c')) w.heap.size (.slice va (i+1) vc) (Hz pl fs k.aj k.insts (i+1))):=by
    refine hide ((uh aor).Ai (fun b hb=>?_))
    rw[Below.heap_setCell _ _ _ _ (fun e=>by have e':b=pb:=e;subst e';exact hpi hb)]
    exact hblk3 b ((uh aor).lt b hb).2 (fun e=>(ae0 (uh aos) (uh aor) (by decide) b e) hb)
   have aot:Hid (But [pb] w (w3'.setCell ⟨pb,3,none⟩ (.slice (some ⟨g',0,none⟩) ((firstTo fs k.aj k.insts i).length+fq.length) c'))):=by
    have h9:But [pb] w w3':=⟨hg3.os.trans (uh abx).os,hg3.tape.trans (uh abx).tape,hg3.output.trans (uh abx).output,Nat.le_trans (uh abx).size hg3.size,fun b hb hn=>(hblk3 b (Nat.lt_of_lt_of_le hb (uh abx).size) (fun e=>by have:=((uh aos).lt b e).1;omega)).trans ((uh abx).block b hb hn)⟩
    exact h9.Vu (p:=⟨pb,3,none⟩) (List.mem_singleton.2 rfl) _
   clear hrun3 hpf hblk3 hK3 hpv hpi ho3 hg3 vS holdA v0
   go_wp2_with fail
   go_region_law (refine Ib rfl _ _ 95 95 rfl rfl _ _ _ rfl rfl (uh a2p) ?_)
   all_goals
    generalize w3'.setCell ⟨pb,3,none⟩ (.slice (some ⟨g',0,none⟩) ((firstTo fs k.aj k.insts i).length+fq.length) c')=wB at *
    have Cb:=hide hlenS
    clear hlenS
    have y3:=(uh HKB).cell (i:=3) (v:=.slice (some ⟨g',0,none⟩) (firstTo fs k.aj k.insts (i+1)).length c') rfl
    obtain⟨holdB,_,_⟩:=uh Rl wB (uh aot)
    obtain⟨_,_,v6,_⟩:=uh HT wB holdB
    by_cases hbig:(firstTo fs k.aj k.insts (i+1)).length<=20000
    ·have e9:decide (20000<((firstTo fs k.aj k.insts (i+1)).length:Int))=false:=decide_eq_false (by omega)
     have Dp:=hide (uh Xg ((uh aoq).trans (decide_eq_true hbig)))
     have HMX:Hid (yj rs k.insts (i+1)=if yj rs k.insts i<rq then rq else yj rs k.insts i):=uh HRS
     clear uw Xg aoq y3b z3b
     by_cases hmx:yj rs k.insts i<rq
     ·have HRX:Hid (yj rs k.insts (i+1)=rq):=(uh HMX).trans (if_pos hmx)
      go_wp2
      go_roundg (k.insts.length-(i+1))
      case measure=>have:=uh HG;omega
      case rel=>exact⟨i+1,.slice va (i+1) vc,g',c',by omega,rfl,by go_num,by rw[uh HRX],uh Dp,uh HKB,uh a03,uh a02,uh aot⟩
     ·have HRX:Hid (yj rs k.insts (i+1)=yj rs k.insts i):=(uh HMX).trans (if_neg hmx)
      go_wp2
      go_roundg (k.insts.length-(i+1))
      case measure=>have:=uh HG;omega
      case rel=>exact⟨i+1,.slice va (i+1) vc,g',c',by omega,rfl,by go_num,by rw[uh HRX],uh Dp,uh HKB,uh a03,uh a02,uh aot⟩
    ·have e9:decide (20000<((firstTo fs k.aj k.insts (i+1)).length:Int))=true:=decide_eq_true (by omega)
     have HF:Hid (R=false):=uh uw ((uh aoq).trans (decide_eq_false hbig))
     clear uw Xg aoq y3b z3b
     go_wp2
     go_ret
     rw[uh HF]
     exact⟨rfl,uh aot,fun h=>by cases h⟩
end Go.Proofs.YtlcgnbcgmljpaaaGreat
