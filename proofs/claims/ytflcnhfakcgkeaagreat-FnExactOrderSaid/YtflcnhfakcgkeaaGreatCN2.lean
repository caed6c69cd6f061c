import Derived.Test.YtflcnhfakcgkeaaGreatWgtD
namespace Go.Proofs.YtflcnhfakcgkeaaGreat
open Go.RowKit
set_option linter.unusedSimpArgs false
set_option linter.unusedVariables false
theorem Fz {a b:Int} {p:Int × Int} (h:p=(a,b)):Ending.returned (.tuple #[.int .i64 a,.int .i64 b])=.returned (.tuple #[.int .i64 p.1,.int .i64 p.2]):=by rw[h]
theorem bf.pre {α:Type} {sz oz lo:Nat} {R:Nat->World->List Value->α->Prop} {w:World} {a:Option Addr} {n c:Nat} {xs:List α} (h:bf sz oz R lo w (.slice a n c) xs) (k:Nat) (hk:k<=xs.length):bf sz oz R lo w (.slice a k c) (xs.take k):=by
 obtain⟨a',c',hv,⟨h1,h2⟩,h3,hx⟩:=h
 simp only[Value.slice.injEq] at hv
 obtain⟨rfl,_,rfl⟩:=hv
 have hl:(xs.take k).length=k:=by rw[List.length_take];omega
 have hm:k*oz<=xs.length*oz:=Nat.mul_le_mul_right _ hk
 refine⟨a,c,by rw[hl],⟨by rw[hl];unfold Len at *;omega,by omega⟩,by rw[hl];unfold Len at *;omega,fun i hi=>?_⟩
 obtain⟨b,o,cs,r1,r2,r3,r4,r5,r6⟩:=hx i (by omega)
 exact⟨b,o,cs,r1,r2,r3,r4,r5,by rw[List.getElem_take];exact r6⟩
theorem iw.ax5 {w:World} {base b:Nat} {T:TypeId} {cs:Array Value} {v:Value} {xs:List ByteArray} (h:iw zh w base v xs) (hr:dh w b T cs) (hT:T≠9):some b≠v.ownBlock:=by
 obtain⟨h1,h2⟩:=h
 rcases h2 with ⟨rfl,_⟩|⟨g,cap,cur,hv,hgb,hh,r⟩
 ·intro e;cases e
 ·intro e
  subst hv
  simp only[Value.ownBlock,Option.some.injEq] at e
  subst e
  unfold dh at hr
  rw[hh] at hr
  simp only[Option.some.injEq,Obj.cells.injEq] at hr
  exact hT hr.2.1.symm
theorem dh.grown {w w':World} {b:Nat} {T:TypeId} {cs:Array Value} {row:Option Nat} (h:dh w b T cs) (hg:w.grownBy w' row) (hne:some b≠row):dh w' b T cs:=(hg.block b h.lt hne).trans h
set_option maxRecDepth 20000 in
set_option maxHeartbeats 8000000 in
theorem ae8 (ns:List ay) (i:Nat) (hi:i<ns.length) (pv:Value) (w:World) (hp:bf 5 112 o7 0 w pv ns) (hsh:Ar ns=true) :
  Calls Tryz.prog 38 #[.agg #[pv],.int .i64 (i:Int)] w fun e w'=>e=.returned (.tuple #[.int .i64 (xu ns i ns[i]).1,.int .i64 (xu ns i ns[i]).2])∧Below w.heap.size w w':=by
 have hnb:qw ns[i]=true:=by
  unfold Ar at hsh
  simp only[Bool.and_eq_true] at hsh
  exact List.all_eq_true.1 hsh.2 _ (List.getElem_mem hi)
 have hnd:=(yg ns[i]).1 hnb
 have hsum:ns[i].ins.length+ns[i].outs.length+ns[i].vars.length<=1048576:=by omega
 have hnl:=ad3 ns hsh
 have Ht:=hide (fun w1 (hb:Below w.heap.size w w1)=>aae ns pv i ns[i].name w1 (hp.stays jk hb) (Nat.le_of_lt hi))
 have HWS:=hide (fun w1 (hb:Below w.heap.size w w1)=>aia ns pv w1 (hp.stays jk hb) (ak4 ns hsh) hnl)
 have a1r:=hide (fun e (he:e∈ns[i].eqs) v1 v2 v3 w1 (hb:Below w.heap.size w w1) h1 h2 h3=>aht ns i hi pv e v1 v2 v3 w1 (hp.stays jk hb) h1 h2 h3 (List.all_eq_true.1 hnd.2.2.2.2.2 e he) hsum (X5 hnb))
 have aai:=hide (fun e (he:e∈ns[i].eqs)=>Vr e (List.all_eq_true.1 hnd.2.2.2.2.2 e he))
 have HLH:Hid (∀e,e∈ns[i].eqs->e.lhs.length<=500):=fun e he=>by
  have:=List.all_eq_true.1 hnd.2.2.2.2.2 e he
  unfold Eb at this
  simp only[Bool.and_eq_true,decide_eq_true_iff] at this
  exact this.1.1.2.1
 have Zn:=hide (am3 hnb)
 have a1s:=hide (X5 hnb)
 have Ox:=hide (fun e he (nm:ByteArray) hm=>(show Len nm.size from by have:=Vz (ab2 hnb e he nm hm);unfold Len;omega))
 have HVB:=hide (Nj hnb)
 have HLN:Hid (∀e,e∈ns[i].eqs->∀nm,nm∈e.lhs->nameB nm=true):=fun e he nm hm=>by
  have:=List.all_eq_true.1 hnd.2.2.2.2.2 e he
  unfold Eb at this
  simp only[Bool.and_eq_true] at this
  exact List.all_eq_true.1 this.1.2 nm hm
 have aib:=hnd.1
 obtain⟨bp,op,cpp,hpe,hbp,cs,ae6,hcc,iv,ov,vv,evv,rfl,hnm,hiv,hov,hvv,Vs⟩:=hp.at' i hi
 obtain⟨ap,cp,rfl⟩:=hp.shape
 simp only[Value.slice.injEq] at hpe
 obtain⟨rfl,_,rfl⟩:=hpe
 obtain⟨b1,c1,rfl⟩:=hiv.shape
 obtain⟨b2,c2,rfl⟩:=hov.shape
 obtain⟨b3,c3,rfl⟩:=hvv.shape
 obtain⟨b4,c4,rfl⟩:=Vs.shape
 have np:=hp.len'
 have m0:=hcc 0 (by simp)
 have m1:=hcc 1 (by simp)
 have m2:=hcc 2 (by simp)
 have m3:=hcc 3 (by simp)
 have m4:=hcc 4 (by simp)
 simp only[Nat.add_zero,List.getElem_cons_zero,List.getElem_cons_succ] at m0 m1 m2 m3 m4
 have zl:Hid (Iu ns[i] b1 b2 b3 c1 c2 c3 w):=⟨hiv,hov,hvv⟩
 have H4:=hide Vs
 have n4:=Vs.len'
 have xw:=hide (fun (h:¬0<=jh ns i ns[i].name)=>h)
 clear hcc hiv hov hvv Vs hp hnm ae6 hnd hnb
 generalize hxx:ns[i]=x at *
 clear hxx
 have HVI:=hide (fun nm w1 (hb:Below w.heap.size w w1)=>Si x (.slice b1 x.ins.length c1) (.slice b2 x.outs.length c2) (.slice b3 x.vars.length c3) (.slice b4 x.eqs.length c4) nm w w1 hb (uh zl).ins (uh zl).outs (uh zl).vars ⟨b4,x.eqs.length,c4,rfl⟩ hsum)
 have HVR:=hide (fun w1 (hb:Below w.heap.size w w1)=>af6 x (.slice b1 x.ins.length c1) (.slice b2 x.outs.length c2) (.slice b3 x.vars.length c3) (.slice b4 x.eqs.length c4) w w1 hb (uh zl).ins (uh zl).outs (uh zl).vars hsum)
 have a1t:=hide (fun w1 (hb:Below w.heap.size w w1)=>ak5 x x.eqs.length rfl b1 b2 b3 b4 c1 c2 c3 c4 hsum w1 ((uh zl).stays hb) ((uh H4).stays xq hb) aib.2.2.1 aib.2.2.2 (fun e he=>⟨uh aai e he,uh HLH e he⟩) (uh a1s) (uh Ox))
 unfold Xw at HVI
 have HVL:Hid ((aj x).length=x.ins.length+x.outs.length+x.vars.length):=by
  show (aj x).length=_
  unfold aj
  rw[List.length_append,List.length_append]
 have HVE:Hid (aj x=x.ins++x.outs++x.vars):=rfl
 rw[←uh HVE] at HVR
 have hA:Below w.heap.size w ((w.alloc (.cells #[.slice (some ⟨bp,op,none⟩) ns.length cp] 30)).alloc (.cells #[.string x.name,.slice b1 x.ins.length c1,.slice b2 x.outs.length c2,.slice b3 x.vars.length c3,.slice b4 x.eqs.length c4] 42)):=((Below.refl _ _).alloc (Nat.le_refl _) _).alloc (by simp) _
 have hAz:((w.alloc (.cells #[.slice (some ⟨bp,op,none⟩) ns.length cp] 30)).alloc (.cells #[.string x.name,.slice b1 x.ins.length c1,.slice b2 x.outs.length c2,.slice b3 x.vars.length c3,.slice b4 x.eqs.length c4] 42)).heap.size=w.heap.size+2:=by simp
 have hA1:dh ((w.alloc (.cells #[.slice (some ⟨bp,op,none⟩) ns.length cp] 30)).alloc (.cells #[.string x.name,.slice b1 x.ins.length c1,.slice b2 x.outs.length c2,.slice b3 x.vars.length c3,.slice b4 x.eqs.length c4] 42)) w.heap.size 30 #[.slice (some ⟨bp,op,none⟩) ns.length cp]:=(jd w #[.slice (some ⟨bp,op,none⟩) ns.length cp] 30).below ((Below.refl _ _).alloc (Nat.le_refl _) _) (by simp)
 have hA2:dh ((w.alloc (.cells #[.slice (some ⟨bp,op,none⟩) ns.length cp] 30)).alloc (.cells #[.string x.name,.slice b1 x.ins.length c1,.slice b2 x.outs.length c2,.slice b3 x.vars.length c3,.slice b4 x.eqs.length c4] 42)) (w.heap.size+1) 42 #[.string x.name,.slice b1 x.ins.length c1,.slice b2 x.outs.length c2,.slice b3 x.vars.length c3,.slice b4 x.eqs.length c4]:=by
  have h0:=jd (w.alloc (.cells #[.slice (some ⟨bp,op,none⟩) ns.length cp] 30)) #[.string x.name,.slice b1 x.ins.length c1,.slice b2 x.outs.length c2,.slice b3 x.vars.length c3,.slice b4 x.eqs.length c4] 42
  rw[show (w.alloc (.cells #[.slice (some ⟨bp,op,none⟩) ns.length cp] 30)).heap.size=w.heap.size+1 from by simp] at h0
  exact h0
 obtain⟨BX,ku⟩:∃BX:World->Prop,∀w',BX w'↔Below (w.heap.size+2) ((w.alloc (.cells #[.slice (some ⟨bp,op,none⟩) ns.length cp] 30)).alloc (.cells #[.string x.name,.slice b1 x.ins.length c1,.slice b2 x.outs.length c2,.slice b3 x.vars.length c3,.slice b4 x.eqs.length c4] 42)) w':=⟨_,fun _=>Iff.rfl⟩
 have jy:Hid (∀w1,BX w1->Below w.heap.size w w1):=fun w1 h=>hA.trans (((ku w1).1 h).mono (by omega))
 have Bq:Hid (∀w1 w2,BX w1->Below w1.heap.size w1 w2->BX w2):=fun w1 w2 h h2=>(ku w2).2 (((ku w1).1 h).trans (h2.mono (by have:=((ku w1).1 h).size;omega)))
 have HX3:Hid (∀w1 w2 v ys,BX w1->iw zh w1 (w.heap.size+2) v ys->w1.grownBy w2 v.ownBlock->BX w2):=fun w1 w2 v ys h ho hg=>(ku w2).2 (ho.grown ((ku w1).1 h) hg (by have:=((ku w1).1 h).size;omega) (Nat.le_refl _))
 have Bf:Hid (∀w1,BX w1->w1.cell? ⟨w.heap.size,0,none⟩=some (.slice (some ⟨bp,op,none⟩) ns.length cp)∧w1.cell? ⟨w.heap.size+1,0,none⟩=some (.string x.name)∧w1.cell? ⟨w.heap.size+1,1,none⟩=some (.slice b1 x.ins.length c1)∧w1.cell? ⟨w.heap.size+1,2,none⟩=some (.slice b2 x.outs.length c2)∧w1.cell? ⟨w.heap.size+1,3,none⟩=some (.slice b3 x.vars.length c3)∧w1.cell? ⟨w.heap.size+1,4,none⟩=some (.slice b4 x.eqs.length c4)):=fun w1 h=>⟨(hA1.below ((ku w1).1 h) (by omega)).cell (i:=0) (v:=.slice (some ⟨bp,op,none⟩) ns.length cp) rfl,(hA2.below ((ku w1).1 h) (by omega)).cell (i:=0) (v:=.string x.name) rfl,(hA2.below ((ku w1).1 h) (by omega)).cell (i:=1) (v:=.slice b1 x.ins.length c1) rfl,(hA2.below ((ku w1).1 h) (by omega)).cell (i:=2) (v:=.slice b2 x.outs.length c2) rfl,(hA2.below ((ku w1).1 h) (by omega)).cell (i:=3) (v:=.slice b3 x.vars.length c3) rfl,(hA2.below ((ku w1).1 h) (by omega)).cell (i:=4) (v:=.slice b4 x.eqs.length c4) rfl⟩
 have Vu:Hid (∀w1,BX w1->w.heap.size+2<=w1.heap.size):=fun w1 h=>by have:=((ku w1).1 h).size;omega
 have HX0:Hid (BX ((w.alloc (.cells #[.slice (some ⟨bp,op,none⟩) ns.length cp] 30)).alloc (.cells #[.string x.name,.slice b1 x.ins.length c1,.slice b2 x.outs.length c2,.slice b3 x.vars.length c3,.slice b4 x.eqs.length c4] 42))):=(ku _).2 (Below.refl _ _)
 have HC0:=hide (uh Ht ((w.alloc (.cells #[.slice (some ⟨bp,op,none⟩) ns.length cp] 30)).alloc (.cells #[.string x.name,.slice b1 x.ins.length c1,.slice b2 x.outs.length c2,.slice b3 x.vars.length c3,.slice b4 x.eqs.length c4] 42)) hA)
 clear hA hAz hA1 hA2 ku Ht
 have hi':(i:Int)<(ns.length:Int):=by omega
 by_cases hfn:0<=jh ns i x.name
 ·have HR:=hide (awq hfn)
  have dd:decide (0<=jh ns i x.name)=true:=decide_eq_true hfn
  generalize xu ns i x=RR at *
  generalize jh ns i x.name=fi at *
  go_enter Tryz.func38,Tryz.ntmps38
  go_wp2_with fail
  refine(uh HC0).mono ?_
  rintro e w1 ⟨rfl,hb1⟩
  have HB1:=hide (uh jy _ (uh Bq _ _ (uh HX0) hb1))
  clear hb1
  go_wp2
  refine bodyPost_ret (v:=.tuple #[.int .i64 2,.int .i64 0]) (by simp[results,Tryz.results38,go_sem]) rfl ?_
  exact⟨Fz (uh HR),uh HB1⟩
 have U6:=hide hfn
 have dd:decide (0<=jh ns i x.name)=false:=decide_eq_false hfn
 clear hfn xw
 have arx:=hide (fun k h=>ax6 (ns:=ns) (i:=i) (x:=x) (uh U6) (k:=k) h)
 have arz:=hide (fun h k h'=>awr (ns:=ns) (i:=i) (x:=x) (uh U6) h (k:=k) h')
 have ar0:=hide (fun h h' k h''=>avm (ns:=ns) (i:=i) (x:=x) (uh U6) h h' (k:=k) h'')
 have ar1:=hide (fun h h' h''=>al4 (ns:=ns) (i:=i) (x:=x) (uh U6) h h' h'')
 generalize jh ns i x.name=fi at *
 generalize xu ns i x=RR at *
 have hvl:(aj x).length<=500:=by rw[uh HVL];omega
 generalize hvs:aj x=vs at *
 have Vt:=hide hvs
 clear hvs
 go_enter Tryz.func38,Tryz.ntmps38
 go_wp2_with fail
 refine(uh HC0).mono ?_
 rintro e w1 ⟨rfl,hb1⟩
 have am4:=uh Bq _ _ (uh HX0) hb1
 have Gq:=hide am4
 obtain⟨q0,q1,q2,q3,q4,q5⟩:=uh Bf w1 am4
 have Ak:=hide (uh HVR w1 (uh jy _ am4))
 clear hb1 am4 HC0 HVR
 go_wp2_with fail
 refine(uh Ak).mono ?_
 rintro e w2 ⟨vv,rfl,hVV,hb2⟩
 have hbx2:=uh Bq _ _ (uh Gq) hb2
 have Jo:=hide hbx2
 obtain⟨av,cv,rfl⟩:=hVV.shape
 obtain⟨_,_,hvv,_,hvn,Gw⟩:=hVV
 simp only[Value.slice.injEq] at hvv
 obtain⟨rfl,_,rfl⟩:=hvv
 have Jf:=hide Gw
 clear Gw hvn hb2 hbx2 Ak q0 q1 q2 q3 q4 q5
 go_wp2
 go_loopg [42] vs.length (fun g k' wr=>∃(k:Nat),k<=vs.length∧g=vs.length-k∧k'=.int .i64 k∧(∀j,j<k->I4 vs j=false)∧Below w2.heap.size w2 wr)
 case atStart=>exact⟨0,Nat.zero_le _,by omega,rfl,fun j hj=>absurd hj (Nat.not_lt_zero _),Below.refl _ _⟩
 case round =>
  obtain⟨k,hk,hg,rfl,hno,hb⟩:=hrel
  rename World=>wr
  have HG:=hide hg
  have jo:=hide hno
  have HB:=hide hb
  have hbx:=uh Bq _ _ (uh Jo) hb
  have tu:=hide hbx
  have hsz:=uh Vu _ hbx
  obtain⟨q0,q1,q2,q3,q4,q5⟩:=uh Bf wr hbx
  clear hg hno
  by_cases hlt:k<vs.length
  ·obtain⟨ba,oa,Le,jr,_,hba,Gx,hca,Oy⟩:=uh Jf k hlt
   subst jr
   have hc:∀j (hj:j<Le.length),wr.cell? ⟨ba,oa+k*3+j,none⟩=some Le[j]:=fun j hj=>by rw[hb.cell (p:=⟨ba,_,none⟩) hba];exact hca j hj
   obtain⟨ckv,rfl,hsn,hty,hcl⟩:=Oy
   have r0:=hc 0 (by simp)
   have r1:=hc 1 (by simp)
   have r2:=hc 2 (by simp)
   simp only[Nat.add_zero,List.getElem_cons_zero,List.getElem_cons_succ] at r0 r1 r2
   obtain⟨ack,X6,rfl⟩:=hcl.shape
   have HD:=hide (apr vs k hlt)
   have hal:Below wr.heap.size wr (wr.alloc (.cells #[.string vs[k].name,.int .i64 vs[k].type,.slice ack vs[k].clock.length X6] 68)):=(Below.refl _ _).alloc (Nat.le_refl _) _
   have HC:=hide (uh HVI vs[k].name _ (uh jy _ (uh Bq _ _ hbx hal)))
   have Gg:=hide hal
   have hw1:w.heap.size<wr.heap.size:=by omega
   have hw2:w.heap.size+1<wr.heap.size:=by omega
   have hltk:(k:Int)<(vs.length:Int):=by omega
   have hbz:ba<wr.heap.size:=Nat.lt_of_lt_of_le hba hb.size
   clear hc hca Gx hsn hty hcl hal hb hbx
   generalize jg vs vs[k].name=lv at *
   generalize V3:uq vs vs[k].name=li at *
   clear V3
   generalize vs[k].name=nm at *
   generalize vs[k].type=ty at *
   generalize vs[k].clock.length=kl at *
   by_cases hd:li<(k:Int)
   ·have d1:decide (li<(k:Int))=true:=decide_eq_true hd
    have HR:=hide (uh arx k (Fe hlt (by rw[uh HD];exact d1) (uh jo)))
    clear arx arz ar0 ar1 HD
    go_wp2_with fail
    refine(uh HC).mono ?_
    rintro e w3 ⟨cl3,rfl,U3,hb3⟩
    obtain⟨a3,c3',rfl⟩:=U3.shape
    have HF:Hid (Below w.heap.size w (w3.alloc (.cells #[.string lv.name,.int .i64 lv.type,.slice a3 lv.clock.length c3'] 68))):=uh jy _ (uh Bq _ _ (uh Bq _ _ (uh tu) (uh Gg)) (hb3.alloc hb3.size _))
    clear hb3 U3
    go_wp2
    refine bodyPost_ret (v:=.tuple #[.int .i64 2,.int .i64 ((k:Int)+1)]) (by simp[results,Tryz.results38,go_sem]) rfl ?_
    exact⟨Fz (uh HR),uh HF⟩
   ·have d1:decide (li<(k:Int))=false:=decide_eq_false hd
    have Gy:Hid (∀j,j<k+1->I4 vs j=false):=fun j hj=>by
     by_cases e:j=k
     ·subst e;rw[uh HD];exact d1
     ·exact uh jo j (by omega)
    go_wp2_with fail
    refine(uh HC).mono ?_
    rintro e w3 ⟨cl3,rfl,U3,hb3⟩
    obtain⟨a3,c3',rfl⟩:=U3.shape
    have HF:Hid (Below wr.heap.size wr (w3.alloc (.cells #[.string lv.name,.int .i64 lv.type,.slice a3 lv.clock.length c3'] 68))):=(uh Gg).trans ((hb3.alloc hb3.size _).mono (uh Gg).size)
    clear hb3 U3
    go_wp2
    go_roundg (vs.length-(k+1))
    case measure=>have:=uh HG;omega
    case rel=>exact⟨k+1,by omega,rfl,by go_num,uh Gy,(uh HB).trans ((uh HF).mono (uh HB).size)⟩
  ·have e:k=vs.length:=by omega
   subst e
   have Fb:=hide (zk (uh jo))
   have avn:=hide (uh arz (uh Fb))
   have avo:=hide (uh ar0 (uh Fb))
   have avp:=hide (uh ar1 (uh Fb))
   clear arx arz ar0 ar1 Fb q0 q1 q2 q3 q4 q5 hb hbx
   go_wp2
   go_loopg [62] vs.length (fun g k' wr=>∃(k:Nat),k<=vs.length∧g=vs.length-k∧k'=.int .i64 k∧(∀j,j<k->Dy vs j=false)∧Below w2.heap.size w2 wr)
   case atStart=>exact⟨0,Nat.zero_le _,by omega,rfl,fun j hj=>absurd hj (Nat.not_lt_zero _),uh HB⟩
   case round =>
    obtain⟨k,hk,hg,rfl,hno,hb⟩:=hrel
    rename World=>ws
    have HG2:=hide hg
    have Yn:=hide hno
    have HB2:=hide hb
    have hbx:=uh Bq _ _ (uh Jo) hb
    have ar2:=hide hbx
    have hsz2:=uh Vu _ hbx
    clear hg hno
    by_cases hlt:k<vs.length
    ·obtain⟨ba,oa,Le,jr,_,hba,Gx,hca,Oy⟩:=uh Jf k hlt
     subst jr
     have hc:∀j (hj:j<Le.length),ws.cell? ⟨ba,oa+k*3+j,none⟩=some Le[j]:=fun j hj=>by rw[hb.cell (p:=⟨ba,_,none⟩) hba];exact hca j hj
     obtain⟨ckv,rfl,hsn,hty,hcl⟩:=Oy
     have r0:=hc 0 (by simp)
     have r1:=hc 1 (by simp)
     have r2:=hc 2 (by simp)
     simp only[Nat.add_zero,List.getElem_cons_zero,List.getElem_cons_succ] at r0 r1 r2
     have Sl:=hide hcl
     have nck:=hcl.len'
     have a00:vs[k].clock.length<=(match ckv with|.slice _ _ c=>c|_=>0):=by
      obtain⟨a,cap,rfl,⟨_,h⟩,_⟩:=hcl
      exact h
     obtain⟨ack,X6,rfl⟩:=hcl.shape
     simp only at a00
     have HCA:=hide (aic vs k hlt)
     have hltk:(k:Int)<(vs.length:Int):=by omega
     have hbz:ba<ws.heap.size:=Nat.lt_of_lt_of_le hba hb.size
     clear hc hca Gx hsn hty hcl
     generalize vs[k].name=vnm at *
     generalize vs[k].type=vty at *
     generalize vs[k].clock=ks at *
     obtain⟨wv,hwv⟩:∃wv,wv=ws.alloc (.cells #[.string vnm,.int .i64 vty,.slice ack ks.length X6] 68):=⟨_,rfl⟩
     have hbv:Below ws.heap.size ws wv:=by rw[hwv];exact(Below.refl _ _).alloc (Nat.le_refl _) _
     have hBV:dh wv ws.heap.size 68 #[.string vnm,.int .i64 vty,.slice ack ks.length X6]:=by rw[hwv];exact jd _ _ _
     have HBV:=hide hbv
     have V4:=hide hBV
     have a5i:wv.heap.size=ws.heap.size+1:=by rw[hwv];simp
     clear hb hbx hbv hBV
     go_wp2
     rw[←hwv]
     clear hwv
     go_loopg [70] ks.length (fun g j' wr=>∃(j:Nat),j<=ks.length∧g=ks.length-j∧j'=.int .i64 j∧(∀q,q<j->Bj vs ks q=false)∧Below wv.heap.size wv wr)
     case atStart=>exact⟨0,Nat.zero_le _,by omega,rfl,fun j hj=>absurd hj (Nat.not_lt_zero _),Below.refl _ _⟩
     case round =>
      obtain⟨j,hj,hgj,rfl,ax7,hbj⟩:=hrel
      rename World=>wt
      have Oe:=hide hgj
      have ax8:=hide ax7
      have Lj:=hide hbj
      have am5:Below ws.heap.size ws wt:=(uh HBV).trans (hbj.mono (uh HBV).size)
      have a1u:=hide am5
      have ac1:=uh Bq _ _ (uh ar2) am5
      have ax9:=hide ac1
      have a5j:=uh Vu _ ac1
      clear hgj ax7
      by_cases ar4:j<ks.length
      ·obtain⟨bc,oc,csc,jr,_,hbc,ac3,hcc,⟨rfl,hsc⟩⟩:=(show ∃b o cs,ack=some ⟨b,o,none⟩∧0<=b∧b<w.heap.size∧cs.length=2∧(∀q (hq:q<cs.length),w.cell? ⟨b,o+j*2+q,none⟩=some cs[q])∧jm 0 w cs ks[j] from by
        obtain⟨a,cap,hv,_,_,hx⟩:=uh Sl
        simp only[Value.slice.injEq] at hv
        obtain⟨rfl,_,_⟩:=hv
        exact hx j ar4)
       subst jr
       have hcw:∀q (hq:q<2),wt.cell? ⟨bc,oc+j*2+q,none⟩=some _:=fun q hq=>by rw[(uh jy _ ac1).cell (p:=⟨bc,_,none⟩) hbc];exact hcc q hq
       have e0:=hcw 0 (by simp)
       have e1:=hcw 1 (by simp)
       simp only[Nat.add_zero,List.getElem_cons_zero,List.getElem_cons_succ] at e0 e1
       obtain⟨q0,q1,q2,q3,q4,q5⟩:=uh Bf wt ac1
       have HCO:=hide (afa vs ks j ar4)
       have hal:Below wt.heap.size wt (wt.alloc (.cells #[.string ks[j].name,.bool ks[j].on] 94)):=(Below.refl _ _).alloc (Nat.le_refl _) _
       have HC:=hide (uh HVI ks[j].name _ (uh jy _ (uh Bq _ _ ac1 hal)))
       have Gg:=hide hal
       have hw1:w.heap.size<wt.heap.size:=by omega
       have hw2:w.heap.size+1<wt.heap.size:=by omega
       have a4d:(j:Int)<(ks.length:Int):=by omega
       have hjc:(j:Int)<=(X6:Int):=by omega
       have hj0:(0:Int)<=(j:Int):=by omega
       have u2:wt.cell? ⟨ws.heap.size,2,none⟩=some (.slice (some ⟨bc,oc,none⟩) ks.length X6):=((uh V4).below hbj (by omega)).cell (i:=2) (v:=.slice (some ⟨bc,oc,none⟩) ks.length X6) rfl
       have hws:ws.heap.size<wt.heap.size:=by have:=hbj.size;omega
       have ar5:Hid (∀u w',Below w.heap.size w w'->bf 2 24 jm 0 w u (jv vs ks[j].name)->Calls Tryz.prog 67 #[u,.slice (some ⟨bc,oc,none⟩) j X6] w' (Ans (.bool (qj (jv vs ks[j].name) (ks.take j))) w')):=fun u w' hb' hu=>Eu _ _ _ _ w' (hu.stays lg hb') (((uh Sl).pre j (by omega)).stays lg hb')
       have Nk:Hid (Bj vs ks j=true->RR=(3,(k:Int))):=fun h=>uh avn k (Fe hlt (by rw[uh HCA];exact first_some ar4 h) (uh Yn))
       have U7:Hid (Bj vs ks j=false->∀q,q<j+1->Bj vs ks q=false):=fun h q hq=>by
        by_cases e:q=j
        ·subst e;exact h
        ·exact uh ax8 q (by omega)
       rw[uh HCO] at Nk U7
       clear hcc hcw ac3 hal hbj am5 ac1 HCO hsc
       have Rq:Hid (jv vs ks[j].name=(jg vs ks[j].name).clock):=rfl
       rw[uh Rq] at ar5 Nk U7
       clear Rq
       generalize jg vs ks[j].name=lv at *
       generalize V3:uq vs ks[j].name=li at *
       clear V3
       generalize ks[j].name=cnm at *
       generalize ks[j].on=con at *
       go_wp2_with fail
       refine(uh HC).mono ?_
       rintro e w3 ⟨cl3,rfl,U3,hb3⟩
       obtain⟨a3,c3',rfl⟩:=U3.shape
       have hb4:Below wt.heap.size wt (w3.alloc (.cells #[.string lv.name,.int .i64 lv.type,.slice a3 lv.clock.length c3'] 68)):=(uh Gg).trans ((hb3.alloc hb3.size _).mono (uh Gg).size)
       have z1:(w3.alloc (.cells #[.string lv.name,.int .i64 lv.type,.slice a3 lv.clock.length c3'] 68)).cell? ⟨w3.heap.size,1,none⟩=some (.int .i64 lv.type):=(World.cell?_alloc_at _ _ _ _ rfl).trans rfl
       have z2:(w3.alloc (.cells #[.string lv.name,.int .i64 lv.type,.slice a3 lv.clock.length c3'] 68)).cell? ⟨w3.heap.size,2,none⟩=some (.slice a3 lv.clock.length c3'):=(World.cell?_alloc_at _ _ _ _ rfl).trans rfl
       have z3:(w3.alloc (.cells #[.string lv.name,.int .i64 lv.type,.slice a3 lv.clock.length c3'] 68)).cell? ⟨ws.heap.size,2,none⟩=some (.slice (some ⟨bc,oc,none⟩) ks.length X6):=by rw[hb4.cell (p:=⟨ws.heap.size,_,none⟩) hws];exact u2
       have HB4:=hide hb4
       have a1v:=hide U3
       clear hb3 U3 hb4 e0 e1 q0 q1 q2 q3 q4 q5 u2
       go_wp2_with fail
       generalize w3.alloc (.cells #[.string lv.name,.int .i64 lv.type,.slice a3 lv.clock.length c3'] 68)=w5 at z1 z2 z3 HB4 ⊢
       generalize w3.heap.size=f5 at z1 z2 ⊢
       have I5:=uh Bq _ _ (uh ax9) (uh HB4)
       have HFn:Hid (∀n,Below w.heap.size w (w5.drewN n)):=fun n=>⟨(uh jy _ I5).os,(uh jy _ I5).tape,(uh jy _ I5).output,(uh jy _ I5).size,(uh jy _ I5).block⟩
       by_cases hl0:li<0
       ·have d1:decide (li<0)=true:=decide_eq_true hl0
        have HR:=hide (uh Nk (by rw[d1,Bool.true_or,Bool.true_or]))
        clear Nk U7 I5
        go_quiet ((fail))
        go_wp2
        refine bodyPost_ret (v:=.tuple #[.int .i64 3,.int .i64 (k:Int)]) (by simp[results,Tryz.results38,go_sem]) rfl ?_
        exact⟨Fz (uh HR),uh HFn _⟩
       have d1:decide (li<0)=false:=decide_eq_false hl0
       rw[d1,Bool.false_or] at Nk U7
       by_cases ht:lv.type=2
       case neg =>
        have d2:(lv.type != 2)=true:=by simp[ht]
        have HR:=hide (uh Nk (by rw[d2,Bool.true_or]))
        clear Nk U7 I5 hl0
        go_quiet ((fail))
        go_wp2
        refine bodyPost_ret (v:=.tuple #[.int .i64 3,.int .i64 (k:Int)]) (by simp[results,Tryz.results38,go_sem]) rfl ?_
        exact⟨Fz (uh HR),uh HFn _⟩
       have d2:(lv.type != 2)=false:=by simp[ht]
       rw[d2,Bool.false_or] at Nk U7
       have hd5:Below w.heap.size w w5.drew:=(uh jy _ I5).drew
       have Nb:Hid (Calls Tryz.prog 67 #[.slice a3 lv.clock.length c3',.slice (some ⟨bc,oc,none⟩) j X6] w5.drew fun e w''=>e=.returned (.bool (qj lv.clock (ks.take j)))∧Hid (Below wt.heap.size wt w'')∧w''.cell? ⟨f5,1,none⟩=some (.int .i64 lv.type)∧w''.cell? ⟨f5,2,none⟩=some (.slice a3 lv.clock.length c3')∧w''.cell? ⟨ws.heap.size,2,none⟩=some (.slice (some ⟨bc,oc,none⟩) ks.length X6)):=by
        refine(uh ar5 _ w5.drew hd5 (uh a1v)).mono ?_
        rintro e w'' ⟨rfl,h9⟩
        have h8:Below w5.heap.size w5 w'':=((Below.refl _ w5).drew).trans h9
        exact⟨rfl,(uh HB4).trans (h8.mono (uh HB4).size),by rw[h8.cell (p:=⟨f5,_,none⟩) (World.block_lt_of_cell? _ _ z1)];exact z1,by rw[h8.cell (p:=⟨f5,_,none⟩) (World.block_lt_of_cell? _ _ z2)];exact z2,by rw[h8.cell (p:=⟨ws.heap.size,_,none⟩) (World.block_lt_of_cell? _ _ z3)];exact z3⟩
       clear ar5 I5 hd5 hl0
       have HT2:=hide ht
       clear ht
       generalize qj lv.clock (ks.take j)=sc at *
       cases sc
       ·have HR:=hide (uh Nk rfl)
        clear Nk U7
        go_region_held3 (fun w'=>w'.cell? ⟨f5,1,none⟩=some (.int .i64 lv.type)∧w'.cell? ⟨f5,2,none⟩=some (.slice a3 lv.clock.length c3')∧w'.cell? ⟨ws.heap.size,2,none⟩=some (.slice (some ⟨bc,oc,none⟩) ks.length X6)) (go_keep) (first|(go_at_call 67;refine(uh Nb).mono ?_;rintro e w6 ⟨rfl,X3,u1,u2,u3⟩))
        have HF:=hide (uh jy _ (uh Bq _ _ (uh ax9) (uh X3)))
        go_wp2
        refine bodyPost_ret (v:=.tuple #[.int .i64 3,.int .i64 (k:Int)]) (by simp[results,Tryz.results38,go_sem]) rfl ?_
        exact⟨Fz (uh HR),uh HF⟩
       ·have HN3:=hide (uh U7 rfl)
        clear Nk U7
        go_region_held3 (fun w'=>w'.cell? ⟨f5,1,none⟩=some (.int .i64 lv.type)∧w'.cell? ⟨f5,2,none⟩=some (.slice a3 lv.clock.length c3')∧w'.cell? ⟨ws.heap.size,2,none⟩=some (.slice (some ⟨bc,oc,none⟩) ks.length X6)) (go_keep) (first|(go_at_call 67;refine(uh Nb).mono ?_;rintro e w6 ⟨rfl,X3,u1,u2,u3⟩))
        go_wp2
        go_roundg (ks.length-(j+1))
        case measure=>have:=uh Oe;omega
        case rel=>exact⟨j+1,by omega,rfl,by go_num,uh HN3,(uh Lj).trans ((uh X3).mono (uh Lj).size)⟩
      ·have e:j=ks.length:=by omega
       subst e
       have HNK:Hid (∀q,q<k+1->Dy vs q=false):=fun q hq=>by
        by_cases e:q=k
        ·subst e
         rw[uh HCA,zk (uh ax8)]
         rfl
        ·exact uh Yn q (by omega)
       clear hbj am5 ac1
       go_wp2
       go_roundg (vs.length-(k+1))
       case measure=>have:=uh HG2;omega
       case rel=>exact⟨k+1,by omega,rfl,by go_num,uh HNK,(uh HB2).trans ((uh a1u).mono (uh HB2).size)⟩
    ·have e:k=vs.length:=by omega
     subst e
     have HS2:=hide (zk (uh Yn))
     have aps:=hide (uh avo (uh HS2))
     have apt:=hide (uh avp (uh HS2))
     clear avn avo avp HS2 Jf HB tu HB2 hb hbx
     have HXS:Hid (BX (ws.alloc (.cells #[] 9))):=uh Bq _ _ (uh ar2) ((Below.refl _ _).alloc (Nat.le_refl _) _)
     have HOS:=hide (iw.start (E:=zh) ws (w.heap.size+2) hsz2)
     obtain⟨q0,q1,q2,q3,q4,q5⟩:=uh Bf ws (uh ar2)
     have hw1:w.heap.size<ws.heap.size:=by omega
     have hw2:w.heap.size+1<ws.heap.size:=by omega
     go_wp2
     clear q0 q1 q2 q3 q4 q5 hw1 hw2
     go_loopg [18,19,106] x.eqs.length (fun g sv cn k' wr=>∃(k:Nat),k<=x.eqs.length∧g=x.eqs.length-k∧k'=.int .i64 k∧cn=.int .i64 ((wo x.eqs k:Nat):Int)∧iw zh wr (w.heap.size+2) sv (wu x.eqs k)∧(∀j,j<k->(Dz ns i x j != 0)=false)∧BX wr)
     case atStart=>exact⟨0,Nat.zero_le _,by omega,rfl,rfl,uh HOS,fun j hj=>absurd hj (Nat.not_lt_zero _),uh HXS⟩
     case round =>
      obtain⟨k,hk,hg,rfl,rfl,hown,hno,hbx⟩:=hrel
      rename World=>wa
      have Jg:=hide hg
      have HOW:=hide hown
      have am6:=hide hno
      have ac4:=hide hbx
      have a5k:=uh Vu _ hbx
      have hit:=agh x.eqs (fun e he=>by
       have h1:=uh aai e he
       have h4:=Ez (decide (e.call.size=0)) (dw e) (dw e).length
       have h3:=Ed (dw e) 3000 h1.2 (dw e).length
       have h5:(dw e).length*3000<=500*3000:=Nat.mul_le_mul_right _ h1.1
       unfold yc
       omega) k
      have hsl:=ar6 x.eqs (uh HLH) k
      obtain⟨q0,q1,q2,q3,q4,q5⟩:=uh Bf wa hbx
      clear hg hno hown
      by_cases hlt:k<x.eqs.length
      ·obtain⟨b,o,cs,jr,_,hb,hcs,hc0,hR⟩:=(show ∃b o cs,b4=some ⟨b,o,none⟩∧0<=b∧b<w.heap.size∧cs.length=4∧(∀j (hj:j<cs.length),w.cell? ⟨b,o+k*4+j,none⟩=some cs[j])∧Dt 0 w cs x.eqs[k] from by
        obtain⟨a,cap,hv,_,_,hx⟩:=uh H4
        simp only[Value.slice.injEq] at hv
        obtain⟨rfl,_,_⟩:=hv
        exact hx k hlt)
       subst jr
       obtain⟨l0,k0,g0,rfl,_,hl0,hk0,hg0⟩:=hR
       have hc:∀j (hj:j<4),wa.cell? ⟨b,o+k*4+j,none⟩=some _:=fun j hj=>by rw[(uh jy _ hbx).cell (p:=⟨b,_,none⟩) hb];exact hc0 j hj
       have r0:=hc 0 (by simp)
       have r1:=hc 1 (by simp)
       have r2:=hc 2 (by simp)
       have r3:=hc 3 (by simp)
       simp only[Nat.add_zero,List.getElem_cons_zero,List.getElem_cons_succ] at r0 r1 r2 r3
       have hmem:x.eqs[k]∈x.eqs:=List.getElem_mem hlt
       have HEC:=hide (fun w1 (hb:Below w.heap.size w w1)=>uh a1r x.eqs[k] hmem l0 k0 g0 w1 hb (hl0.stays uw hb) (hk0.stays je hb) (hg0.stays lq hb))
       have a1w:=hide (fun w1 (hb:Below w.heap.size w w1)=>ad4 x.eqs[k] l0 k0 g0 w1 (hk0.stays je hb) (hg0.stays lq hb) (uh aai _ hmem).2 (uh aai _ hmem).1)
       have HL:=hide hl0
       have nl0:=hl0.len'
       have hl5:=uh HLH _ hmem
       have a1x:=hide (uh HLN _ hmem)
       have ar7:yc x.eqs[k]<=1500000:=by
        have h1:=uh aai _ hmem
        have h4:=Ez (decide (x.eqs[k].call.size=0)) (dw x.eqs[k]) (dw x.eqs[k]).length
        have h3:=Ed (dw x.eqs[k]) 3000 h1.2 (dw x.eqs[k]).length
        have h5:(dw x.eqs[k]).length*3000<=500*3000:=Nat.mul_le_mul_right _ h1.1
        unfold yc
        omega
       have HEA:=hide (avq ns i x k hlt)
       have HSS:Hid (wu x.eqs (k+1)=wu x.eqs k++x.eqs[k].lhs):=by
        show wu x.eqs (k+1)=_
        rw[wu,List.getElem?_eq_getElem hlt]
       have HIS:Hid (wo x.eqs (k+1)=wo x.eqs k+yc x.eqs[k]):=by
        show wo x.eqs (k+1)=_
        rw[wo,List.getElem?_eq_getElem hlt]
       have HRK:Hid ((Dz ns i x k != 0)=true->RR=(Dz ns i x k,(k:Int))):=fun h=>uh aps k (Fe hlt h (uh am6))
       have HRG:Hid ((Dz ns i x k != 0)=false->∀j,j<k+1->(Dz ns i x j != 0)=false):=fun h j hj=>by
        by_cases e:j=k
        ·subst e;exact h
        ·exact uh am6 j (by omega)
       rw[uh Vt] at HEA
       obtain⟨la,lc,rfl⟩:=hl0.shape
       obtain⟨ka,kc,rfl⟩:=hk0.shape
       obtain⟨ga,gc,rfl⟩:=hg0.shape
       clear hc hc0 hcs hl0 hk0 hg0 hmem
       have a1y:=uh Zn k
       generalize Aw ns i vs x.eqs[k]=ef at *
       generalize Dz ns i x k=ec at *
       generalize yc x.eqs[k]=inn at *
       generalize wo x.eqs k=it0 at *
       generalize wu x.eqs k=seen at *
       generalize x.eqs[k].code.length=e2 at *
       generalize x.eqs[k].args.length=e3 at *
       generalize x.eqs[k].call=Hw at *
       generalize x.eqs[k].lhs=lhs at *
       obtain⟨wb,hwb⟩:∃wb,wb=wa.alloc (.cells #[.slice la lhs.length lc,.slice ka e2 kc,.string Hw,.slice ga e3 gc] 48):=⟨_,rfl⟩
       have hbb:Below wa.heap.size wa wb:=by rw[hwb];exact(Below.refl _ _).alloc (Nat.le_refl _) _
       have hBE:dh wb wa.heap.size 48 #[.slice la lhs.length lc,.slice ka e2 kc,.string Hw,.slice ga e3 gc]:=by rw[hwb];exact jd _ _ _
       have HBE:=hide hBE
       have a1z:=hide ((uh HOW).below hbb)
       have a13:=hide (uh Bq _ _ hbx hbb)
       obtain⟨aS,cS,rfl⟩:=(uh HOW).slice
       have hltk:(k:Int)<(x.eqs.length:Int):=by omega
       clear hbb hBE hbx
       go_wp2
       rw[←hwb]
       clear hwb q0 q1 q2 q3 q4 q5 r0 r1 r2 r3
       go_loopg [18,114] lhs.length (fun g sv m' wr=>∃(m:Nat),m<=lhs.length∧g=lhs.length-m∧m'=.int .i64 m∧iw zh wr (w.heap.size+2) sv (seen++lhs.take m)∧(∀q,q<m->Oz vs x.ins.length seen lhs q=false)∧BX wr∧dh wr wa.heap.size 48 #[.slice la lhs.length lc,.slice ka e2 kc,.string Hw,.slice ga e3 gc])
       case atStart=>exact⟨0,Nat.zero_le _,by omega,rfl,by simpa using uh a1z,fun j hj=>absurd hj (Nat.not_lt_zero _),uh a13,uh HBE⟩
       case round =>
        obtain⟨m,hm,hgm,rfl,Ub,aya,Di,hbe⟩:=hrel
        rename World=>wc
        have Hy:=hide hgm
        have U8:=hide Ub
        have ayb:=hide aya
        have aie:=hide Di
        have am7:=hide hbe
        have a5l:=uh Vu _ Di
        have hlm:(seen++lhs.take m).length<=260000:=by rw[List.length_append,List.length_take];omega
        obtain⟨q0,q1,q2,q3,q4,q5⟩:=uh Bf wc Di
        clear hgm aya
        by_cases Aj:m<lhs.length
        ·obtain⟨bs,os,cs5,jr,_,hbs,Yw,ayc,⟨rfl,Yx⟩⟩:=(show ∃b o cs,la=some ⟨b,o,none⟩∧0<=b∧b<w.heap.size∧cs.length=1∧(∀q (hq:q<cs.length),w.cell? ⟨b,o+m*1+q,none⟩=some cs[q])∧Cc 0 w cs lhs[m] from by
          obtain⟨a,cap,hv,_,_,hx⟩:=uh HL
          simp only[Value.slice.injEq] at hv
          obtain⟨rfl,_,_⟩:=hv
          exact hx m Aj)
         subst jr
         have e0:wc.cell? ⟨bs,os+m,none⟩=some (.string lhs[m]):=by
          rw[(uh jy _ Di).cell (p:=⟨bs,_,none⟩) hbs]
          simpa using ayc 0 (by simp)
         have HC:=hide (uh HVI lhs[m] wc (uh jy _ Di))
         have HLA:=hide (aif vs x.ins.length seen lhs m Aj)
         have HTK:Hid (seen++lhs.take (m+1)=seen++lhs.take m++[lhs[m]]):=by
          show _=_
          rw[List.take_succ_eq_append_getElem Aj,List.append_assoc]
         have hal:Below wc.heap.size wc wc:=Below.refl _ _
         have ayd:Hid (∀w' sv,iw zh w' (w.heap.size+2) sv (seen++lhs.take m)->Calls Tryz.prog 43 #[sv,.string lhs[m]] w' fun e w''=>e=.returned (.bool (inB (seen++lhs.take m) lhs[m]))∧w''=w'):=fun w' sv ho=>abl _ sv lhs[m] w' (ho.at (R:=Cc) (fun z hz=>⟨rfl,by
          have hn:nameB z=true:=by
           rcases List.mem_append.1 hz with h|h
           ·exact a1y z h
           ·exact uh a1x z (List.mem_of_mem_take h)
          have:=Vz hn
          unfold Len
          omega⟩) (by show (seen++lhs.take m).length*16<=_;omega))
         have Nk:Hid (Oz vs x.ins.length seen lhs m=true->RR=(4,(k:Int))):=fun h=>by
          have hec:ec=4:=by rw[uh HEA,first_some Aj h];rfl
          rw[uh HRK (by rw[hec];rfl),hec]
         have U7:Hid (Oz vs x.ins.length seen lhs m=false->∀q,q<m+1->Oz vs x.ins.length seen lhs q=false):=fun h q hq=>by
          by_cases e:q=m
          ·subst e;exact h
          ·exact uh ayb q (by omega)
         rw[uh HLA] at Nk U7
         have ahe:(m:Int)<(lhs.length:Int):=by omega
         have hbz:bs<wc.heap.size:=Nat.lt_of_lt_of_le hbs (uh jy _ Di).size
         clear ayc Yw Yx hal HLA Ub Di hbe
         generalize inB (seen++lhs.take m) lhs[m]=ib at *
         generalize jg vs lhs[m]=lv at *
         generalize V3:uq vs lhs[m]=li at *
         clear V3
         generalize lhs[m]=nm at *
         generalize seen++lhs.take m=ys at *
         obtain⟨aM,cM,rfl⟩:=(uh U8).slice
         go_wp2_with fail
         refine(uh HC).mono ?_
         rintro e w3 ⟨cl3,rfl,U3,hb3⟩
         obtain⟨a3,c3',rfl⟩:=U3.shape
         have hb4:Below wc.heap.size wc (w3.alloc (.cells #[.string lv.name,.int .i64 lv.type,.slice a3 lv.clock.length c3'] 68)):=hb3.alloc hb3.size _
         have HB4:=hide hb4
         have aii:=uh Bq _ _ (uh aie) hb4
         have am8:=hide aii
         have hsz3:wc.heap.size<=w3.heap.size:=hb3.size
         have hw1:w.heap.size<w3.heap.size:=by omega
         have hw2:w.heap.size+1<w3.heap.size:=by omega
         have aij:=uh Bq _ _ (uh aie) hb3
         clear q0 q1 q2 q3 q4 q5 e0
         obtain⟨q0,q1,q2,q3,q4,q5⟩:=uh Bf w3 aij
         have HI4:=hide (uh ayd _ _ ((uh U8).below hb4))
         clear hb3 U3 hb4 aii aij HC ayd
         by_cases hl0:li<(x.ins.length:Int)
         ·have d1:decide (li<(x.ins.length:Int))=true:=decide_eq_true hl0
          have HR:=hide (uh Nk (by rw[d1,Bool.true_or]))
          have HF:=hide (uh jy _ (uh am8))
          clear Nk U7
          go_wp2
          refine bodyPost_ret (v:=.tuple #[.int .i64 4,.int .i64 (k:Int)]) (by simp[results,Tryz.results38,go_sem]) rfl ?_
          exact⟨Fz (uh HR),uh HF⟩
         have d1:decide (li<(x.ins.length:Int))=false:=decide_eq_false hl0
         rw[d1,Bool.false_or] at Nk U7
         clear hl0
         cases ib
         case true =>
          have HR:=hide (uh Nk rfl)
          have HF:=hide (uh jy _ (uh am8))
          clear Nk U7
          go_wp2_with fail
          refine(uh HI4).mono ?_
          rintro e w5 ⟨rfl,h5⟩
          obtain rfl:=h5.symm
          go_wp2
          refine bodyPost_ret (v:=.tuple #[.int .i64 4,.int .i64 (k:Int)]) (by simp[results,Tryz.results38,go_sem]) rfl ?_
          exact⟨Fz (uh HR),uh HF⟩
         have HN4:=hide (uh U7 rfl)
         clear Nk U7
         go_wp2_with fail
         refine(uh HI4).mono ?_
         rintro e w5 ⟨rfl,h5⟩
         obtain rfl:=h5.symm
         clear h5 q0 q1 q2 q3 q4 q5
         generalize w3.alloc (.cells #[.string lv.name,.int .i64 lv.type,.slice a3 lv.clock.length c3'] 68)=w5 at HB4 am8 ⊢
         have am9:Below wc.heap.size wc (w5.alloc (.cells #[.string nm] 9)):=(uh HB4).alloc (uh HB4).size _
         have W9:=hide ((uh U8).below am9)
         have HXA:=hide (uh Bq _ _ (uh aie) am9)
         have aye:=hide ((uh am7).below am9 (uh am7).lt)
         have hs5:=uh Vu _ (uh am8)
         clear am9
         go_wp2_with (at_builtin;go_must (refine Du zh _ rfl _ _ rfl (w.heap.size+2) _ ys rfl (uh W9) w5.heap.size nm rfl (fun j u hu=>by rw[World.cell?_alloc_at _ _ _ _ rfl];simpa[zh] using hu) (by simp[zh];omega) (by simp;omega) ?_))
         intro v9 w9 Jp Ku
         have HO9:=hide Jp
         have HX9:=hide (uh HX3 _ _ _ _ (uh HXA) (uh W9) Ku)
         have V5:=hide ((uh aye).grown Ku ((uh W9).ax5 (uh aye) (by decide)))
         clear Jp Ku
         go_wp2
         go_roundg (lhs.length-(m+1))
         case measure=>have:=uh Hy;omega
         case rel=>exact⟨m+1,by omega,rfl,by go_num,by rw[uh HTK];exact uh HO9,uh HN4,uh HX9,uh V5⟩
        ·have e:m=lhs.length:=by omega
         subst e
         have hec:ec=ef:=by rw[uh HEA,zk (uh ayb)];rfl
         have hO:=uh U8
         rw[List.take_length,←uh HSS] at hO
         have HOF:=hide hO
         have HC:=hide (uh HEC wc (uh jy _ Di))
         have u0:=hbe.cell (i:=0) (v:=.slice la lhs.length lc) rfl
         have u1:=hbe.cell (i:=1) (v:=.slice ka e2 kc) rfl
         have u2:=hbe.cell (i:=2) (v:=.string Hw) rfl
         have u3:=hbe.cell (i:=3) (v:=.slice ga e3 gc) rfl
         subst hec
         clear hO Ub Di hbe HEA
         by_cases hf:ec=0
         ·have d1:(ec != 0)=false:=by simp[hf]
          have HN5:=hide (uh HRG d1)
          clear HRK HRG hf
          go_wp2_with fail
          refine(uh HC).mono ?_
          rintro e w6 ⟨rfl,hb6⟩
          have Sr:=uh Bq _ _ (uh aie) hb6
          have ar8:=hide Sr
          have HO6:=hide ((uh HOF).below hb6)
          have aik:=(uh am7).below hb6 (uh am7).lt
          have y0:=aik.cell (i:=0) (v:=.slice la lhs.length lc) rfl
          have y1:=aik.cell (i:=1) (v:=.slice ka e2 kc) rfl
          have y2:=aik.cell (i:=2) (v:=.string Hw) rfl
          have y3:=aik.cell (i:=3) (v:=.slice ga e3 gc) rfl
          have HI6:=hide (uh a1w w6 (uh jy _ Sr))
          clear hb6 Sr aik u0 u1 u2 u3 q0 q1 q2 q3 q4 q5
          go_wp2_with fail
          refine(uh HI6).mono ?_
          rintro e w7 ⟨rfl,hb7⟩
          have HO7:=hide ((uh HO6).below hb7)
          have ar9:=hide (uh Bq _ _ (uh ar8) hb7)
          clear hb7 y0 y1 y2 y3
          go_wp2
          go_roundg (x.eqs.length-(k+1))
          case measure=>have:=uh Jg;omega
          case rel=>exact⟨k+1,by omega,rfl,by go_num,int_eq (by rw[uh HIS];omega),uh HO7,uh HN5,uh ar9⟩
         ·have d1:(ec != 0)=true:=by simp[hf]
          have HR:=hide (uh HRK d1)
          clear HRK HRG hf
          go_wp2_with fail
          refine(uh HC).mono ?_
          rintro e w6 ⟨rfl,hb6⟩
          have HF:=hide (uh jy _ (uh Bq _ _ (uh aie) hb6))
          clear hb6
          go_wp2
          refine bodyPost_ret (v:=.tuple #[.int .i64 ec,.int .i64 (k:Int)]) (by simp[results,Tryz.results38,go_sem]) rfl ?_
          exact⟨Fz (uh HR),uh HF⟩
      ·have e:k=x.eqs.length:=by omega
       subst e
       have HR4:=hide (uh apt (zk (uh am6)))
       clear aps apt am6
       obtain⟨aS,cS,rfl⟩:=(uh HOW).slice
       generalize (wu x.eqs x.eqs.length).length=sl at *
       generalize wo x.eqs x.eqs.length=it0 at *
       have HC:=hide (uh a1t wa (uh jy _ hbx))
       clear HOW hbx
       by_cases hA:sl=x.outs.length+x.vars.length
       case neg =>
        have hR:=uh HR4
        rw[if_pos hA] at hR
        have HR:=hide hR
        have d1:((sl:Int) != (x.outs.length:Int)+(x.vars.length:Int))=true:=by simp;omega
        have HFn:Hid (∀n,Below w.heap.size w (wa.drewN n)):=fun n=>⟨(uh jy _ (uh ac4)).os,(uh jy _ (uh ac4)).tape,(uh jy _ (uh ac4)).output,(uh jy _ (uh ac4)).size,(uh jy _ (uh ac4)).block⟩
        clear hR HR4 hA
        go_wp2_with fail
        go_quiet ((fail))
        go_wp2
        refine bodyPost_ret (v:=.tuple #[.int .i64 4,.int .i64 (x.eqs.length:Int)]) (by simp[results,Tryz.results38,go_sem]) rfl ?_
        exact⟨Fz (uh HR),uh HFn _⟩
       have hR:=uh HR4
       rw[if_neg (by simpa using hA)] at hR
       have Us:=hide hR
       have d1:((sl:Int) != (x.outs.length:Int)+(x.vars.length:Int))=false:=by simp;omega
       clear hR HR4 hA
       cases hcy:Om x
       case true =>
        rw[hcy] at Us HC
        have HR:Hid (RR=(8,0)):=(uh Us).trans (by rw[if_pos rfl])
        clear Us hcy
        go_wp2_with fail
        refine(uh HC).mono ?_
        rintro e w6 ⟨rfl,hb6⟩
        have HF:=hide (uh jy _ (uh Bq _ _ (uh ac4) hb6))
        clear hb6
        go_wp2
        refine bodyPost_ret (v:=.tuple #[.int .i64 8,.int .i64 0]) (by simp[results,Tryz.results38,go_sem]) rfl ?_
        exact⟨Fz (uh HR),uh HF⟩
       rw[hcy] at Us HC
       have HR6:Hid (RR=if 20000<(jl ns ns.length).getD i 0∨500<vs.length+it0∨500<x.eqs.length+it0 then (9,0) else (0,0)):=(uh Us).trans (by rw[if_neg (by simp)])
       clear Us hcy
       go_wp2_with fail
       refine(uh HC).mono ?_
       rintro e w6 ⟨rfl,hb6⟩
       have Sr:=uh Bq _ _ (uh ac4) hb6
       have ar8:=hide Sr
       have HW6:=hide (uh HWS w6 (uh jy _ Sr))
       clear q0 q1 q2 q3 q4 q5 HC
       obtain⟨q0,q1,q2,q3,q4,q5⟩:=uh Bf w6 Sr
       clear hb6 Sr
       go_wp2_with fail
       refine(uh HW6).mono ?_
       rintro e w7 ⟨vw,rfl,hSw,hb7⟩
       have Iz:=uh Bq _ _ (uh ar8) hb7
       have HF:=hide (uh jy _ Iz)
       have hwl:=Ig ns ns.length
       obtain⟨bw,ow,cw,hvw,hbw,csw,_,ayf,rfl,_⟩:=hSw.at' i (by rw[hwl];exact hi)
       have z0:=ayf 0 (by simp)
       simp only[List.getElem_cons_zero,Nat.add_zero,Nat.mul_one] at z0
       rw[hwl] at hvw
       have HGD:(jl ns ns.length).getD i 0=(jl ns ns.length)[i]'(by rw[hwl];exact hi):=by simp[List.getD,hwl,hi]
       rw[HGD] at HR6
       clear HGD
       generalize (jl ns ns.length)[i]'(by rw[hwl];exact hi)=wt at *
       subst hvw
       clear q0 q1 q2 q3 q4 q5
       obtain⟨q0,q1,q2,q3,q4,q5⟩:=uh Bf w7 Iz
       clear hSw ayf hwl hb7 Iz HW6
       have ana:vs.length<=500:=hvl
       by_cases hW:20000<wt
       ·have e1:decide (20000<wt)=true:=decide_eq_true hW
        have HR:Hid (RR=(9,0)):=(uh HR6).trans (by rw[if_pos (Or.inl hW)])
        clear HR6
        go_wp2
        refine bodyPost_ret (v:=.tuple #[.int .i64 9,.int .i64 0]) (by simp[results,Tryz.results38,go_sem]) rfl ?_
        exact⟨Fz (uh HR),uh HF⟩
       have e1:decide (20000<wt)=false:=decide_eq_false hW
       by_cases hV:500<vs.length+it0
       ·have e2:decide ((500:Int)<(vs.length:Int)+(it0:Int))=true:=decide_eq_true (by omega)
        have HR:Hid (RR=(9,0)):=(uh HR6).trans (by rw[if_pos (Or.inr (Or.inl hV))])
        clear HR6
        go_wp2
        refine bodyPost_ret (v:=.tuple #[.int .i64 9,.int .i64 0]) (by simp[results,Tryz.results38,go_sem]) rfl ?_
        exact⟨Fz (uh HR),uh HF⟩
       have e2:decide ((500:Int)<(vs.length:Int)+(it0:Int))=false:=decide_eq_false (by omega)
       by_cases hE:500<x.eqs.length+it0
       ·have e3:decide ((500:Int)<(x.eqs.length:Int)+(it0:Int))=true:=decide_eq_true (by omega)
        have HR:Hid (RR=(9,0)):=(uh HR6).trans (by rw[if_pos (Or.inr (Or.inr hE))])
        clear HR6
        go_wp2
        refine bodyPost_ret (v:=.tuple #[.int .i64 9,.int .i64 0]) (by simp[results,Tryz.results38,go_sem]) rfl ?_
        exact⟨Fz (uh HR),uh HF⟩
       ·have e3:decide ((500:Int)<(x.eqs.length:Int)+(it0:Int))=false:=decide_eq_false (by omega)
        have HR:Hid (RR=(0,0)):=(uh HR6).trans (by rw[if_neg (by rintro(h|h|h);exact hW h;exact hV h;exact hE h)])
        clear HR6
        go_wp2
        refine bodyPost_ret (v:=.tuple #[.int .i64 0,.int .i64 0]) (by simp[results,Tryz.results38,go_sem]) rfl ?_
        exact⟨Fz (uh HR),uh HF⟩
end Go.Proofs.YtflcnhfakcgkeaaGreat
