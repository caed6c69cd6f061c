import Derived.Test.YtlcgnbcgmljpaaaGreatM8
namespace Go.Proofs.YtlcgnbcgmljpaaaGreat
open Go.RowKit
set_option linter.unusedSimpArgs false
set_option linter.unusedVariables false
def J8 (l:List Int) (n:Nat) (insts:List Int):Nat->Int
 | 0=>n
 | q+1=>J8 l n insts q+l.getD (insts.getD q 0).toNat 0
def Ph (n:Int):Int:=if 20000<n then 20001 else n
def Aq (ks:List ak):Nat->List Int
 | 0=>[]
 | k+1=>Aq ks k++[match ks[k]? with|some x=>Ph (J8 (Aq ks k) x.aj.length x.insts x.insts.length)|none=>0]
theorem Fe (ks:List ak) (k:Nat):(Aq ks k).length=k:=by
 induction k with
 | zero=>rfl
 | succ k ih=>rw[Aq,List.length_append,ih];rfl
theorem Pz (l:List Int) (B:Int) (hB:0<=B) (h:∀x,x∈l->0<=x∧x<=B) (i:Nat):0<=l.getD i 0∧l.getD i 0<=B:=by
 rw[List.getD_eq_getElem?_getD]
 cases e:l[i]? with
 | none=>exact⟨Int.le_refl _,hB⟩
 | some x=>exact h x (List.mem_of_getElem? e)
theorem al1 (l:List Int) (n:Nat) (insts:List Int) (h:∀x,x∈l->0<=x∧x<=20001) (q:Nat):0<=J8 l n insts q∧J8 l n insts q<=n+q*20001:=by
 induction q with
 | zero=>simp only[J8];omega
 | succ q ih =>
  have:=Pz l 20001 (by omega) h (insts.getD q 0).toNat
  simp only[J8]
  omega
theorem aw9 (n:Int) (h:0<=n):0<=Ph n∧Ph n<=20001:=by
 unfold Ph
 split<;>omega
theorem aql (ks:List ak) (k:Nat):∀x,x∈Aq ks k->0<=x∧x<=20001:=by
 induction k with
 | zero=>intro x h;simp[Aq] at h
 | succ k ih =>
  intro x h
  rw[Aq,List.mem_append,List.mem_singleton] at h
  rcases h with h|rfl
  ·exact ih x h
  ·cases ks[k]? with
   | none=>simp
   | some y=>exact aw9 _ (al1 _ _ _ ih _).1
theorem anz (ks:List ak) (k:ak) (s:dh) (a1 a2 a3 a4 a5 a6 mv ov cv av:Value) (w:World) (hm:bf 7 160 ni 0 w mv ks) (h:F7 w k a1 a2 a3 a4 a5 a6) (h1:bf 1 16 uz 0 w ov s.outs) (h2:bf 3 32 tu 0 w cv s.code) (h3:bf 1 24 vw 0 w av s.args)
  (hin:∀j (hj:j<k.insts.length),0<=k.insts[j]∧k.insts[j]<ks.length) :
  Calls Tryz.prog 50 #[.agg #[mv],.agg #[.string k.name,a1,a2,a3,a4,a5,a6],.agg #[.int .i64 s.kind,.string s.name,.int .i64 s.at_,ov,cv,av]] w (Ans (.bool (ny ks k s)) w):=by
 obtain⟨kd,nm,eu,outs,code,args⟩:=s
 simp only at h1 h2 h3 ⊢
 by_cases e1:kd=1
 ·subst e1;exact an5 ks k nm eu outs code args a1 a2 a3 a4 a5 a6 mv ov cv av w hm h h1 h2 h3 hin
 by_cases e2:kd=2
 ·subst e2;exact an7 ks k nm eu outs code args a1 a2 a3 a4 a5 a6 mv ov cv av w hm h h1 h2 h3 hin
 by_cases e3:kd=3
 ·subst e3;exact an9 ks k nm eu outs code args a1 a2 a3 a4 a5 a6 mv ov cv av w hm h h1 h2 h3 hin
 by_cases e4:kd=4
 ·subst e4;exact an8 ks k nm eu outs code args a1 a2 a3 a4 a5 a6 mv ov cv av w hm h h1 h2 h3 hin
 by_cases e5:kd=5
 ·subst e5;exact an3 ks k nm eu outs code args a1 a2 a3 a4 a5 a6 mv ov cv av w hm h h1 h2 h3 hin
 by_cases e6:kd=6
 ·subst e6;exact an4 ks k nm eu outs code args a1 a2 a3 a4 a5 a6 mv ov cv av w hm h h1 h2 h3 hin
 exact ahj ks k nm eu outs code args kd ⟨e1,e2,e3,e4,e5,e6⟩ a1 a2 a3 a4 a5 a6 mv ov cv av w hm h h1 h2 h3 hin
def aev (ks:List ak):Prop:=∀i (hi:i<ks.length),ks[i].aj.length<=1000∧ks[i].insts.length<=1000∧∀q (hq:q<ks[i].insts.length),0<=ks[i].insts[q]∧ks[i].insts[q]<(i:Int)
set_option maxRecDepth 20000 in
set_option maxHeartbeats 4000000 in
theorem anx (ks:List ak) (v:Value) (w:World) (h1:bf 7 160 ni 0 w v ks) (hio:aev ks) (hnn:ks.length<=200) :
  Calls Tryz.prog 24 #[.agg #[v]] w fun e w'=>∃v,e=.returned v∧bf 1 8 yu 0 w' v (Aq ks ks.length)∧Below w.heap.size w w':=by
 obtain⟨b0,c0,rfl⟩:=h1.shape
 obtain⟨_,_,hv0,_,_,hx⟩:=h1
 simp only[Value.slice.injEq] at hv0
 obtain⟨rfl,_,rfl⟩:=hv0
 have HX:=hide hx
 have HIO:=hide hio
 clear hx hio
 have P0:=hide ((Below.refl w.heap.size w).alloc (Nat.le_refl _) (.cells #[.slice b0 ks.length c0] 28))
 have O0:Hid (zk ((w.alloc (.cells #[.slice b0 ks.length c0] 28)).alloc (.cells #[] 3)) (w.heap.size+1) (w.heap.size+1) 0 []):=by
  have:=zk.start (w.alloc (.cells #[.slice b0 ks.length c0] 28)) (w.heap.size+1) (by simp)
  show zk _ _ _ _ _
  simpa using this
 go_enter Tryz.func24,Tryz.ntmps24
 go_wp2
 go_loopg [3,13] ks.length (fun gh wv i wr=>∃(k g cap:Nat),k<=ks.length∧gh=ks.length-k∧i=.int .i64 k∧wv=.slice (some ⟨g,0,none⟩) k cap∧zk wr (w.heap.size+1) g cap (Aq ks k)∧Below (w.heap.size+1) (w.alloc (.cells #[.slice b0 ks.length c0] 28)) wr)
 case atStart=>exact⟨0,w.heap.size+1,0,Nat.zero_le _,by omega,rfl,rfl,uh O0,(Below.refl _ _).alloc (by simp) _⟩
 case round =>
  obtain⟨k,g,cap,hk,hg,rfl,rfl,hown,aac⟩:=hrel
  rename World=>wN
  have HG:=hide hg
  have HOW:=hide hown
  have Ld:=hide aac
  have BN:Hid (Below w.heap.size w wN):=(uh P0).trans (aac.mono (Nat.le_succ _))
  have hgN:=hown.lt
  have hgb:=hown.base
  have hNs:w.heap.size+1<=wN.heap.size:=by have:=aac.size;simpa using this
  have Ie:=hide (Fe ks k)
  have HBD:=hide (aql ks k)
  have HD:=hide (hown.at (fun x hx=>by have:=aql ks k x hx;exact⟨rfl,by omega,by omega⟩) (by rw[Fe];omega))
  clear hg hown aac
  by_cases hlt:k<ks.length
  case neg =>
   have e:k=ks.length:=by omega
   subst e
   go_wp2
   go_ret
   refine⟨_,rfl,?_,uh BN⟩
   have:=uh HD
   rw[uh Ie] at this
   exact this
  obtain⟨b,o,cs,ql,_,hb,hcs,hc,hR⟩:=uh HX k hlt
  subst ql
  have hR:=jm.stays _ _ _ _ _ (uh BN) hR
  have hc:∀j (hj:j<cs.length),wN.cell? ⟨b,o+k*7+j,none⟩=some cs[j]:=fun j hj=>by rw[(uh BN).cell (p:=⟨b,_,none⟩) hb];exact hc j hj
  obtain⟨hm9,hi9,hin⟩:=uh HIO k hlt
  have aoa:Hid (Aq ks (k+1)=Aq ks k++[Ph (J8 (Aq ks k) ks[k].aj.length ks[k].insts ks[k].insts.length)]):=by
   show Aq ks (k+1)=_
   rw[Aq,List.getElem?_eq_getElem hlt]
  generalize ks[k]=nd at *
  obtain⟨s,ins,outs,ay,aj,insts,body⟩:=nd
  obtain⟨v1,v2,v3,v4,v5,v6,rfl,hsn,q1,q2,q3,q4,q5,q6⟩:=hR
  simp only at hsn q1 q2 q3 q4 q5 q6 hm9 hi9 hin
  obtain⟨b1,c1,rfl⟩:=q1.shape
  obtain⟨b2,c2,rfl⟩:=q2.shape
  obtain⟨b3,c3,rfl⟩:=q3.shape
  obtain⟨b4,c4,rfl⟩:=q4.shape
  obtain⟨b5,c5,rfl⟩:=q5.shape
  obtain⟨b6,c6,rfl⟩:=q6.shape
  have Ig:Hid (∀q (hq:q<insts.length),∃ib io gi,b5=some ⟨ib,io,none⟩∧gi<k∧insts[q]=((gi:Nat):Int)∧∀w',Below wN.heap.size wN w'->w'.cell? ⟨ib,io+q,none⟩=some (.int .i64 (gi:Int))∧w'.cell? ⟨g,gi,none⟩=some (.int .i64 ((Aq ks k).getD gi 0))):=fun q hq=>by
   obtain⟨_,_,X0,_,_,hex⟩:=q5
   simp only[Value.slice.injEq] at X0
   obtain⟨rfl,_,rfl⟩:=X0
   obtain⟨ib,io,cs,rfl,_,hib,_,hic,⟨rfl,_⟩⟩:=hex q hq
   obtain⟨gi,hgi⟩:=Int.eq_ofNat_of_zero_le (hin q hq).1
   have hgk:gi<k:=by have:=(hin q hq).2;omega
   refine⟨ib,io,gi,rfl,hgk,hgi,fun w' hb'=>⟨?_,?_⟩⟩
   ·rw[hb'.cell (p:=⟨ib,_,none⟩) hib]
    have h0:=hic 0 (by simp)
    rw[Nat.mul_one,Nat.add_zero] at h0
    rw[h0,←hgi]
    rfl
   ·obtain⟨a8,c8,hv8,_,_,hx8⟩:=uh HD
    simp only[Value.slice.injEq] at hv8
    obtain⟨rfl,_,rfl⟩:=hv8
    obtain⟨jb,jo,js,hjb,_,hjl,_,hjc,⟨rfl,_⟩⟩:=hx8 gi (by rw[uh Ie];exact hgk)
    simp only[Option.some.injEq,Addr.mk.injEq] at hjb
    obtain⟨rfl,rfl,_⟩:=hjb
    rw[hb'.cell (p:=⟨g,_,none⟩) hjl]
    have h0:=hjc 0 (by simp)
    rw[Nat.mul_one,Nat.add_zero,Nat.zero_add] at h0
    rw[h0,List.getD_eq_getElem?_getD,List.getElem?_eq_getElem (by rw[uh Ie];exact hgk)]
    rfl
  have y0:=hc 0 (by simp)
  have y1:=hc 1 (by simp)
  have y2:=hc 2 (by simp)
  have y3:=hc 3 (by simp)
  have y4:=hc 4 (by simp)
  have y5:=hc 5 (by simp)
  have y6:=hc 6 (by simp)
  simp only[Nat.mul_one,Nat.add_zero,List.getElem_cons_zero,List.getElem_cons_succ] at y0 y1 y2 y3 y4 y5 y6
  simp only at aoa
  clear q1 q2 q3 q4 q5 q6 hc hcs hin HD HX
  have HSB:=hide (fun q=>al1 (Aq ks k) aj.length insts (uh HBD) q)
  go_wp2
  go_loopg [6,23] insts.length (fun gh n i wr=>∃(q:Nat),q<=insts.length∧gh=insts.length-q∧i=.int .i64 q∧n=.int .i64 (J8 (Aq ks k) aj.length insts q)∧wr=wN.alloc (.cells #[.string s,.slice b1 ins.length c1,.slice b2 outs.length c2,.slice b3 ay.length c3,.slice b4 aj.length c4,.slice b5 insts.length c5,.slice b6 body.length c6] 43))
  case atStart=>exact⟨0,Nat.zero_le _,by omega,rfl,rfl,rfl⟩
  case round =>
   obtain⟨q,hq,hg2,rfl,rfl,hwr⟩:=hrel
   have HG2:=hide hg2
   have hba:Below wN.heap.size wN (wN.alloc (.cells #[.string s,.slice b1 ins.length c1,.slice b2 outs.length c2,.slice b3 ay.length c3,.slice b4 aj.length c4,.slice b5 insts.length c5,.slice b6 body.length c6] 43)):=(Below.refl _ _).alloc (Nat.le_refl _) _
   have hz:(wN.alloc (.cells #[.string s,.slice b1 ins.length c1,.slice b2 outs.length c2,.slice b3 ay.length c3,.slice b4 aj.length c4,.slice b5 insts.length c5,.slice b6 body.length c6] 43)).heap.size=wN.heap.size+1:=by simp
   rw[←hwr] at hba hz
   rename World=>wq
   have Ip:=hide hba
   have HWR:Hid (wq=wN.alloc (.cells #[.string s,.slice b1 ins.length c1,.slice b2 outs.length c2,.slice b3 ay.length c3,.slice b4 aj.length c4,.slice b5 insts.length c5,.slice b6 body.length c6] 43)):=hwr
   clear hg2 hwr y0 y1 y2 y3 y4 y5 y6
   obtain⟨hs1,hs2⟩:=uh HSB q
   by_cases az9:q<insts.length
   case neg =>
    have e:q=insts.length:=by omega
    have Eb:Hid (Aq ks (k+1)=Aq ks k++[Ph (J8 (Aq ks k) aj.length insts q)]):=by
     show Aq ks (k+1)=_
     rw[uh aoa,e]
    have HQ:=hide ((uh Ld).trans (hba.mono hNs))
    have HOQ:=hide ((uh HOW).below hba)
    clear aoa hba Ig
    generalize J8 (Aq ks k) aj.length insts q=sm at *
    by_cases hgt:20000<sm
    ·have f1:decide (20000<sm)=true:=decide_eq_true hgt
     have e9:Ph sm=20001:=by unfold Ph;rw[if_pos hgt]
     rw[e9] at Eb
     have ai9:Hid (zk (wq.alloc (.cells #[.int .i64 20001] 3)) (w.heap.size+1) g cap (Aq ks k)):=(uh HOQ).below ((Below.refl _ _).alloc (Nat.le_refl _) _)
     have Po:Hid (Below (w.heap.size+1) _ (wq.alloc (.cells #[.int .i64 20001] 3))):=(uh HQ).trans ((Below.refl _ _).alloc (by omega) _)
     have HZ:=hide hz
     clear e9 hgt e hz
     go_wp2_with (at_builtin;go_must (refine I8 _ rfl _ _ rfl (w.heap.size+1) g cap (Aq ks k) (by rw[uh Ie];rfl) (uh ai9) wq.heap.size 20001 rfl (by rw[World.cell?_alloc_at _ _ _ _ rfl];rfl) (by rw[uh Ie];omega) (by have:=uh HZ;simp;omega) ?_))
     intro g' cap' w7 Ed Le
     have B7:=Np (uh Po) Le (by have:=uh HZ;simp;omega) hgb
     rw[←uh Eb] at Ed
     have V9:=hide Ed
     have Wh:=hide B7
     rw[uh Ie]
     clear Ed Le B7
     go_wp2
     go_roundg (ks.length-(k+1))
     case measure=>have:=uh HG;omega
     case rel=>exact⟨k+1,g',cap',by omega,rfl,by go_num,rfl,uh V9,uh Wh⟩
    ·have f1:decide (20000<sm)=false:=decide_eq_false hgt
     have e9:Ph sm=sm:=by unfold Ph;rw[if_neg hgt]
     rw[e9] at Eb
     have ai9:Hid (zk (wq.alloc (.cells #[.int .i64 sm] 3)) (w.heap.size+1) g cap (Aq ks k)):=(uh HOQ).below ((Below.refl _ _).alloc (Nat.le_refl _) _)
     have Po:Hid (Below (w.heap.size+1) _ (wq.alloc (.cells #[.int .i64 sm] 3))):=(uh HQ).trans ((Below.refl _ _).alloc (by omega) _)
     have HZ:=hide hz
     clear e9 hgt e hz
     go_wp2_with (at_builtin;go_must (refine I8 _ rfl _ _ rfl (w.heap.size+1) g cap (Aq ks k) (by rw[uh Ie];rfl) (uh ai9) wq.heap.size sm rfl (by rw[World.cell?_alloc_at _ _ _ _ rfl];rfl) (by rw[uh Ie];omega) (by have:=uh HZ;simp;omega) ?_))
     intro g' cap' w7 Ed Le
     have B7:=Np (uh Po) Le (by have:=uh HZ;simp;omega) hgb
     rw[←uh Eb] at Ed
     have V9:=hide Ed
     have Wh:=hide B7
     rw[uh Ie]
     clear Ed Le B7
     go_wp2
     go_roundg (ks.length-(k+1))
     case measure=>have:=uh HG;omega
     case rel=>exact⟨k+1,g',cap',by omega,rfl,by go_num,rfl,uh V9,uh Wh⟩
   obtain⟨ib,io,gi,rfl,hgk,hgi,a0a⟩:=uh Ig q az9
   obtain⟨z1,z2⟩:=a0a _ hba
   have HST:Hid (J8 (Aq ks k) aj.length insts (q+1)=J8 (Aq ks k) aj.length insts q+(Aq ks k).getD gi 0):=by
    show J8 _ _ _ (q+1)=_
    rw[J8,List.getD_eq_getElem?_getD (l:=insts),List.getElem?_eq_getElem az9,Option.getD_some,hgi,Int.toNat_natCast]
   obtain⟨hg1,hg2⟩:=Pz (Aq ks k) 20001 (by omega) (uh HBD) gi
   have a5l:(q:Int)<(insts.length:Int):=by omega
   have a6j:(gi:Int)<(k:Int):=by omega
   clear a0a hgi Ig hba hz
   generalize (Aq ks k).getD gi 0=gv at *
   generalize hS1:J8 (Aq ks k) aj.length insts q=sm at *
   clear hS1
   go_wp2
   go_roundg (insts.length-(q+1))
   case measure=>have:=uh HG2;omega
   case rel=>exact⟨q+1,by omega,rfl,by go_num,by rw[uh HST],uh HWR⟩
end Go.Proofs.YtlcgnbcgmljpaaaGreat
