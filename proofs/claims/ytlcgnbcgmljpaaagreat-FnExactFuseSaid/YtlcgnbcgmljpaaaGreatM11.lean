import Derived.Test.YtlcgnbcgmljpaaaGreatM10
namespace Go.Proofs.YtlcgnbcgmljpaaaGreat
open Go.RowKit
set_option linter.unusedSimpArgs false
set_option linter.unusedVariables false
def D5 (ks:List ak):Nat->List Int
 | 0=>[]
 | k+1=>D5 ks k++[match ks[k]? with|some x=>sumF (x.body.length+1) (costs x.insts (D5 ks k) x.body)|none=>0]
theorem Gy (ks:List ak) (k:Nat):(D5 ks k).length=k:=by
 induction k with
 | zero=>rfl
 | succ k ih=>rw[D5,List.length_append,ih];rfl
theorem aqf (ks:List ak) (k:Nat):∀x,x∈D5 ks k->0<=x∧x<=400001:=by
 induction k with
 | zero=>intro x h;simp[D5] at h
 | succ k ih =>
  intro x h
  rw[D5,List.mem_append,List.mem_singleton] at h
  rcases h with h|rfl
  ·exact ih x h
  ·cases ks[k]? with
   | none=>simp
   | some y=>exact aft _ _ (adi _ _ _ ih)
def ai8 (ks:List ak):Prop:=∀i (hi:i<ks.length),zi (ks[i].body.length+1) (dn ks[i].body) 0=true∧∀s,s∈ks[i].body->s.kind=3->0<=s.at_∧s.at_<(ks[i].insts.length:Int)
theorem atq (ks:List ak) (h1:aev ks) (h2:ai8 ks) (i:Nat) (hi:i<ks.length):aly ks[i].insts (D5 ks i) ks[i].body:=fun s hs h3=>by
 obtain⟨e1,e2⟩:=(h2 i hi).2 s hs h3
 obtain⟨ia,ha⟩:=Int.eq_ofNat_of_zero_le e1
 have hl:ia<ks[i].insts.length:=by omega
 obtain⟨g1,g2⟩:=(h1 i hi).2.2 ia hl
 obtain⟨gi,hg⟩:=Int.eq_ofNat_of_zero_le g1
 refine⟨ia,gi,ha,hl,?_,by rw[Gy];omega⟩
 rw[List.getD_eq_getElem?_getD,List.getElem?_eq_getElem hl]
 exact hg
set_option maxRecDepth 20000 in
set_option maxHeartbeats 4000000 in
theorem akw (ks:List ak) (v:Value) (w:World) (h1:bf 7 160 ni 0 w v ks) (hio:aev ks) (ql:ai8 ks) (hnn:ks.length<=200) :
  Calls Tryz.prog 25 #[.agg #[v]] w fun e w'=>∃v,e=.returned v∧bf 1 8 yu 0 w' v (D5 ks ks.length)∧Below w.heap.size w w':=by
 obtain⟨b0,c0,rfl⟩:=h1.shape
 obtain⟨_,_,hv0,_,_,hx⟩:=h1
 simp only[Value.slice.injEq] at hv0
 obtain⟨rfl,_,rfl⟩:=hv0
 have HX:=hide hx
 have HCK:=hide (atq ks hio ql)
 have Wu:=hide ql
 clear hx hio ql
 have P0:=hide ((Below.refl w.heap.size w).alloc (Nat.le_refl _) (.cells #[.slice b0 ks.length c0] 28))
 have O0:Hid (zk ((w.alloc (.cells #[.slice b0 ks.length c0] 28)).alloc (.cells #[] 3)) (w.heap.size+1) (w.heap.size+1) 0 []):=by
  have:=zk.start (w.alloc (.cells #[.slice b0 ks.length c0] 28)) (w.heap.size+1) (by simp)
  show zk _ _ _ _ _
  simpa using this
 go_enter Tryz.func25,Tryz.ntmps25
 go_wp2
 go_loopg [3,10] ks.length (fun gh wv i wr=>∃(k g cap:Nat),k<=ks.length∧gh=ks.length-k∧i=.int .i64 k∧wv=.slice (some ⟨g,0,none⟩) k cap∧zk wr (w.heap.size+1) g cap (D5 ks k)∧Below (w.heap.size+1) (w.alloc (.cells #[.slice b0 ks.length c0] 28)) wr)
 case atStart=>exact⟨0,w.heap.size+1,0,Nat.zero_le _,by omega,rfl,rfl,uh O0,(Below.refl _ _).alloc (by simp) _⟩
 case round =>
  obtain⟨k,g,cap,hk,hg,rfl,rfl,hown,aac⟩:=hrel
  rename World=>wN
  have HG:=hide hg
  have HOW:=hide hown
  have Ld:=hide aac
  have BN:Hid (Below w.heap.size w wN):=(uh P0).trans (aac.mono (Nat.le_succ _))
  have hgN:=hown.lt
  have hgb:=hown.base
  have hNs:w.heap.size+1<=wN.heap.size:=by have:=aac.size;simpa using this
  have Ie:=hide (Gy ks k)
  have HBD:=hide (aqf ks k)
  have HD:=hide (hown.at (fun x hx=>by have:=aqf ks k x hx;exact⟨rfl,by omega,by omega⟩) (by rw[Gy];omega))
  clear hg hown aac
  by_cases hlt:k<ks.length
  case neg =>
   have e:k=ks.length:=by omega
   subst e
   go_wp2
   go_ret
   refine⟨_,rfl,?_,uh BN⟩
   have:=uh HD
   rw[uh Ie] at this
   exact this
  obtain⟨b,o,cs,ql,_,hb,hcs,hc,hR⟩:=uh HX k hlt
  subst ql
  have hR:=jm.stays _ _ _ _ _ (uh BN) hR
  have hc:∀j (hj:j<cs.length),wN.cell? ⟨b,o+k*7+j,none⟩=some cs[j]:=fun j hj=>by rw[(uh BN).cell (p:=⟨b,_,none⟩) hb];exact hc j hj
  have Oi:=hide (uh HCK k hlt)
  have HNE:=hide (uh Wu k hlt).1
  have Eb:Hid (D5 ks (k+1)=D5 ks k++[sumF (ks[k].body.length+1) (costs ks[k].insts (D5 ks k) ks[k].body)]):=by
   show D5 ks (k+1)=_
   rw[D5,List.getElem?_eq_getElem hlt]
  have hsb:=aft (ks[k].body.length+1) (costs ks[k].insts (D5 ks k) ks[k].body) (adi _ _ _ (uh HBD))
  generalize ks[k]=nd at *
  obtain⟨s,ins,outs,ay,aj,insts,body⟩:=nd
  obtain⟨v1,v2,v3,v4,v5,v6,rfl,hsn,q1,q2,q3,q4,q5,q6⟩:=hR
  simp only at hsn q1 q2 q3 q4 q5 q6 Oi HNE Eb hsb
  obtain⟨b1,c1,rfl⟩:=q1.shape
  obtain⟨b2,c2,rfl⟩:=q2.shape
  obtain⟨b3,c3,rfl⟩:=q3.shape
  obtain⟨b4,c4,rfl⟩:=q4.shape
  obtain⟨b5,c5,rfl⟩:=q5.shape
  obtain⟨b6,c6,rfl⟩:=q6.shape
  have y0:=hc 0 (by simp)
  have y1:=hc 1 (by simp)
  have y2:=hc 2 (by simp)
  have y3:=hc 3 (by simp)
  have y4:=hc 4 (by simp)
  have y5:=hc 5 (by simp)
  have y6:=hc 6 (by simp)
  simp only[Nat.mul_one,Nat.add_zero,List.getElem_cons_zero,List.getElem_cons_succ] at y0 y1 y2 y3 y4 y5 y6
  have HCA:Hid (Calls Tryz.prog 53 #[.agg #[.string s,.slice b1 ins.length c1,.slice b2 outs.length c2,.slice b3 ay.length c3,.slice b4 aj.length c4,.slice b5 insts.length c5,.slice b6 body.length c6],.slice b6 body.length c6,.slice (some ⟨g,0,none⟩) k cap] (wN.alloc (.cells #[.string s,.slice b1 ins.length c1,.slice b2 outs.length c2,.slice b3 ay.length c3,.slice b4 aj.length c4,.slice b5 insts.length c5,.slice b6 body.length c6] 43)) fun e w'=>e=.returned (.int .i64 (sumF (body.length+1) (costs insts (D5 ks k) body)))∧Below wN.heap.size wN w'):=by
   have hba:Below wN.heap.size wN (wN.alloc (.cells #[.string s,.slice b1 ins.length c1,.slice b2 outs.length c2,.slice b3 ay.length c3,.slice b4 aj.length c4,.slice b5 insts.length c5,.slice b6 body.length c6] 43)):=(Below.refl _ _).alloc (Nat.le_refl _) _
   have hk:=(uh HD).stays jy hba
   have h:=ato s insts (D5 ks k) b1 b2 b3 b4 b5 b6 (some ⟨g,0,none⟩) ins.length outs.length ay.length aj.length body.length c1 c2 c3 c4 c5 c6 cap (uh HBD) (body.length+1) body _ 0 _ (q6.stays xu hba) (q5.stays jy hba) hk (uh Oi) (Nat.lt_succ_self _) (uh HNE)
   rw[uh Ie] at h
   refine h.mono ?_
   rintro e w' ⟨rfl,hb'⟩
   exact⟨rfl,hba.trans (hb'.mono (by simp))⟩
  clear q1 q2 q3 q4 q5 q6 hc hcs HD HX Oi HNE HCK Wu
  generalize sumF (body.length+1) (costs insts (D5 ks k) body)=sm at *
  go_wp2_with fail
  refine(uh HCA).mono ?_
  rintro e wq ⟨rfl,hbq⟩
  have hz:=hbq.size
  have HQ:=hide ((uh Ld).trans (hbq.mono hNs))
  have HOQ:=hide ((uh HOW).below hbq)
  have ai9:Hid (zk (wq.alloc (.cells #[.int .i64 sm] 3)) (w.heap.size+1) g cap (D5 ks k)):=(uh HOQ).below ((Below.refl _ _).alloc (Nat.le_refl _) _)
  have Po:Hid (Below (w.heap.size+1) _ (wq.alloc (.cells #[.int .i64 sm] 3))):=(uh HQ).trans ((Below.refl _ _).alloc (by omega) _)
  have HZ:=hide hz
  clear hz hbq HCA y0 y1 y2 y3 y4 y5 y6
  go_wp2_with (at_builtin;go_must (refine I8 _ rfl _ _ rfl (w.heap.size+1) g cap (D5 ks k) (by rw[uh Ie];rfl) (uh ai9) wq.heap.size sm rfl (by rw[World.cell?_alloc_at _ _ _ _ rfl];rfl) (by rw[uh Ie];omega) (by have:=uh HZ;simp;omega) ?_))
  intro g' cap' w7 Ed Le
  have B7:=Np (uh Po) Le (by have:=uh HZ;simp;omega) hgb
  rw[←uh Eb] at Ed
  have V9:=hide Ed
  have Wh:=hide B7
  rw[uh Ie]
  clear Ed Le B7
  go_wp2
  go_roundg (ks.length-(k+1))
  case measure=>have:=uh HG;omega
  case rel=>exact⟨k+1,g',cap',by omega,rfl,by go_num,rfl,uh V9,uh Wh⟩
def Jk (vars:List ByteArray) (i:Nat):Bool:=match vars[i]? with|some x=>!nameB x||decide (iy vars x<(i:Int))|none=>false
def Si (v:Int):Bool:=v == IntKind.i32.wrap v
def Jz (body:List dh) (i:Nat):Bool:=match body[i]? with
 | none=>false
 | some s=>s.kind == 4&&(List.range (je (dn body) i).2.toNat).any (fun j=>decide (i<=j)&&(match body[j]? with|some t=>Oc t s.name|none=>false))
def Bf (ks:List ak) (i:Nat):Bool:=match ks[i]? with
 | none=>false
 | some k=>(nameB k.name&&decide (1<=k.outs.length)&&decide (k.aj.length<=1000)&&decide (k.insts.length<=1000)&&decide (k.body.length<=30000))
  && ((List.range i).all (fun j=>!(match ks[j]? with|some y=>y.name.toList == k.name.toList|none=>false))
  && (decide ((varsOf k).length<=1000)
  && ((List.range (varsOf k).length).all (fun j=>!Jk (varsOf k) j)
  && ((k.ins++k.outs).all (fun t=>decide (1<=t.type∧t.type<=2))
  && (k.aj.all Si
  && (k.insts.all (fun g=>decide (0<=g∧g<(i:Int)))
  && (k.body.all (ny ks k)
  && (zi (k.body.length+1) (dn k.body) 0
  && (List.range k.body.length).all (fun j=>!Jz k.body j)))))))))
def aad (ks:List ak):Bool:=decide (1<=ks.length∧ks.length<=200)&&((List.range ks.length).all (Bf ks)&&((Aq ks ks.length).all (fun n=>decide (n<=20000))&&(D5 ks ks.length).all (fun n=>decide (n<=400000))))
theorem atr (ks:List ak) (k:ak) (s:dh) (h:ny ks k s=true) (h3:s.kind=3):0<=s.at_∧s.at_<(k.insts.length:Int):=by
 have hc:Qx ks k s=true:=by
  unfold ny at h
  rw[h3] at h
  simp only at h
  split at h
  ·cases h
  split at h
  ·rename_i hh;exact absurd rfl hh.2.1
  split at h
  ·rename_i hh;exact absurd rfl hh.1
  split at h
  ·cases h
  simpa using h
 unfold Qx at hc
 split at hc
 ·cases hc
 ·omega
theorem akx (ks:List ak) (h:∀i,i<ks.length->Bf ks i=true):aev ks∧ai8 ks:=by
 have hh:∀i (hi:i<ks.length),(ks[i].aj.length<=1000∧ks[i].insts.length<=1000∧∀q (hq:q<ks[i].insts.length),0<=ks[i].insts[q]∧ks[i].insts[q]<(i:Int))∧zi (ks[i].body.length+1) (dn ks[i].body) 0=true∧∀s,s∈ks[i].body->ny ks ks[i] s=true:=fun i hi=>by
  have h0:=h i hi
  unfold Bf at h0
  rw[List.getElem?_eq_getElem hi] at h0
  simp only[Bool.and_eq_true,List.all_eq_true] at h0
  obtain⟨⟨⟨⟨_,a1⟩,a2⟩,_⟩,_,_,_,_,_,a3,a4,a5,_⟩:=h0
  refine⟨⟨of_decide_eq_true a1,of_decide_eq_true a2,fun q hq=>?_⟩,a5,a4⟩
  have:=a3 ks[i].insts[q] (List.getElem_mem hq)
  exact of_decide_eq_true this
 exact⟨fun i hi=>(hh i hi).1,fun i hi=>⟨(hh i hi).2.1,fun s hs h3=>atr ks ks[i] s ((hh i hi).2.2 s hs) h3⟩⟩
def ags (ks:List ak) (v:Value) (w:World):Prop:=∀i,i<ks.length->∀w',Below w.heap.size w w'->Calls Tryz.prog 23 #[.agg #[v],.int .i64 (i:Int)] w' (Ans (.bool (Bf ks i)) w')
set_option maxRecDepth 20000 in
set_option maxHeartbeats 4000000 in
theorem aja (ks:List ak) (v:Value) (w:World) (hv:bf 7 160 ni 0 w v ks) (hcl:ags ks v w) :
  Calls Tryz.prog 12 #[.agg #[v]] w (Ans (.bool (aad ks)) w):=by
 have HV:=hide hv
 have Oi:=hide hcl
 have hlm:=hv.uy
 obtain⟨b0,c0,rfl⟩:=hv.shape
 clear hv hcl
 have hA:Below w.heap.size w (w.alloc (.cells #[.slice b0 ks.length c0] 28)):=(Below.refl _ _).alloc (Nat.le_refl _) _
 have Kt:au (w.alloc (.cells #[.slice b0 ks.length c0] 28)) w.heap.size 28 #[.slice b0 ks.length c0]:=jl w #[.slice b0 ks.length c0] 28
 obtain⟨BX,gq⟩:∃BX:World->Prop,∀w',BX w'↔Below (w.heap.size+1) (w.alloc (.cells #[.slice b0 ks.length c0] 28)) w':=⟨_,fun _=>Iff.rfl⟩
 have Oq:(w.alloc (.cells #[.slice b0 ks.length c0] 28)).heap.size=w.heap.size+1:=by simp
 have mg:Hid (∀w1,BX w1->Below w.heap.size w w1):=fun w1 h=>hA.trans (((gq w1).1 h).mono (by omega))
 have qp:Hid (∀w1 w2,BX w1->Below w1.heap.size w1 w2->BX w2):=fun w1 w2 h h2=>(gq w2).2 (((gq w1).1 h).trans (h2.mono (by have:=((gq w1).1 h).size;omega)))
 have yg:Hid (∀w1,BX w1->w1.cell? ⟨w.heap.size,0,none⟩=some (.slice b0 ks.length c0)):=fun w1 h=>(Kt.below ((gq w1).1 h) (by omega)).cell (i:=0) (v:=.slice b0 ks.length c0) rfl
 have HX0:Hid (BX (w.alloc (.cells #[.slice b0 ks.length c0] 28))):=(gq _).2 (Below.refl _ _)
 have HA:=hide hA
 clear hA Kt gq Oq
 have HM:Hid (aad ks=(decide (1<=ks.length∧ks.length<=200)&&((List.range ks.length).all (Bf ks)&&((Aq ks ks.length).all (fun n=>decide (n<=20000))&&(D5 ks ks.length).all (fun n=>decide (n<=400000)))))):=rfl
 generalize aad ks=R at *
 by_cases h1:(ks.length:Int)<1
 ·have e1:decide ((ks.length:Int)<1)=true:=decide_eq_true h1
  have HF:Hid (R=false):=(uh HM).trans (by rw[decide_eq_false (by omega),Bool.false_and])
  clear HM
  go_enter Tryz.func12,Tryz.ntmps12
  go_wp2
  go_ret
  exact⟨jf (uh HF).symm,uh HA⟩
 have e1:decide ((ks.length:Int)<1)=false:=decide_eq_false h1
 by_cases h2:200<(ks.length:Int)
 ·have e2:decide (200<(ks.length:Int))=true:=decide_eq_true h2
  have HF:Hid (R=false):=(uh HM).trans (by rw[decide_eq_false (by omega),Bool.false_and])
  clear HM
  go_enter Tryz.func12,Tryz.ntmps12
  go_wp2
  go_ret
  exact⟨jf (uh HF).symm,uh HA⟩
 have e2:decide (200<(ks.length:Int))=false:=decide_eq_false h2
 have HM2:Hid (R=((List.range ks.length).all (Bf ks)&&((Aq ks ks.length).all (fun n=>decide (n<=20000))&&(D5 ks ks.length).all (fun n=>decide (n<=400000))))):=(uh HM).trans (by rw[decide_eq_true ⟨by omega,by omega⟩,Bool.true_and])
 have asg:ks.length<=200:=by omega
 clear HM h1 h2
 go_enter Tryz.func12,Tryz.ntmps12
 go_wp2
 go_loopg [21] ks.length (fun g iv wr=>∃(i:Nat),i<=ks.length∧g=ks.length-i∧iv=.int .i64 i∧(∀j,j<i->Bf ks j=true)∧BX wr)
 case atStart=>exact⟨0,Nat.zero_le _,by omega,rfl,fun j hj=>absurd hj (Nat.not_lt_zero _),uh HX0⟩
 case round =>
  obtain⟨i,hi,hg,rfl,hno,hbx⟩:=hrel
  rename World=>wr
  have HG:=hide hg
  have uw:=hide hno
  have Fa:=hide hbx
  have q0:=uh yg _ hbx
  clear hg hno hbx
  by_cases hlt:i<ks.length
  ·have qg:=hide (uh Oi i hlt wr (uh mg _ (uh Fa)))
   have HN:Hid (Bf ks i=false->R=false):=fun h=>(uh HM2).trans (by rw[show (List.range ks.length).all (Bf ks)=false from (by rw[List.all_eq_false];exact⟨i,List.mem_range.2 hlt,by simp[h]⟩),Bool.false_and])
   have HY:Hid (Bf ks i=true->∀j,j<i+1->Bf ks j=true):=fun h j hji=>by
    by_cases e:j=i
    ·subst e;exact h
    ·exact uh uw j (by omega)
   have hlt':(i:Int)<(ks.length:Int):=by omega
   generalize Bf ks i=cb at *
   cases cb
   ·have HF:=hide (uh HN rfl)
    clear HN HY
    go_wp2_with fail
    refine(uh qg).mono ?_
    rintro e w5 ⟨rfl,hb5⟩
    have HB:=hide (uh mg _ (uh qp _ _ (uh Fa) hb5))
    clear hb5
    go_wp2
    go_ret
    exact⟨jf (uh HF).symm,uh HB⟩
   ·have Dp:=hide (uh HY rfl)
    clear HN HY
    go_wp2_with fail
    refine(uh qg).mono ?_
    rintro e w5 ⟨rfl,hb5⟩
    have HB:=hide (uh qp _ _ (uh Fa) hb5)
    clear hb5
    go_wp2
    go_roundg (ks.length-(i+1))
    case measure=>have:=uh HG;omega
    case rel=>exact⟨i+1,by omega,rfl,by go_num,uh Dp,uh HB⟩
  ·have e:i=ks.length:=by omega
   subst e
   have Hq:=hide (akx ks (uh uw))
   have HM3:Hid (R=((Aq ks ks.length).all (fun n=>decide (n<=20000))&&(D5 ks ks.length).all (fun n=>decide (n<=400000)))):=(uh HM2).trans (by rw[show (List.range ks.length).all (Bf ks)=true from (by rw[List.all_eq_true];exact fun j hj=>uh uw j (List.mem_range.1 hj)),Bool.true_and])
   have qg:=hide (anx ks _ wr ((uh HV).stays jm (uh mg _ (uh Fa))) (uh Hq).1 asg)
   have hcl0:=Fe ks ks.length
   clear HM2 uw HG
   go_wp2_with fail
   refine(uh qg).mono ?_
   rintro e w5 ⟨lv,rfl,hSL,hb5⟩
   have hx5:=uh qp _ _ (uh Fa) hb5
   have zo:=hide hx5
   clear hb5 hx5 qg Fa
   obtain⟨la,lc,rfl⟩:=hSL.shape
   have HLE:Hid (∀i (hi:i<(Aq ks ks.length).length),∃b o,la=some ⟨b,o,none⟩∧w5.cell? ⟨b,o+i,none⟩=some (.int .i64 (Aq ks ks.length)[i])):=fun i hi=>by
    obtain⟨_,_,yx,_,_,Em⟩:=hSL
    simp only[Value.slice.injEq] at yx
    obtain⟨rfl,_,rfl⟩:=yx
    obtain⟨b,o,cs,rfl,_,hb,_,hc,⟨rfl,hr⟩⟩:=Em i hi
    refine⟨b,o,rfl,?_⟩
    have h0:=hc 0 (by simp)
    rw[Nat.mul_one,Nat.add_zero] at h0
    exact h0
   have hll:=hSL.uy
   clear hSL
   generalize hcs:Aq ks ks.length=cl at *
   clear hcs hcl0
   go_wp2
   go_loopg [32] cl.length (fun g iv wr=>∃(i:Nat),i<=cl.length∧g=cl.length-i∧iv=.int .i64 i∧(∀j (hj:j<cl.length),j<i->decide (cl[j]<=20000)=true)∧wr=w5)
   case atStart=>exact⟨0,Nat.zero_le _,by omega,rfl,fun j _ hj=>absurd hj (Nat.not_lt_zero _),rfl⟩
   case round =>
    obtain⟨i,hi,hg,rfl,hno,rfl⟩:=hrel
    have HG:=hide hg
    have uw:=hide hno
    clear hg hno
    by_cases hlt:i<cl.length
    ·obtain⟨b,o,rfl,x0⟩:=uh HLE i hlt
     have HN:Hid (¬cl[i]<=20000->R=false):=fun h=>(uh HM3).trans (by rw[Ul i hlt (decide_eq_false h),Bool.false_and])
     have HY:Hid (cl[i]<=20000->∀j (hj:j<cl.length),j<i+1->decide (cl[j]<=20000)=true):=fun h j hj hji=>by
      by_cases e:j=i
      ·subst e;exact decide_eq_true h
      ·exact uh uw j hj (by omega)
     have hlt':(i:Int)<(cl.length:Int):=by omega
     generalize cl[i]=n at *
     by_cases hn:20000<n
     ·have f1:decide (20000<n)=true:=decide_eq_true hn
      have HF:=hide (uh HN (by omega))
      have HB:=hide (uh mg _ (uh zo))
      clear HN HY
      go_wp2
      go_ret
      exact⟨jf (uh HF).symm,uh HB⟩
     ·have f1:decide (20000<n)=false:=decide_eq_false hn
      have Dp:=hide (uh HY (by omega))
      clear HN HY
      go_wp2
      go_roundg (cl.length-(i+1))
      case measure=>have:=uh HG;omega
      case rel=>exact⟨i+1,by omega,rfl,by go_num,uh Dp,rfl⟩
    ·have e:i=cl.length:=by omega
     subst e
     have HM4:Hid (R=(D5 ks ks.length).all (fun n=>decide (n<=400000))):=(uh HM3).trans (by rw[Qa (fun j hj=>uh uw j hj hj),Bool.true_and])
     have q5:=uh yg _ (uh zo)
     have HC2:=hide (akw ks _ _ ((uh HV).stays jm (uh mg _ (uh zo))) (uh Hq).1 (uh Hq).2 asg)
     clear HM3 uw HG HLE hi
     go_wp2_with fail
     refine(uh HC2).mono ?_
     rintro e w6 ⟨lv,rfl,hSL,hb6⟩
     have hx6:=uh qp _ _ (uh zo) hb6
     have Oa:=hide (uh mg _ hx6)
     clear hb6 hx6 HC2
     obtain⟨ma,mc,rfl⟩:=hSL.shape
     have HLE:Hid (∀i (hi:i<(D5 ks ks.length).length),∃b o,ma=some ⟨b,o,none⟩∧w6.cell? ⟨b,o+i,none⟩=some (.int .i64 (D5 ks ks.length)[i])):=fun i hi=>by
      obtain⟨_,_,yx,_,_,Em⟩:=hSL
      simp only[Value.slice.injEq] at yx
      obtain⟨rfl,_,rfl⟩:=yx
      obtain⟨b,o,cs,rfl,_,hb,_,hc,⟨rfl,hr⟩⟩:=Em i hi
      refine⟨b,o,rfl,?_⟩
      have h0:=hc 0 (by simp)
      rw[Nat.mul_one,Nat.add_zero] at h0
      exact h0
     have hml:=hSL.uy
     clear hSL
     generalize D5 ks ks.length=bl at *
     go_wp2
     go_loopg [42] bl.length (fun g iv wr=>∃(i:Nat),i<=bl.length∧g=bl.length-i∧iv=.int .i64 i∧(∀j (hj:j<bl.length),j<i->decide (bl[j]<=400000)=true)∧wr=w6)
     case atStart=>exact⟨0,Nat.zero_le _,by omega,rfl,fun j _ hj=>absurd hj (Nat.not_lt_zero _),rfl⟩
     case round =>
      obtain⟨i,hi,hg,rfl,hno,rfl⟩:=hrel
      have HG:=hide hg
      have uw:=hide hno
      clear hg hno
      by_cases hlt:i<bl.length
      ·obtain⟨b,o,rfl,x0⟩:=uh HLE i hlt
       have HN:Hid (¬bl[i]<=400000->R=false):=fun h=>(uh HM4).trans (Ul i hlt (decide_eq_false h))
       have HY:Hid (bl[i]<=400000->∀j (hj:j<bl.length),j<i+1->decide (bl[j]<=400000)=true):=fun h j hj hji=>by
        by_cases e:j=i
        ·subst e;exact decide_eq_true h
        ·exact uh uw j hj (by omega)
       have hlt':(i:Int)<(bl.length:Int):=by omega
       generalize bl[i]=n at *
       by_cases hn:400000<n
       ·have f1:decide (400000<n)=true:=decide_eq_true hn
        have HF:=hide (uh HN (by omega))
        clear HN HY
        go_wp2
        go_ret
        exact⟨jf (uh HF).symm,uh Oa⟩
       ·have f1:decide (400000<n)=false:=decide_eq_false hn
        have Dp:=hide (uh HY (by omega))
        clear HN HY
        go_wp2
        go_roundg (bl.length-(i+1))
        case measure=>have:=uh HG;omega
        case rel=>exact⟨i+1,by omega,rfl,by go_num,uh Dp,rfl⟩
      ·have e:i=bl.length:=by omega
       subst e
       have HF:Hid (R=true):=(uh HM4).trans (Qa (fun j hj=>uh uw j hj hj))
       go_wp2
       go_ret
       exact⟨jf (uh HF).symm,uh Oa⟩
end Go.Proofs.YtlcgnbcgmljpaaaGreat
