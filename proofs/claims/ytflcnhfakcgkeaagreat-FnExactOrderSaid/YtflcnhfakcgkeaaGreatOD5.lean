import Derived.Test.YtflcnhfakcgkeaaGreatOD1
import Derived.Test.YtflcnhfakcgkeaaGreatCS45
import Derived.Test.YtflcnhfakcgkeaaGreatOD3
namespace Go.Proofs.YtflcnhfakcgkeaaGreat
open Go.RowKit
set_option linter.unusedSimpArgs false
set_option linter.unusedVariables false
def aki (w:World) (x:ay) (nb no:Nat) (e:Ending) (w':World):Prop :=
 ∃sb vb ov D C L N,e=.returned (.pointer (some ⟨sb,0,none⟩))∧Sc w w' (.pointer (some ⟨nb,no,none⟩)) .nilFunc (aj x) (ru x (qx x) x.eqs.length) sb vb ov D C L N
set_option maxRecDepth 20000 in
set_option maxHeartbeats 8000000 in
theorem afw (w:World) (x:ay) (nb no:Nat) (h:At 5 o7 w nb no x) (hcl:∀v,v∈aj x->v.clock.length<=1000) (hvl:(aj x).length<=10000) (hdf:∀k (hk:k<x.eqs.length),(zu (aj x) (ru x (qx x) k) x.eqs[k].lhs k).2=true) :
  Calls Tryz.prog 18 #[.pointer (some ⟨nb,no,none⟩)] w (aki w x nb no):=by
 have HNS:=hide (ab4 w x nb no h hcl hvl)
 have HDF:=hide hdf
 obtain⟨hbl,cs,hl,hc,v1,v2,v3,v4,rfl,hs,_,_,_,Lm⟩:=h
 obtain⟨ea,ec,hv4⟩:=Lm.shape
 subst hv4
 have hn:=Lm.len'
 have k4:=hc 4 (by simp)
 simp only[List.getElem_cons_zero,List.getElem_cons_succ] at k4
 have HK4:Hid (∀w',Below w.heap.size w w'->w'.cell? ⟨nb,no+4,none⟩=some (.slice ea x.eqs.length ec)):=fun w' hb=>(hb.cell (p:=⟨nb,_,none⟩) hbl).trans k4
 have HQS:=hide Lm
 obtain⟨PO,l7⟩:∃PO:Ending->World->Prop,PO=aki w x nb no:=⟨_,rfl⟩
 rw[←l7]
 have qy:=hide l7
 clear l7 hc hl hs Lm k4 hdf hcl hvl hbl
 go_enter Tryz.func18,Tryz.ntmps18
 go_wp2_with fail
 refine(uh HNS).mono ?_
 rintro e9 w1 ⟨sb,vb,ov,D,C,L,N,rfl,hsc,_,_⟩
 have k4:=uh HK4 w1 hsc.old
 have Nb:=hide hsc
 clear hsc HNS
 go_wp2
 clear k4
 go_loopg [14] x.eqs.length (fun gm iv wr=>∃(k:Nat),k<=x.eqs.length∧gm=x.eqs.length-k∧iv=.int .i64 k∧Sc w wr (.pointer (some ⟨nb,no,none⟩)) .nilFunc (aj x) (ru x (qx x) k) sb vb ov D C L N)
 case atStart=>exact⟨0,Nat.zero_le _,by omega,rfl,uh Nb⟩
 case round =>
  obtain⟨k,hk,hg,rfl,hsc⟩:=hrel
  rename World=>wr
  have HG:=hide hg
  have HSK:=hide hsc
  have k4:=uh HK4 wr hsc.old
  clear hg Nb
  by_cases hlt:k<x.eqs.length
  case neg =>
   have hke:k=x.eqs.length:=by omega
   have Ec:¬(k:Int)<(x.eqs.length:Int):=by omega
   have gq:Hid (PO (.returned (.pointer (some ⟨sb,0,none⟩))) wr):=by
    rw[uh qy]
    rw[hke] at HSK
    exact hide ⟨sb,vb,ov,D,C,L,N,rfl,uh HSK⟩
   clear hke hsc k4 hlt
   go_wp2
   exact uh gq
  obtain⟨eb,eo,ecp,hqe,hat⟩:=(uh HQS).at' k hlt
  simp only[Value.slice.injEq] at hqe
  obtain⟨rfl,H8,rfl⟩:=hqe
  clear H8
  obtain⟨heb,cs,hl,hc,l0,q0,a0,rfl,hce,hlh,Wx,Qi⟩:=hat
  clear Wx Qi
  obtain⟨la,lc,rfl⟩:=hlh.shape
  have e0:=(hsc.old.cell (p:=⟨eb,_,none⟩) heb).trans (hc 0 (by simp))
  simp only[List.getElem_cons_zero,Nat.add_zero] at e0
  have hln:=hlh.len'
  have HLH:=hide hlh
  have HGV:Hid (ru x (qx x) (k+1)=(zu (aj x) (ru x (qx x) k) x.eqs[k].lhs k).1):=by
   refine hide ?_
   rw[ru,List.getElem?_eq_getElem hlt]
  have HT:=hide (uh HDF k hlt)
  have HG0:=hide ((agk x (qx x) k).trans (adf x))
  generalize ru x (qx x) k=G at *
  generalize x.eqs[k].lhs=names at *
  have Ec:(k:Int)<(x.eqs.length:Int):=by omega
  have yw:=hide hlt
  clear hc hl hce hlh heb hsc hlt
  go_wp2
  clear k4 e0
  go_loopg [26] names.length (fun gm iv wr=>∃(m:Nat) (G1:List Int),m<=names.length∧gm=names.length-m∧iv=.int .i64 m∧Sc w wr (.pointer (some ⟨nb,no,none⟩)) .nilFunc (aj x) G1 sb vb ov D C L N∧G1.length=(aj x).length∧zu (aj x) G names (k:Int)=zu (aj x) G1 (names.drop m) (k:Int))
  case atStart=>exact⟨0,G,Nat.zero_le _,by omega,rfl,uh HSK,uh HG0,by rw[List.drop_zero]⟩
  case round =>
   obtain⟨m,G1,hm,hgm,rfl,hsc,hgl,hdf⟩:=hrel
   rename World=>wM
   have Hy:=hide hgm
   have Fq:=hide hgl
   have HD1:=hide hdf
   clear hgm hgl hdf
   by_cases hlm:m<names.length
   case neg =>
    have hmI:¬(m:Int)<(names.length:Int):=by omega
    have HE:Hid (ru x (qx x) (k+1)=G1):=by
     refine hide ?_
     rw[uh HGV,uh HD1,List.drop_eq_nil_of_le (by omega)]
     rfl
    have Vx:=hide hsc
    clear hsc hlm
    go_wp2
    go_roundg (x.eqs.length-(k+1))
    case measure =>
     have h8:=uh yw
     have h9:=uh HG
     omega
    case rel=>exact⟨k+1,uh yw,rfl,by go_num,by rw[uh HE];exact uh Vx⟩
   obtain⟨_,_,Q5,_,_,hxx⟩:=(uh HLH).stays uw hsc.old
   simp only[Value.slice.injEq] at Q5
   obtain⟨rfl,H8,rfl⟩:=Q5
   clear H8
   obtain⟨lb,lo,cs,rfl,_,hlb,hcs,hcc,hRR⟩:=hxx m hlm
   obtain⟨rfl,hsn⟩:=hRR
   have k0:=hcc 0 (by simp)
   simp only[Nat.mul_one,Nat.add_zero,List.getElem_cons_zero] at k0
   have HD2:Hid (zu (aj x) G names (k:Int)=if jc (aj x) names[m]<(aj x).length∧G1.getD (jc (aj x) names[m]) 0 = -1 then zu (aj x) (G1.set (jc (aj x) names[m]) (k:Int)) (names.drop (m+1)) (k:Int) else (G1,false)):=by
    rw[uh HD1,List.drop_eq_getElem_cons hlm]
    exact hide (by rw[zu])
   have HC2:Hid (jc (aj x) names[m]<(aj x).length∧G1.getD (jc (aj x) names[m]) 0 = -1):=by
    refine hide (Classical.byContradiction fun h9=>?_)
    have h8:=uh HT
    rw[uh HD2,if_neg h9] at h8
    cases h8
   have HDN:Hid (zu (aj x) G names (k:Int)=zu (aj x) (G1.set (jc (aj x) names[m]) (k:Int)) (names.drop (m+1)) (k:Int)):=by
    rw[uh HD2,if_pos (uh HC2)]
    exact hide rfl
   generalize names[m]=nm at k0 hsn HDN HC2
   have hnm:nm.size<=maxLen:=by unfold Len at hsn;unfold maxLen;omega
   have s2:=hsc.tq.cell (i:=2) (v:=.map (some vb)) rfl
   have hlk0:(Instr.lookup 76 (.map (some vb)) (.string nm) false).run Tryz.prog wM=.ok (He (aj x) D nm) wM:=by
    obtain⟨n,f',h1,h2,h3⟩:=hsc.vars
    have h9:=h2.look (t:=76) Tryz.underlying9 Tryz.underlying76 (by kernel_rfl) hnm
    rw[h3] at h9
    exact h9
   have hmI:(m:Int)<(names.length:Int):=by omega
   have HLM:=hide hlm
   clear hxx hcc hcs hlb hsn hnm hlm HD2
   obtain⟨ln,ai4⟩:∃z,z=jc (aj x) nm:=⟨_,rfl⟩
   unfold He at hlk0
   rw[←ai4] at HDN HC2 hlk0
   clear ai4
   have hl:=(uh HC2).1
   obtain⟨cv,p,hdb,hcp⟩:=hsc.decl ln hl
   have d4:=hdb.cell (i:=4) (v:=.int .i64 (G1.getD ln 0)) rfl
   have d4z:=hdb.free 4
   rw[if_pos hl] at hlk0
   have ai5:=hide (hsc.give ln hl (uh Fq) (k:Int))
   generalize D.getD ln 0=dk at *
   simp only[xk] at hlk0
   clear hcp hdb hsc hl
   go_wp2
   go_roundg (names.length-(m+1))
   case measure =>
    have h8:=uh HLM
    have h9:=uh Hy
    omega
   case rel=>exact⟨m+1,G1.set ln (k:Int),uh HLM,rfl,by go_num,uh ai5,by rw[List.length_set];exact uh Fq,uh HDN⟩
theorem aj9 (ns:List ay) (v:Value) (k:Int) (w:World) (h1:bf 5 112 o7 0 w v ns) (hsm:∀n,n∈ns->n.ins.length+n.outs.length+n.vars.length<=1048576) :
  Calls Tryz.prog 5 #[.agg #[v],.int .i64 k] w (Qo (Ic ns k) w):=by
 by_cases hno:(qp ns).1=0∧0<=k∧k<(ns.length:Int)
 case neg =>
  rw[akf hno]
  exact akg ns v k w h1 hsm hno
 obtain⟨hc,hk0,hk1⟩:=hno
 obtain⟨i,rfl⟩:=Int.eq_ofNat_of_zero_le hk0
 have hi:i<ns.length:=by omega
 rw[agv hc hi]
 obtain⟨hsh,hok⟩:=Zd hc
 have hnb:qw ns[i]=true:=by
  unfold Ar at hsh
  simp only[Bool.and_eq_true] at hsh
  exact List.all_eq_true.1 hsh.2 _ (List.getElem_mem hi)
 have hnd:=(yg ns[i]).1 hnb
 have hsum:ns[i].ins.length+ns[i].outs.length+ns[i].vars.length<=1048576:=hsm _ (List.getElem_mem hi)
 have hsmall:=fun e (he:e∈ns[i].eqs)=>Vr e (List.all_eq_true.1 hnd.2.2.2.2.2 e he)
 have hlh:∀e,e∈ns[i].eqs->e.lhs.length<=500:=fun e he=>by
  have:=List.all_eq_true.1 hnd.2.2.2.2.2 e he
  unfold Eb at this
  simp only[Bool.and_eq_true,decide_eq_true_iff] at this
  exact this.1.1.2.1
 have a3k:=X5 hnb
 have hrn:=fun e he (nm:ByteArray) hm=>(show Len nm.size from by have:=Vz (ab2 hnb e he nm hm);unfold Len;omega)
 have aib:=hnd.1
 obtain⟨bp,op,cpp,hpe,hbp,cs,ae6,hcc,iv,ov,vv,evv,rfl,hnm,hiv,hov,hvv,Vs⟩:=h1.at' i hi
 obtain⟨b1,c1,rfl⟩:=hiv.shape
 obtain⟨b2,c2,rfl⟩:=hov.shape
 obtain⟨b3,c3,rfl⟩:=hvv.shape
 obtain⟨eb,eo,c4,a3l,_⟩:=Vs.at' 0 (by omega)
 subst a3l
 have m0:=hcc 0 (by simp)
 have m1:=hcc 1 (by simp)
 have m2:=hcc 2 (by simp)
 have m3:=hcc 3 (by simp)
 have m4:=hcc 4 (by simp)
 simp only[Nat.add_zero,List.getElem_cons_zero,List.getElem_cons_succ] at m0 m1 m2 m3 m4
 have hlow:∀{w':World} {j:Nat} {u:Value},Below w.heap.size w w'->w.cell? ⟨bp,j,none⟩=some u->w'.cell? ⟨bp,j,none⟩=some u:=fun hb h=>(hb.cell (p:=⟨bp,_,none⟩) hbp).trans h
 refine ahb ns v i hi w h1 hsm hc ns[i] ns[i].name b1 b2 b3 ns[i].ins.length ns[i].outs.length ns[i].vars.length c1 c2 c3 eb eo ns[i].eqs.length c4 bp op cpp hpe (fun w' hb=>⟨hlow hb m0,hlow hb m1,hlow hb m2,hlow hb m3,hlow hb m4⟩) ⟨rfl,aib.2.2.1,aib.2.2.2,fun en hen=>?_⟩
 obtain⟨eb',eo',c',hq,heb,cs,hl,hc2,l0,q0,a0,rfl,hce,hl1,hl2,hl3⟩:=Vs.at' en hen
 simp only[Value.slice.injEq,Option.some.injEq,Addr.mk.injEq] at hq
 obtain⟨⟨rfl,rfl,_⟩,_,_⟩:=hq
 obtain⟨la,lc,rfl⟩:=hl1.shape
 obtain⟨qa,qc,rfl⟩:=hl2.shape
 obtain⟨aa,ac,rfl⟩:=hl3.shape
 have r0:=hc2 0 (by simp)
 have r1:=hc2 1 (by simp)
 have r2:=hc2 2 (by simp)
 have r3:=hc2 3 (by simp)
 simp only[Nat.add_zero,List.getElem_cons_zero,List.getElem_cons_succ] at r0 r1 r2 r3
 have hlow2:∀{w':World} {j:Nat} {u:Value},Below w.heap.size w w'->w.cell? ⟨eb,j,none⟩=some u->w'.cell? ⟨eb,j,none⟩=some u:=fun hb h=>(hb.cell (p:=⟨eb,_,none⟩) heb).trans h
 refine⟨la,qa,aa,_,_,_,lc,qc,ac,_,fun w' hb=>⟨hlow2 hb r0,hlow2 hb r1,hlow2 hb r2,hlow2 hb r3⟩,fun w' hb d dv hd hdl=>?_⟩
 have hmem:=List.getElem_mem hen
 rw[List.getElem?_eq_getElem hen]
 exact aox ns[i] _ rfl b1 b2 b3 _ c1 c2 c3 c4 hsum w' ⟨hiv.stays ji hb,hov.stays ji hb,hvv.stays ji hb⟩ (Vs.stays xq hb) ns[i].eqs[en] _ _ _ (hl1.stays uw hb) (hl2.stays je hb) (hl3.stays lq hb) ⟨hsmall _ hmem,hlh _ hmem⟩ a3k (hrn _ hmem) d dv hd hdl
end Go.Proofs.YtflcnhfakcgkeaaGreat
