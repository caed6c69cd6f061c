import Derived.Test.YtlcgnbcgmljpaaaGreatFB4
namespace Go.Proofs.YtlcgnbcgmljpaaaGreat
open Go.RowKit
set_option linter.unusedSimpArgs false
set_option linter.unusedVariables false
def BF.Hl:BF->Nat
 | ⟨none⟩=>0
 | ⟨some (_, _, _, r)⟩=>r.Hl+1
theorem Au.Hl {W0 w:World} {t:BF}:∀{css:List (Raw 8)} {fs ss:List Nat},Au W0 w t css fs ss->css.length=t.Hl:=by
 induction t using BF.ind with
 | nil=>intro css fs ss h;rw[h.1];rfl
 | node s a b r iha ihb ihr =>
  intro css fs ss h
  obtain⟨st,va,vb,c,cr,ca,cb,fa,fb,fr,s0,sa,sb,sr,rfl,h2,h3,_,_,h8,_,_⟩:=h
  rw[List.length_cons,ihr h8]
  rfl
theorem als (p q:BF):(p.app q).Hl=p.Hl+q.Hl:=by
 induction p using BF.ind with
 | nil=>simp[BF.app,BF.Hl]
 | node s a b r iha ihb ihr=>show (r.app q).Hl+1=r.Hl+1+q.Hl;rw[ihr];omega
theorem Zu (f:BF->BF) (p:BF):(kids f p).Hl=p.Hl:=by
 induction p using BF.ind with
 | nil=>rfl
 | node s a b r iha ihb ihr=>show (kids f r).Hl+1=r.Hl+1;rw[ihr]
structure KT (W0 w:World) (fs ss:List Nat) (lv:Value) (T:BF) (cj:List (Raw 8)) (fj sj:List Nat) (wr:World):Prop where
 own:dw uq wr w.heap.size lv cj
 kj:Au W0 wr T cj fj sj
 foot:ax3 w.heap.size fs (gu lv++fj)
 sc:∀x,sj.count x<=ss.count x
 kf:Kf fs w wr
theorem set_mid {α:Type} (l:List α) (a b:α) (r:List α):(l++a::r).set l.length b=l++b::r:=by
 rw[List.set_append_right _ _ (Nat.le_refl _),Nat.sub_self]
 rfl
theorem KT.kids {W0 w:World} {fs ss:List Nat} {lv:Value} {p a b r:BF} {s:dh} {cj:List (Raw 8)} {fj sj:List Nat} {wr:World} (h:KT W0 w fs ss lv (p.app (.node s a b r)) cj fj sj wr) (hfs:fs.Nodup) :
  ∃(g cap:Nat) (st:List Value) (va vb:Value) (c:Raw 8) (ca cb:List (Raw 8)) (fa fb sa sb:List Nat),p.Hl<cj.length∧lv=.slice (some ⟨g,0,none⟩) cj.length cap∧g<wr.heap.size∧c.1=st++[va,vb]∧st.length=6∧(∀k u,c.1[k]?=some u->wr.cell? ⟨g,p.Hl*8+k,none⟩=some u∧wr.frozen? ⟨g,p.Hl*8+k,none⟩=false) ∧
   (dw uq wr 0 va ca∧Au W0 wr a ca fa sa∧(gu va++fa).Nodup)∧(dw uq wr 0 vb cb∧Au W0 wr b cb fb sb∧(gu vb++fb).Nodup) ∧
   (∀e a' w2,FuP W0 a' fa sa wr e w2->∃v',e=.returned v'∧(∃x y z,v'=.slice x y z)∧w2.heap[g]?=wr.heap[g]?∧∃cj' fj' Ji,cj'.length=cj.length∧KT W0 w fs ss lv (p.app (.node s a' b r)) cj' fj' Ji (w2.setCell ⟨g,p.Hl*8+6,none⟩ v')) ∧
   (∀e b' w2,FuP W0 b' fb sb wr e w2->∃v',e=.returned v'∧(∃x y z,v'=.slice x y z)∧w2.heap[g]?=wr.heap[g]?∧∃cj' fj' Ji,cj'.length=cj.length∧KT W0 w fs ss lv (p.app (.node s a b' r)) cj' fj' Ji (w2.setCell ⟨g,p.Hl*8+7,none⟩ v')):=by
 have hone:∀x,(gu lv).count x+fj.count x<=1:=fun x=>by
  have h1:=h.foot x
  have h2:=Jt.1 hfs x
  rw[List.count_append] at h1
  split at h1<;>omega
 have ait:∀x,(gu lv).count x+fj.count x<=if x<w.heap.size then fs.count x else 1:=fun x=>by
  have h1:=h.foot x
  rw[List.count_append] at h1
  exact h1
 have hlo:∀x,x∈gu lv->w.heap.size<=x∧x<wr.heap.size:=fun x hx=>World.ownsRow.lt h.own x (iq.1 hx)
 have hws:=h.kf.size
 have hsc:=h.sc
 obtain⟨cp,cu,fp,fu,sp,su,hcj,hfj,hsj,kp,ku⟩:=h.kj.split
 obtain⟨st,va,vb,c,cr,ca,cb,fa,fb,fr,s0,sa,sb,sr,h1,h2,h3,⟨oa,ka⟩,⟨ob,kb⟩,kr,hfu,hsu⟩:=ku
 subst h1 hfu hsu hfj hsj
 have hps:=kp.Hl
 have hn1:p.Hl<cj.length:=by rw[hcj,←hps];simp
 obtain⟨g,cap,hlv,hcap,hcells⟩:=abk h.own p.Hl hn1
 have hgl:cj[p.Hl]=c:=by subst hcj;simp[←hps]
 rw[hgl] at hcells
 have hgm:g∈gu lv:=iq.2 (by rw[hlv];rfl)
 have hg:=hlo g hgm
 simp only[List.count_append] at hone ait hsc
 have hgc:=jr.1 hgm
 have aym:=hone g
 have ltp:=kp.lt
 have lta:=ka.lt
 have ltb:=kb.lt
 have ltr:=kr.lt
 have ayp:∀x,x∈gu va->x<wr.heap.size:=fun x hx=>(World.ownsRow.lt oa x (iq.1 hx)).2
 have ayq:∀x,x∈gu vb->x<wr.heap.size:=fun x hx=>(World.ownsRow.lt ob x (iq.1 hx)).2
 have nda:(gu va++fa).Nodup:=Jt.2 (fun x=>by have:=hone x;rw[List.count_append];omega)
 have ndb:(gu vb++fb).Nodup:=Jt.2 (fun x=>by have:=hone x;rw[List.count_append];omega)
 refine⟨g,cap,st,va,vb,c,ca,cb,fa,fb,sa,sb,hn1,hlv,hg.2,h2,h3.afm,hcells,⟨oa,ka,nda⟩,⟨ob,kb,ndb⟩,?_,?_⟩
 ·rintro e a' w2 ⟨v',abj,fs',ss',rfl,o2,k2,ft2,N9,Ue⟩
  have hg2:w2.heap[g]?=wr.heap[g]?:=Ue.block g hg.2 (fun h9=>by have:=jr.1 h9;omega)
  refine⟨v',rfl,(by obtain⟨x,z,e⟩:=o2.slice;exact⟨_,_,_,e⟩),hg2,?_⟩
  obtain⟨c6,hc6,ais⟩:=(acd c st va vb v' h3.afm h2 o2.adf).1
  obtain⟨w3,hw3⟩:∃z,z=w2.setCell ⟨g,p.Hl*8+6,none⟩ v':=⟨_,rfl⟩
  rw[←hw3]
  have s2:=Ue.size
  have as7:dw uq w2 w.heap.size (.slice (some ⟨g,0,none⟩) cj.length cap) cj:=by
   have h9:=h.own
   rw[hlv] at h9
   exact h9.Ai (fun b hb=>by cases hb;exact hg2)
  have as8:dw uq w3 w.heap.size lv (cp++c6::cr):=by
   have h9:=ab8 as7 p.Hl 6 hn1 (by omega) v' c6 (by rw[hgl];exact hc6)
   rw[hw3,hlv]
   rw[hcj,←hps,set_mid] at h9
   rw[hcj,←hps]
   exact h9
  have k3:Kf (fa++[g]) wr w3:=(Ue.wide (fun x hx=>List.mem_append_left _ hx)).step (w2:=w3) (fs1:=[g]) (by rw[hw3];exact Kf.set _ _ _ _) (fun x hx _=>List.mem_append_right _ hx)
  have fr3:∀A:List Nat,(∀x,x∈A->x<wr.heap.size)->(∀x,1<=A.count x->fa.count x=0∧(gu lv).count x=0)->Fr A wr w3:=fun A b1 b2=>k3.fr b1 (fun x hx h9=>by
   obtain⟨e1,e2⟩:=b2 x (jr.1 hx)
   rcases List.mem_append.1 h9 with h9|h9
   ·have:=jr.1 h9;omega
   ·rw[List.mem_singleton] at h9;subst h9;omega)
  have k23:∀A:List Nat,(∀x,x∈A->A.count x<=(gu v'++fs').count x)->Fr A w2 w3:=fun A hA x hx=>by
   have hxg:x≠g:=fun e=>by
    have h9:=hA x hx
    have h8:=ft2 x
    have h7:=jr.1 hx
    rw[if_pos (by rw[e];exact hg.2)] at h8
    rw[e] at h9 h8 h7
    omega
   rw[hw3];exact Below.heap_setCell _ _ _ _ (fun e=>hxg (by simpa using e))
  refine⟨cp++c6::cr,fp++(gu v'++fs'++(gu vb++fb)++fr),sp++(s0++ss'++sb++sr),by rw[hcj];simp,as8,(kp.fr (fr3 _ ltp (fun x hx=>by have:=hone x;omega))).app ⟨st,v',vb,c6,cr,abj,cb,fs',fb,fr,s0,ss',sb,sr,rfl,ais,h3,⟨o2.L9 (k23 _ (fun x _=>by rw[List.count_append];omega)),k2.fr (k23 _ (fun x _=>by rw[List.count_append];omega))⟩,⟨ob.L9 (fr3 _ ayq (fun x hx=>by have:=hone x;omega)),kb.fr (fr3 _ ltb (fun x hx=>by have:=hone x;omega))⟩,kr.fr (fr3 _ ltr (fun x hx=>by have:=hone x;omega)),rfl,rfl⟩,fun x=>?_,fun x=>?_,h.kf.step k3 (fun x hx hlt=>?_)⟩
  ·have h9:=ait x
   have h8:=ft2 x
   simp only[List.count_append] at h8 ⊢
   by_cases hx:x<wr.heap.size
   ·rw[if_pos hx] at h8
    split at h9
    ·rw[if_pos (by assumption)];omega
    ·rw[if_neg (by assumption)];omega
   ·rw[if_neg hx] at h8
    have e1:=Di (fun b hb=>(hlo b hb).2) (show wr.heap.size<=x by omega)
    have e2:=Di ltp (show wr.heap.size<=x by omega)
    have e3:=Di ayq (show wr.heap.size<=x by omega)
    have e4:=Di ltb (show wr.heap.size<=x by omega)
    have e5:=Di ltr (show wr.heap.size<=x by omega)
    rw[if_neg (by omega)]
    omega
  ·have h9:=hsc x
   have h8:=N9 x
   simp only[List.count_append]
   omega
  ·have h9:=ait x
   rw[if_pos hlt] at h9
   refine jr.2 ?_
   rcases List.mem_append.1 hx with h8|h8
   ·have:=jr.1 h8;omega
   ·rw[List.mem_singleton] at h8;subst h8;omega
 ·rintro e b' w2 ⟨v',abj,fs',ss',rfl,o2,k2,ft2,N9,Ue⟩
  have hg2:w2.heap[g]?=wr.heap[g]?:=Ue.block g hg.2 (fun h9=>by have:=jr.1 h9;omega)
  refine⟨v',rfl,(by obtain⟨x,z,e⟩:=o2.slice;exact⟨_,_,_,e⟩),hg2,?_⟩
  obtain⟨c6,hc6,ais⟩:=(acd c st va vb v' h3.afm h2 o2.adf).2
  obtain⟨w3,hw3⟩:∃z,z=w2.setCell ⟨g,p.Hl*8+7,none⟩ v':=⟨_,rfl⟩
  rw[←hw3]
  have s2:=Ue.size
  have as7:dw uq w2 w.heap.size (.slice (some ⟨g,0,none⟩) cj.length cap) cj:=by
   have h9:=h.own
   rw[hlv] at h9
   exact h9.Ai (fun b hb=>by cases hb;exact hg2)
  have as8:dw uq w3 w.heap.size lv (cp++c6::cr):=by
   have h9:=ab8 as7 p.Hl 7 hn1 (by omega) v' c6 (by rw[hgl];exact hc6)
   rw[hw3,hlv]
   rw[hcj,←hps,set_mid] at h9
   rw[hcj,←hps]
   exact h9
  have k3:Kf (fb++[g]) wr w3:=(Ue.wide (fun x hx=>List.mem_append_left _ hx)).step (w2:=w3) (fs1:=[g]) (by rw[hw3];exact Kf.set _ _ _ _) (fun x hx _=>List.mem_append_right _ hx)
  have fr3:∀A:List Nat,(∀x,x∈A->x<wr.heap.size)->(∀x,1<=A.count x->fb.count x=0∧(gu lv).count x=0)->Fr A wr w3:=fun A b1 b2=>k3.fr b1 (fun x hx h9=>by
   obtain⟨e1,e2⟩:=b2 x (jr.1 hx)
   rcases List.mem_append.1 h9 with h9|h9
   ·have:=jr.1 h9;omega
   ·rw[List.mem_singleton] at h9;subst h9;omega)
  have k23:∀A:List Nat,(∀x,x∈A->A.count x<=(gu v'++fs').count x)->Fr A w2 w3:=fun A hA x hx=>by
   have hxg:x≠g:=fun e=>by
    have h9:=hA x hx
    have h8:=ft2 x
    have h7:=jr.1 hx
    rw[if_pos (by rw[e];exact hg.2)] at h8
    rw[e] at h9 h8 h7
    omega
   rw[hw3];exact Below.heap_setCell _ _ _ _ (fun e=>hxg (by simpa using e))
  refine⟨cp++c6::cr,fp++(gu va++fa++(gu v'++fs')++fr),sp++(s0++sa++ss'++sr),by rw[hcj];simp,as8,(kp.fr (fr3 _ ltp (fun x hx=>by have:=hone x;omega))).app ⟨st,va,v',c6,cr,ca,abj,fa,fs',fr,s0,sa,ss',sr,rfl,ais,h3,⟨oa.L9 (fr3 _ ayp (fun x hx=>by have:=hone x;omega)),ka.fr (fr3 _ lta (fun x hx=>by have:=hone x;omega))⟩,⟨o2.L9 (k23 _ (fun x _=>by rw[List.count_append];omega)),k2.fr (k23 _ (fun x _=>by rw[List.count_append];omega))⟩,kr.fr (fr3 _ ltr (fun x hx=>by have:=hone x;omega)),rfl,rfl⟩,fun x=>?_,fun x=>?_,h.kf.step k3 (fun x hx hlt=>?_)⟩
  ·have h9:=ait x
   have h8:=ft2 x
   simp only[List.count_append] at h8 ⊢
   by_cases hx:x<wr.heap.size
   ·rw[if_pos hx] at h8
    split at h9
    ·rw[if_pos (by assumption)];omega
    ·rw[if_neg (by assumption)];omega
   ·rw[if_neg hx] at h8
    have e1:=Di (fun b hb=>(hlo b hb).2) (show wr.heap.size<=x by omega)
    have e2:=Di ltp (show wr.heap.size<=x by omega)
    have e3:=Di ayp (show wr.heap.size<=x by omega)
    have e4:=Di lta (show wr.heap.size<=x by omega)
    have e5:=Di ltr (show wr.heap.size<=x by omega)
    rw[if_neg (by omega)]
    omega
  ·have h9:=hsc x
   have h8:=N9 x
   simp only[List.count_append]
   omega
  ·have h9:=ait x
   rw[if_pos hlt] at h9
   refine jr.2 ?_
   rcases List.mem_append.1 hx with h8|h8
   ·have:=jr.1 h8;omega
   ·rw[List.mem_singleton] at h8;subst h8;omega
theorem FuP.from {W0 w w1:World} {t:BF} {fs ss:List Nat} {e:Ending} {w':World} (hX:Below w.heap.size w w1) (hs:w1.heap.size=w.heap.size) (h:FuP W0 t fs ss w1 e w'):FuP W0 t fs ss w e w':=by
 obtain⟨v',abj,fs',ss',he,o,k,f,sc,kf⟩:=h
 exact⟨v',abj,fs',ss',he,o,k,by rw[←hs];exact f,sc,(Kf.below fs hX).step kf (fun x hx _=>hx)⟩
theorem anj {p a b r J:BF} {s:dh} (h:p.app (.node s a b r)=J) (hw:J.wf):(a.wf∧a.depth<J.depth∧a.flat.length<=J.flat.length)∧(b.wf∧b.depth<J.depth∧b.flat.length<=J.flat.length):=by
 subst h
 obtain⟨_,h1,h2,h3,h4,h5,h6⟩:=ael hw
 rw[G8,tq,Aj,jd]
 by_cases hk:s.kind=4
 ·rw[if_pos hk]
  simp only[List.length_append,List.length_cons]
  exact⟨⟨h4,by omega,by omega⟩,⟨h5,by omega,by omega⟩⟩
 ·obtain⟨rfl,rfl⟩:=h3 hk
  have e0:BF.depth .nil=0:=rfl
  have e1:BF.flat .nil=[]:=rfl
  refine⟨⟨trivial,by omega,by rw[e1];simp⟩,⟨trivial,by omega,by rw[e1];simp⟩⟩
theorem ap6 (f:BF->BF) (p a b r:BF) (s:dh):(kids f p).app (.node s (f a) (f b) r)=(kids f (p.app (.node s a b .nil))).app r:=by
 rw[as3,Ud]
 rfl
theorem as9 {r:BF} (h:r.Hl=0):r=.nil:=by
 cases r using BF.inv with
 | nil=>rfl
 | node s a b r=>cases h
end Go.Proofs.YtlcgnbcgmljpaaaGreat
