import Derived.Test.YtfeejeflmcapoaaGreatDoorRT1
import Derived.Deep.RegionHeld3
import Derived.Deep.QuietTactic
import Derived.BigQuiet
import Derived.Test.YtfeejeflmcapoaaGreatDoorRG4
set_option linter.unusedSimpArgs false
set_option linter.unusedVariables false
namespace Go.Proofs.YtfeejeflmcapoaaGreatDoor
open Go.RowKit
def Good (bs:List Nat) (l:Lf) (w:cu):Prop:=(l.map Prod.fst).Nodup/\∀p,p∈l->p.1.spot=none/\p.1.block∈bs/\∃v,w.cell? p.1=some v
def Rh (b o sz:Nat) (bs:List Nat) (l:Lf) (w:cu):Prop:=(l.map Prod.fst).Nodup/\∀p,p∈l->p.1.spot=none/\((p.1.block=b/\o<=p.1.off/\p.1.off<o+sz)\/(p.1.block∈bs/\∃v,w.cell? p.1=some v))
theorem ayb {β:Type} (n:Nat) (P:Nat->β->Prop) (h:∀j,j<n->∃v,P j v):∃cs:List β,cs.length=n/\∀j (hj:j<cs.length),P j cs[j]:=by
 induction n with
 | zero=>exact⟨[],rfl,fun j hj=>absurd hj (yu _)⟩
 | succ n ih =>
  obtain⟨cs,hl,hc⟩:=ih (fun j hj=>h j (by omega));obtain⟨v,hv⟩:=h n (by omega);refine⟨cs++[v],by simp[hl],fun j hj=>?_⟩
  by_cases e:j<cs.length
  ·rw[Qx e]
   exact hc j e
  ·have e2:j=cs.length:=by simp at hj;omega
   subst e2;rw[List.getElem_append_right (gu _)];simp only[Nat.sub_self,og];rw[hl];exact hv
theorem ayc {subs:List (List Nat)} (h:subs.flatten.Nodup) {i j:Nat} (hi:i<subs.length) (hj:j<subs.length) (hne:i≠j) {x:Nat} (h1:x∈subs[i]) (h2:x∈subs[j]):False:=by
 have hp:=(List.pairwise_flatten.1 h).2;rw[List.pairwise_iff_getElem] at hp;rcases Nat.lt_or_gt_of_ne hne with c|c
 ·exact hp i j hi hj c x h1 x h2 rfl
 ·exact hp j i hj hi c x h2 x h1 rfl
theorem ar0 {α:Type} {sz:Nat} {L:Nat->Nat->cu->Nat->Nat->List Value->α->Lf->Prop} {lo hi:Nat} {w:cu} {g cap:Nat} {xs:List α} {subs:List (List Nat)} {cells:Nat->List Value} (hlo:lo<=g) (hhi:g<hi) (hn:Len xs.length)
  (hcell:∀i,i<xs.length->(cells i).length=sz/\∀j (hj:j<(cells i).length),w.cell? ⟨g,i*sz+j,none⟩=some (cells i)[j]/\w.frozen? ⟨g,i*sz+j,none⟩=false)
  (hl:subs.length=xs.length) (hE:∀i (h:i<xs.length) (h':i<subs.length),∃l,L lo hi w g (i*sz) (cells i) xs[i] l/\Rh g (i*sz) sz subs[i] l w) (hnd:(g::subs.flatten).Nodup) :
  ∃l,Lc sz L lo hi w (.slice (some ⟨g,0,none⟩) xs.length cap) xs l/\Good (g::subs.flatten) l w:=by
 obtain⟨lss,hls,hp⟩:=ayb xs.length (fun i l=>∃(h:i<xs.length) (h':i<subs.length),L lo hi w g (i*sz) (cells i) xs[i] l/\Rh g (i*sz) sz subs[i] l w) (fun i hi=>by
  obtain⟨l,h1,h2⟩:=hE i hi (by omega);exact⟨l,hi,by omega,h1,h2⟩)
 obtain⟨hg,hsn⟩:=List.nodup_cons.1 hnd;refine⟨lss.flatten,⟨_,cap,lss,rfl,hn,hls,rfl,fun i h h'=>⟨g,0,rfl,hlo,hhi,cells i,(hcell i h).1,fun j hj=>?_,?_⟩⟩,?_,fun p hpm=>?_⟩
 ·rw[Ba]
  exact(hcell i h).2 j hj
 ·rw[Ba]
  obtain⟨_,_,h1,_⟩:=hp i h';exact h1
 ·rw[List.map_flatten]
  unfold List.Nodup;rw[List.pairwise_flatten];refine⟨fun l Ux=>?_,?_⟩
  ·obtain⟨l0,h0,rfl⟩:=List.mem_map.1 Ux
   obtain⟨i,hi9,rfl⟩:=List.mem_iff_getElem.1 h0;obtain⟨_,_,_,h2⟩:=hp i hi9;exact h2.1
  ·rw[List.pairwise_iff_getElem]
   intro i j hi9 hj9 hij x hx y hy exy;rw[zy] at hi9 hj9;rw[List.getElem_map] at hx hy;subst exy;obtain⟨p1,hp1,e1⟩:=List.mem_map.1 hx;obtain⟨p2,hp2,e2⟩:=List.mem_map.1 hy;obtain⟨h1i,h1s,_,h1⟩:=hp i hi9;obtain⟨h2i,h2s,_,h2⟩:=hp j hj9;have k1:=(h1.2 p1 hp1).2;have k2:=(h2.2 p2 hp2).2;rw[e1] at k1;rw[e2] at k2;rcases k1 with ⟨c1,c2,c3⟩|⟨c1,_⟩
   ·rcases k2 with ⟨d1,d2,d3⟩|⟨d1,_⟩
    ·have:i*sz+sz<=j*sz:=by
      have h9:=Nat.mul_le_mul_right sz (show i+1<=j from hij);rw[Nat.add_mul] at h9;omega
     omega
    ·exact hg (by rw[←c1];exact List.mem_flatten.2 ⟨_,o7 h2s,d1⟩)
   ·rcases k2 with ⟨d1,d2,d3⟩|⟨d1,_⟩
    ·exact hg (by rw[←d1];exact List.mem_flatten.2 ⟨_,o7 h1s,c1⟩)
    ·exact ayc hsn h1s h2s (by omega) c1 d1
 ·obtain⟨l0,h0,hpl⟩:=List.mem_flatten.1 hpm
  obtain⟨i,hi9,rfl⟩:=List.mem_iff_getElem.1 h0;obtain⟨h1i,h1s,_,h1⟩:=hp i hi9;obtain⟨k0,k1⟩:=h1.2 p hpl;refine⟨k0,?_⟩;rcases k1 with ⟨c1,c2,c3⟩|⟨c1,c2⟩
  ·refine⟨by rw[c1];exact Hr ..,?_⟩
   obtain⟨q1,q2⟩:=hcell i h1i;obtain⟨⟨b,o,sp⟩,t⟩:=p;simp only at c1 c2 c3 k0;subst c1 k0;have h9:=(q2 (o-i*sz) (by omega)).1;rw[show i*sz+(o-i*sz)=o from by omega] at h9;exact⟨_,h9⟩
  ·exact⟨Gu _ (List.mem_flatten.2 ⟨_,o7 h1s,c1⟩),c2⟩
theorem ar1 {α:Type} {sz:Nat} (L:Nat->Nat->cu->Nat->Nat->List Value->α->Lf->Prop) (lo hi:Nat) (w:cu) (a:Option Addr) (cap:Nat) (bs:List Nat):∃l,Lc sz L lo hi w (.slice a 0 cap) ([]:List α) l/\Good bs l w :=
 ⟨[],⟨a,cap,[],rfl,by simp[Len],rfl,rfl,fun i h=>absurd h (yu _)⟩,List.nodup_nil,fun p hp=>by cases hp⟩
theorem Tn.lat {α:Type} {E:Fj Tryz.prog α} {ok:α->Prop} {L:Nat->Nat->cu->Nat->Nat->List Value->α->Lf->Prop} {lo hi:Nat} {w:cu} {v:Value} {xs:List α} {bs:List Nat} (h:Tn E ok w v xs bs) (hb:∀b,b∈bs->lo<=b/\b<hi) (hL:∀x b o,∃l,L lo hi w b o (E.f x) x l/\Rh b o E.sz [] l w):∃l,Lc E.sz L lo hi w v xs l/\Good bs l w:=by
 obtain⟨h1,h2,h3,rfl⟩:=h;rcases h1.afg with ⟨a,cap,rfl,rfl⟩|⟨g,cap,rfl,hc⟩
 ·exact ar1 _ _ _ _ _ _ _
 ·have hg:=hb g (Bq.2 rfl)
  have hrep:(List.replicate xs.length ([]:List Nat)).flatten=[]:=by simp
  have hn:Len xs.length:=ku (Xa _ E.hby) h3
  have h9:=ar0 (L:=L) (lo:=lo) (hi:=hi) (w:=w) (g:=g) (cap:=cap) (xs:=xs) (subs:=List.replicate xs.length []) (cells:=fun i=>if h:i<xs.length then E.f xs[i] else []) (sz:=E.sz) hg.1 hg.2 hn (fun i hi9=>by
   simp only[dif_pos hi9]
   exact⟨E.hf _,fun j hj=>hc i hi9 j hj⟩) (by simp) (fun i hi9 hi8=>by
   simp only[dif_pos hi9,List.getElem_replicate];exact hL _ _ _) (by rw[hrep];simp)
  rw[hrep] at h9;exact h9
theorem aai.lat {α:Type} {sz:Nat} {E:Fj Tryz.prog (Raw sz)} (hE:E.sz=sz) (hf:∀c,E.f c=c.1) {R:cu->List Value->α->List Nat->Prop} {L:Nat->Nat->cu->Nat->Nat->List Value->α->Lf->Prop} {lo hi:Nat} {w:cu} {v:Value} {xs:List α} {bs:List Nat} (h:aai E R w v xs bs) (hnd:bs.Nodup) (hb:∀b,b∈bs->lo<=b/\b<hi)
  (hL:∀cs x s b o,R w cs x s->s.Nodup->(∀c,c∈s->lo<=c/\c<hi)->b∉s->∃l,L lo hi w b o cs x l/\Rh b o sz s l w):∃l,Lc sz L lo hi w v xs l/\Good bs l w:=by
 obtain⟨css,subs,h1,h2,h3,rfl⟩:=h;have hl3:=h3.len;rcases h1.afg with ⟨a,cap,rfl,rfl⟩|⟨g,cap,rfl,hc⟩
 ·obtain rfl:xs=[]:=Sj hl3.1.symm
  exact ar1 _ _ _ _ _ _ _
 ·have eb:zq (.slice (some ⟨g,0,none⟩) css.length cap)++subs.flatten=g::subs.flatten:=rfl
  rw[eb] at hnd hb ⊢;have hg:=hb g (Hr ..);have hn:Len xs.length:=by rw[←hl3.1];exact ku (Xa _ E.hby) h2
  have hsn:=(List.nodup_cons.1 hnd).2;rw[hl3.1];refine ar0 (cells:=fun i=>if h:i<css.length then css[i].1 else []) hg.1 hg.2 hn (fun i hi9=>?_) hl3.2 (fun i hi9 hi8=>?_) hnd
  ·have hi7:i<css.length:=by omega
   simp only[dif_pos hi7];refine⟨css[i].2.1,fun j hj=>?_⟩;have h9:=hc i hi7 j (by rw[hf];exact hj);simp only[hf,hE] at h9;exact h9
  ·have hi7:i<css.length:=by omega
   simp only[dif_pos hi7];have hs:∀c,c∈subs[i]->c∈subs.flatten:=fun c hc9=>List.mem_flatten.2 ⟨_,o7 hi8,hc9⟩
   exact hL _ _ _ _ _ (h3.get i hi7 hi9 hi8) ((List.pairwise_flatten.1 hsn).1 _ (o7 hi8)) (fun c hc9=>hb c (Gu _ (hs c hc9))) (fun h9=>(List.nodup_cons.1 hnd).1 (hs g h9))
theorem Wi {b o sz:Nat} {bs:List Nat} {l:Lf} {w:cu} (h1:(l.map Prod.fst).Nodup) (h2:∀p,p∈l->p.1.spot=none/\p.1.block=b/\o<=p.1.off/\p.1.off<o+sz):Rh b o sz bs l w:=⟨h1,fun p hp=>⟨(h2 p hp).1,Or.inl (h2 p hp).2⟩⟩
theorem Ri {b o sz:Nat} {bs bs':List Nat} {l l':Lf} {w:cu} (h:Rh b o sz bs l w) (k:Good bs' l' w) (hb:b∉bs') (hd:∀x,x∈bs->x∉bs'):Rh b o sz (bs++bs') (l++l') w:=by
 refine⟨?_,fun p hp=>?_⟩
 ·rw[Ig,List.nodup_append]
  refine⟨h.1,k.1,fun x hx y hy e=>?_⟩;subst e;obtain⟨p,hp,e1⟩:=List.mem_map.1 hx;obtain⟨q,hq,e2⟩:=List.mem_map.1 hy;have h1:=(h.2 p hp).2;have h2:=(k.2 q hq).2.1;rw[e1] at h1;rw[e2] at h2;rcases h1 with ⟨c,_⟩|⟨c,_⟩
  ·rw[c] at h2;exact hb h2
  ·exact hd _ c h2
 ·rcases Dx.1 hp with h9|h9
  ·obtain⟨a1,a2⟩:=h.2 p h9
   exact⟨a1,a2.imp id fun⟨a3,a4⟩=>⟨List.mem_append_left _ a3,a4⟩⟩
  ·obtain⟨a1,a2,a3⟩:=k.2 p h9
   exact⟨a1,Or.inr ⟨List.mem_append_right _ a2,a3⟩⟩
theorem ba8 (lo hi:Nat) (w:cu) (x:dh) (b o:Nat):∃l,ae0 lo hi w b o (ny.f x) x l/\Rh b o 1 [] l w :=
 ⟨[(⟨b,o,none⟩,true)],⟨⟨x,rfl⟩,rfl⟩,Wi (by simp) (fun p hp=>by rw[yt] at hp;subst hp;exact⟨rfl,rfl,gu _,by simp⟩)⟩
theorem bbc (lo hi:Nat) (w:cu) (x:Int) (b o:Nat):∃l,ae1 lo hi w b o (Xv.f x) x l/\Rh b o 1 [] l w :=
 ⟨[(⟨b,o,none⟩,false)],⟨⟨x,rfl⟩,rfl⟩,Wi (by simp) (fun p hp=>by rw[yt] at hp;subst hp;exact⟨rfl,rfl,gu _,by simp⟩)⟩
theorem a3r (lo hi:Nat) (w:cu) (x:l9) (b o:Nat):∃l,abg lo hi w b o (Gp.f x) x l/\Rh b o 3 [] l w:=by
 refine⟨[(⟨b,o,none⟩,false),(⟨b,o+1,none⟩,false),(⟨b,o+2,none⟩,true)],⟨⟨_,_,_,rfl⟩,rfl⟩,Wi (by simp) (fun p hp=>?_)⟩;simp only[qj,xq,xu] at hp;rcases hp with rfl|rfl|rfl<;>exact⟨rfl,rfl,by simp,by simp⟩
theorem slotL (lo hi:Nat) (w:cu) (x:jw) (b o:Nat):∃l,abh lo hi w b o (F5.f x) x l/\Rh b o 2 [] l w:=by
 refine⟨[(⟨b,o,none⟩,true),(⟨b,o+1,none⟩,false)],⟨⟨_,_,rfl⟩,rfl⟩,Wi (by simp) (fun p hp=>?_)⟩;simp only[qj,xq,xu] at hp;rcases hp with rfl|rfl<;>exact⟨rfl,rfl,by simp,by simp⟩
theorem Good.bck {b o sz:Nat} {bs:List Nat} {l:Lf} {w:cu} (h:Good bs l w):Rh b o sz bs l w:=⟨h.1,fun p hp=>⟨(h.2 p hp).1,Or.inr (h.2 p hp).2⟩⟩
theorem bbd {lo hi:Nat} {w:cu} {cs:List Value} {x:List l9} {s:List Nat} {b o:Nat} (h:ads w cs x s) (hb:∀c,c∈s->lo<=c/\c<hi):∃l,abx lo hi w b o cs x l/\Rh b o 1 s l w:=by
 obtain⟨v,h1,h2⟩:=h;obtain⟨l,h3,h4⟩:=h2.lat (L:=abg) hb (fun x b o=>a3r lo hi w x b o);exact⟨l,⟨v,l,h1,h3,rfl⟩,h4.bck⟩
theorem X8 {a b:List Nat} (h:(a++b).Nodup):a.Nodup/\b.Nodup/\∀x,x∈a->x∉b:=by
 rw[List.nodup_append] at h;exact⟨h.1,h.2.1,fun x h1 h2=>h.2.2 x h1 x h2 rfl⟩
theorem bei {lo hi:Nat} {w:cu} {cs:List Value} {x:lu} {s:List Nat} {b o:Nat} (h:Y4 w cs x s) (hnd:s.Nodup) (hb:∀c,c∈s->lo<=c/\c<hi) (hbs:b∉s):∃l,aik lo hi w b o cs x l/\Rh b o 6 s l w:=by
 obtain⟨ov,cv,av,b1,b2,b3,h1,h2,h3,h4,h5,h6,h7,rfl⟩:=h;obtain⟨n12,n3,d3⟩:=X8 hnd;obtain⟨n1,n2,d2⟩:=X8 n12;obtain⟨l1,p1,q1⟩:=h5.lat (L:=ae0) (fun c hc=>hb c (by simp[hc])) (fun x b o=>ba8 lo hi w x b o);obtain⟨l2,p2,q2⟩:=h6.lat (L:=abg) (fun c hc=>hb c (by simp[hc])) (fun x b o=>a3r lo hi w x b o);obtain⟨l3,p3,q3⟩:=h7.lat rfl (fun _=>rfl) (L:=abx) n3 (fun c hc=>hb c (by simp[hc])) (fun cs x s b o hr _ hs _=>bbd hr hs)
 have e0:Rh b o 6 [] [((⟨b,o,none⟩:Addr),false),(⟨b,o+1,none⟩,true),(⟨b,o+2,none⟩,false)] w:=Wi (by simp) (fun p hp=>by
  simp only[qj,xq,xu] at hp;rcases hp with rfl|rfl|rfl<;>exact⟨rfl,rfl,by simp,by simp⟩)
 have e1:=Ri e0 q1 (fun h9=>hbs (by simp[h9])) (fun x hx=>by cases hx);have e2:=Ri e1 q2 (fun h9=>hbs (by simp[h9])) (fun x hx=>d2 x (by simpa using hx));have e3:=Ri e2 q3 (fun h9=>hbs (by simp[h9])) (fun x hx=>d3 x (by simpa using hx));exact⟨_,⟨_,_,_,_,_,_,l1,l2,l3,h1,p1,p2,p3,rfl⟩,by simpa using e3⟩
theorem bbe {lo hi:Nat} {w:cu} {cs:List Value} {x:dw} {s:List Nat} {b o:Nat} (h:Ci w cs x s) (hnd:s.Nodup) (hb:∀c,c∈s->lo<=c/\c<hi) (hbs:b∉s):∃l,aay lo hi w b o cs x l/\Rh b o 7 s l w:=by
 obtain⟨v1,v2,v3,v4,v5,v6,b1,b2,b3,b4,b5,b6,h0,hn,h1,h2,h3,h4,h5,h6,rfl⟩:=h;obtain⟨n5,n6,d6⟩:=X8 hnd;obtain⟨n4,_,d5⟩:=X8 n5;obtain⟨n3,_,d4⟩:=X8 n4;obtain⟨n2,_,d3⟩:=X8 n3;obtain⟨n1,_,d2⟩:=X8 n2;obtain⟨l1,p1,q1⟩:=h1.lat (L:=abh) (fun c hc=>hb c (by simp[hc])) (fun x b o=>slotL lo hi w x b o);obtain⟨l2,p2,q2⟩:=h2.lat (L:=abh) (fun c hc=>hb c (by simp[hc])) (fun x b o=>slotL lo hi w x b o);obtain⟨l3,p3,q3⟩:=h3.lat (L:=ae0) (fun c hc=>hb c (by simp[hc])) (fun x b o=>ba8 lo hi w x b o);obtain⟨l4,p4,q4⟩:=h4.lat (L:=ae1) (fun c hc=>hb c (by simp[hc])) (fun x b o=>bbc lo hi w x b o);obtain⟨l5,p5,q5⟩:=h5.lat (L:=ae1) (fun c hc=>hb c (by simp[hc])) (fun x b o=>bbc lo hi w x b o);obtain⟨l6,p6,q6⟩:=h6.lat rfl (fun _=>rfl) (L:=aik) n6 (fun c hc=>hb c (by simp[hc])) (fun cs x s b o hr h8 hs h9=>bei hr h8 hs h9)
 have e0:Rh b o 7 [] [((⟨b,o,none⟩:Addr),true)] w:=Wi (by simp) (fun p hp=>by
  rw[yt] at hp;subst hp;exact⟨rfl,rfl,by simp,by simp⟩)
 have e1:=Ri e0 q1 (fun h9=>hbs (by simp[h9])) (fun x hx=>by cases hx);have e2:=Ri e1 q2 (fun h9=>hbs (by simp[h9])) (fun x hx=>d2 x (by simpa using hx));have e3:=Ri e2 q3 (fun h9=>hbs (by simp[h9])) (fun x hx=>d3 x (by simpa using hx));have e4:=Ri e3 q4 (fun h9=>hbs (by simp[h9])) (fun x hx=>d4 x (by simpa using hx));have e5:=Ri e4 q5 (fun h9=>hbs (by simp[h9])) (fun x hx=>d5 x (by simpa using hx));have e6:=Ri e5 q6 (fun h9=>hbs (by simp[h9])) (fun x hx=>d6 x (by simpa using hx));exact⟨_,⟨_,_,_,_,_,_,_,l1,l2,l3,l4,l5,l6,h0,p1,p2,p3,p4,p5,p6,rfl⟩,by simpa using e6⟩
theorem a8v {lo hi:Nat} {w:cu} {v:Value} {ks:List dw} {bs:List Nat} (h:aai Et Ci w v ks bs) (hnd:bs.Nodup) (hb:∀c,c∈bs->lo<=c/\c<hi):∃l,Lc 7 aay lo hi w v ks l/\Good bs l w :=
 h.lat rfl (fun _=>rfl) hnd hb (fun cs x s b o hr h8 hs h9=>bbe hr h8 hs h9)
def yj {α:Type} {sz:Nat} (E:Fj Tryz.prog (Raw sz)) (R:cu->List Value->α->List Nat->Prop) (B:Nat) (w:cu) (v:Value) (xs:List α) (bs:List Nat):Prop :=
 ∃(css:List (Raw sz)) (subs:List (List Nat)),jq E w B v css/\css.length*E.uf<=140737488355328/\Tz (fun c x s=>R w c.1 x s) css xs subs/\bs=zq v++subs.flatten/\bs.Nodup/\∀b,b∈bs->B<=b/\b<w.heap.size
theorem yj.nil {α:Type} {sz:Nat} (E:Fj Tryz.prog (Raw sz)) (R:cu->List Value->α->List Nat->Prop) (B:Nat) (w:cu):yj E R B w (.slice none 0 0) [] [] :=
 ⟨[],[],jq.nil _ _,by simp,.nil,rfl,List.nodup_nil,fun b hb=>by cases hb⟩
theorem yj.rowT {α:Type} {sz:Nat} {E:Fj Tryz.prog (Raw sz)} {R:cu->List Value->α->List Nat->Prop} {B:Nat} {w:cu} {v:Value} {xs:List α} {bs:List Nat} (h:yj E R B w v xs bs):aai E R w v xs bs:=by
 obtain⟨css,subs,h1,h2,h3,h4,_⟩:=h;exact⟨css,subs,h1.low (jg _),h2,h3,h4⟩
theorem yj.slice {α:Type} {sz:Nat} {E:Fj Tryz.prog (Raw sz)} {R:cu->List Value->α->List Nat->Prop} {B:Nat} {w:cu} {v:Value} {xs:List α} {bs:List Nat} (h:yj E R B w v xs bs):∃a cap,v=.slice a xs.length cap:=by
 obtain⟨css,subs,h1,h2,h3,_⟩:=h;rw[←h3.len.1];exact h1.slice
theorem yj.nd {α:Type} {sz:Nat} {E:Fj Tryz.prog (Raw sz)} {R:cu->List Value->α->List Nat->Prop} {B:Nat} {w:cu} {v:Value} {xs:List α} {bs:List Nat} (h:yj E R B w v xs bs):bs.Nodup/\∀b,b∈bs->B<=b/\b<w.heap.size:=by
 obtain⟨css,subs,_,_,_,_,h1,h2⟩:=h;exact⟨h1,h2⟩
theorem yj.fr {α:Type} {sz:Nat} {E:Fj Tryz.prog (Raw sz)} {R:cu->List Value->α->List Nat->Prop} (hR:alf R) {B:Nat} {w w':cu} {v:Value} {xs:List α} {bs:List Nat} (h:yj E R B w v xs bs) (hf:Fr bs w w') (hz:w.heap.size<=w'.heap.size):yj E R B w' v xs bs:=by
 obtain⟨css,subs,h1,h2,h3,rfl,h4,h5⟩:=h;exact⟨css,subs,h1.Ia (fun b hb=>hf b (List.mem_append_left _ (Bq.2 hb))),h2,h3.mono (fun c x s _ _ hs h9=>hR _ _ _ _ _ h9 (fun b hb=>hf b (List.mem_append_right _ (List.mem_flatten.2 ⟨s,hs,hb⟩)))),rfl,h4,fun b hb=>⟨(h5 b hb).1,qg (h5 b hb).2 hz⟩⟩
theorem ajj {α:Type} {sz:Nat} {E:Fj Tryz.prog (Raw sz)} {R:cu->List Value->α->List Nat->Prop} (hR:alf R) {B:Nat} {w:cu} {v:Value} {css:List (Raw sz)} {ys:List α} {subs:List (List Nat)} (ho:jq E w B v css) (h3:Tz (fun c x s=>R w c.1 x s) css ys subs) (hn:(zq v++subs.flatten).Nodup) (hb:∀b,b∈zq v++subs.flatten->B<=b/\b<w.heap.size)
  {w1 wA w5:cu} (h1:Below w.heap.size w w1) (hA:Below w1.heap.size w1 wA) {c:Raw sz} {y:α} {s:List Nat} (hc:R w1 c.1 y s) (hs:s.Nodup) (hsb:∀b,b∈s->w.heap.size<=b/\b<w1.heap.size) (hBw:B<=w.heap.size) {v':Value} (yh:jq E w5 B v' (css++[c])) (hg5:wA.grownBy w5 v.ownBlock) (F9:∀b,v'.ownBlock=some b->v.ownBlock=some b\/wA.heap.size<=b) (hl:(css++[c]).length*E.uf<=140737488355328) :
  yj E R B w5 v' (ys++[y]) (zq v'++(subs++[s]).flatten):=by
 have hz1:=h1.size;have hzA:=hA.size;have Oy:=hg5.size
 obtain⟨hn1,hn2,hn3⟩:(zq v).Nodup/\subs.flatten.Nodup/\∀x,x∈zq v->x∉subs.flatten:=by
  rw[List.nodup_append] at hn;exact⟨hn.1,hn.2.1,fun x g1 g2=>hn.2.2 x g1 x g2 rfl⟩
 have e9:(subs++[s]).flatten=subs.flatten++s:=by simp
 have hsub:∀b,b∈subs.flatten->B<=b/\b<w.heap.size:=fun b yx=>hb b (List.mem_append_right _ yx)
 have bbf:∀b,v.ownBlock=some b->b<w.heap.size:=fun b yx=>(hb b (List.mem_append_left _ (Bq.2 yx))).2
 have hold:∀b,b<w.heap.size->v.ownBlock≠some b->w5.heap[b]?=w.heap[b]?:=fun b yx hne=>(hg5.block b (by omega) (fun e=>hne e.symm)).trans ((hA.block b (by omega)).trans (h1.block b yx))
 refine⟨css++[c],subs++[s],yh,hl,(h3.mono (fun c x s' _ _ hs' h9=>hR _ _ _ _ _ h9 (fun b yx=>?_))).app (.cons (hR _ _ _ _ _ hc (fun b yx=>?_)) .nil),rfl,?_,?_⟩
 ·have hm:b∈subs.flatten:=List.mem_flatten.2 ⟨s',hs',yx⟩
  exact hold b (hsub b hm).2 (fun e=>hn3 b (Bq.2 e) hm)
 ·have h9:=hsb b yx
  exact(hg5.block b (by omega) (fun e=>by have:=bbf b e.symm;omega)).trans (hA.block b h9.2)
 ·rw[e9,List.nodup_append,List.nodup_append]
  refine⟨?_,⟨hn2,hs,fun x g1 y9 g2 e=>?_⟩,fun x g1 y9 g2 e=>?_⟩
  ·unfold zq
   cases v'.ownBlock<;>simp
  ·subst e
   have:=(hsub x g1).2;have:=(hsb x g2).1;omega
  ·subst e
   rcases F9 x (Bq.1 g1) with g3|g3
   ·rcases Dx.1 g2 with g4|g4
    ·exact hn3 x (Bq.2 g3) g4
    ·have:=bbf x g3
     have:=(hsb x g4).1;omega
   ·rcases Dx.1 g2 with g4|g4
    ·have:=(hsub x g4).2
     omega
    ·have:=(hsb x g4).2
     omega
 ·intro b yx
  rw[e9] at yx;rcases Dx.1 yx with g1|g1
  ·have h9:=Az yh b (Bq.1 g1)
   exact h9
  ·rcases Dx.1 g1 with g2|g2
   ·have:=hsub b g2
    exact⟨this.1,by omega⟩
   ·have:=hsb b g2
    exact⟨by omega,by omega⟩
theorem X9 {l:List Nat}:l.Nodup↔∀x,l.count x<=1:=by
 constructor
 ·intro h x
  induction l with
  | nil=>simp
  | cons a l ih =>
   obtain⟨h1,h2⟩:=List.nodup_cons.1 h;rw[List.count_cons]
   by_cases c:a=x
   ·subst c
    rw[List.count_eq_zero.2 h1];simp
   ·have:(a==x)=false:=by rw[su];exact c
    rw[this];have:=ih h2;simpa using this
 ·intro h
  induction l with
  | nil=>exact List.nodup_nil
  | cons a l ih =>
   refine List.nodup_cons.2 ⟨fun hm=>?_,ih (fun x=>?_)⟩
   ·have h9:=h a
    rw[List.count_cons_self] at h9;have:=List.count_pos_iff.2 hm;omega
   ·have h9:=h x
    rw[List.count_cons] at h9;omega
theorem Nb {l:List Nat} {x:Nat}:x∈l↔1<=l.count x:=by
 rw[←List.count_pos_iff];exact Iff.rfl
theorem ar2 (v:Value) (x:Nat):(zq v).count x<=1:=X9.1 (by unfold zq;cases v.ownBlock<;>simp) x
theorem a6l {lv lv':Value} {n:Nat} (hn:∀b,lv'.ownBlock=some b->lv.ownBlock=some b\/n<=b) (x:Nat) (hx:x<n):(zq lv').count x<=(zq lv).count x:=by
 by_cases h:x∈zq lv'
 ·rcases hn x (Bq.1 h) with h9|h9
  ·have h1:=Nb.1 (Bq.2 h9)
   have h2:=ar2 lv' x;omega
  ·omega
 ·rw[List.count_eq_zero.2 h]
  exact jg _
theorem bbg {l:List Nat} {n x:Nat} (h:∀b,b∈l->b<n) (hx:n<=x):l.count x=0:=List.count_eq_zero.2 (fun hm=>by have:=h x hm;omega)
theorem ayd {sz:Nat} (u:Value) (k:Nat) (hk:k<sz) (c':Raw sz):∀(cs:List (Raw sz)) (i:Nat) (hi:i<cs.length),c'.1=cs[i].1.set k u->(cs.flatMap (fun c=>c.1)).set (i*sz+k) u=(cs.set i c').flatMap (fun c=>c.1):=by
 intro cs
 induction cs with
 | nil=>intro i hi;exact absurd hi (yu _)
 | cons c cs ih =>
  intro i hi hc;have hl:c.1.length=sz:=c.2.1
  cases i with
  | zero =>
   simp only[og] at hc;simp only[List.flatMap_cons,List.set_cons_zero,Nat.zero_mul,Ba];rw[List.set_append_left _ _ (by omega),hc]
  | succ i =>
   simp only[ou] at hc;simp only[List.flatMap_cons,List.set_cons_succ];have e9:(i+1)*sz+k-c.1.length=i*sz+k:=by rw[Nat.succ_mul];omega
   rw[List.set_append_right _ _ (by rw[Nat.succ_mul];omega),e9,ih i (by simpa using hi) hc]
theorem apw {w:cu} {B g cap:Nat} {cs:List (Raw 7)} (h:jq Et w B (.slice (some ⟨g,0,none⟩) cs.length cap) cs) (i k:Nat) (hi:i<cs.length) (hk:k<7) (u:Value) (c':Raw 7) (hc:c'.1=cs[i].1.set k u) :
  jq Et (w.setCell ⟨g,i*7+k,none⟩ u) B (.slice (some ⟨g,0,none⟩) cs.length cap) (cs.set i c'):=by
 obtain⟨h1,h2⟩:=h;rcases h2 with ⟨hv,_⟩|⟨g',cap',cur,hv,hg,hh,hn,hm,hs,ht⟩
 ·cases hv
 ·simp only[qw,uw,Addr.mk.injEq] at hv
  obtain⟨⟨rfl,_⟩,_,rfl⟩:=hv;have hb:jd w g Et.T cur:=hh;have hb2:=hb.set (i*7+k) u;have hfl:=ayd u k hk c' cs i hi hc;refine⟨?_,Or.inr ⟨g,cap,cur.setIfInBounds (i*7+k) u,by rw[List.length_set],hg,hb2,by rw[List.length_set];exact hn,hm,by rw[Array.size_setIfInBounds];exact hs,?_⟩⟩
  ·have h9:(cs.set i c').flatMap Et.f=(cs.flatMap Et.f).set (i*7+k) u:=hfl.symm
   rw[h9,List.length_set,List.length_set];exact h1
  ·have h9:(cs.set i c').flatMap Et.f=(cs.flatMap Et.f).set (i*7+k) u:=hfl.symm
   rw[h9,←ht,Array.toList_setIfInBounds,List.length_set,List.take_set]
theorem RwB.Xl {P:Program} {α:Type} {E:Fj P α} {base:Nat} {w w5:cu} {v:Value} {css:List α} (ho:jq E w base v css) (hg5:w.grownBy w5 v.ownBlock):KpX E.T w w5:=KpX.arw hg5 (fun b hb=>by
 obtain⟨cur,hh⟩:=ho.cellT hb;exact⟨cur,(0,0),hh⟩)
theorem Tz.aiy {α β γ:Type} {R:α->β->γ->Prop} {lb:List β} {b:β}:∀{la:List α} {lc:List γ},Tz R la (lb++[b]) lc->∃la' a' lc' c',la=la'++[a']/\lc=lc'++[c']/\Tz R la' lb lc'/\R a' b c':=by
 induction lb with
 | nil =>
  intro la lc h
  cases h using Tz.inv with
  | cons h1 h2 =>
   cases h2 using Tz.inv;exact⟨[],_,[],_,rfl,rfl,.nil,h1⟩
 | cons x lb ih =>
  intro la lc h
  cases h using Tz.inv with
  | cons h1 h2 =>
   obtain⟨la',a',lc',c',e1,e2,h3,h4⟩:=ih h2;exact⟨_::la',a',_::lc',c',by rw[e1];rfl,by rw[e2];rfl,.cons h1 h3,h4⟩
theorem alg {bs l:List Nat} {g:Nat} {vj:Value} {w w5 W:cu} (hnd:bs.Nodup) (hlt:∀b,b∈bs->b<w.heap.size) (hg:w.grownBy w5 vj.ownBlock) (hW:∀b,b≠g->W.heap[b]?=w5.heap[b]?) (hl:∀x,l.count x+(zq vj).count x+[g].count x<=bs.count x):Fr l w W:=fun b hb=>by
 have h1:=Nb.1 hb;have h2:=hl b;have h3:=X9.1 hnd b;have h4:b∈bs:=Nb.2 (by omega)
 have h5:b≠g:=fun e=>by
  have:[g].count b=1:=by rw[e];simp
  omega
 refine(hW b h5).trans (hg.block b (hlt b h4) (fun e=>?_));have h6:=Nb.1 (Bq.2 e.symm);omega
theorem aye {α:Type} {E:Fj Tryz.prog α} {w:cu} {B:Nat} {v:Value} {xs:List α} (h:jq E w 0 v xs) (hb:∀b,b∈zq v->B<=b):jq E w B v xs:=by
 obtain⟨h1,h2⟩:=h;refine⟨h1,?_⟩;rcases h2 with h2|⟨g,cap,cur,hv,hg,r⟩
 ·exact Or.inl h2
 ·subst hv
  exact Or.inr ⟨g,cap,cur,rfl,hb g (Bq.2 rfl),r⟩
theorem ar4 {X Y:List Nat} {vj Di:Value} {n:Nat} {bs bs':List Nat} (hnd:bs.Nodup) (hlt:∀b,b∈bs->b<n) (hn:∀b,Di.ownBlock=some b->vj.ownBlock=some b\/n<=b) (e1:∀x,bs.count x=X.count x+(zq vj).count x) (e2:∀x,bs'.count x=X.count x+(zq Di).count x):bs'.Nodup:=X9.2 (fun x=>by
 have h1:=e1 x;have h2:=e2 x;have h3:=X9.1 hnd x
 by_cases hx:x<n
 ·have h4:=a6l hn x hx
  omega
 ·have h4:=bbg hlt (show n<=x by omega)
  have h5:=ar2 Di x;omega)
def Dec {α:Type} (E:Fj Tryz.prog α) (ok:α->Prop) (uf j:Nat) (k:dw) (xs:List α) (up:α->dw):Prop :=
 ∀w cs s,Ci w cs k s->∃vj rest,cs[j]?=some vj/\jq E w 0 vj xs/\(∀b,s.count b=rest.count b+(zq vj).count b)/\∀W Di x,ok x->Fr rest w W->jq E W 0 Di (xs++[x])->(xs.length+1)*uf<=140737488355328->∃s',Ci W (cs.set j Di) (up x) s'/\∀b,s'.count b=rest.count b+(zq Di).count b
theorem aec {α:Type} {ok:α->Prop} {xs:List α} {x:α} (h:∀y,y∈xs->ok y) (hx:ok x):∀y,y∈xs++[x]->ok y:=fun y hy=>by
 rcases Dx.1 hy with h9|h9
 ·exact h y h9
 ·rw[yt] at h9
  rw[h9];exact hx
theorem a2d (k:dw):Dec F5 ade 24 1 k k.ins (fun x=>{ k with ins:=k.ins++[x] }):=by
 rintro w cs s ⟨v1,v2,v3,v4,v5,v6,b1,b2,b3,b4,b5,b6,rfl,hnm,g1,g2,g3,g4,g5,g6,rfl⟩;refine⟨v1,b2++b3++b4++b5++b6,rfl,g1.1,fun b=>?_,fun W Di x hx hf ho hl=>⟨_,⟨Di,v2,v3,v4,v5,v6,_,b2,b3,b4,b5,b6,rfl,hnm,⟨ho,aec g1.2.1 hx,by rw[jh];exact hl,rfl⟩,g2.fr (fun b hb=>hf b (by simp[hb])),g3.fr (fun b hb=>hf b (by simp[hb])),g4.fr (fun b hb=>hf b (by simp[hb])),g5.fr (fun b hb=>hf b (by simp[hb])),g6.fr Qs (fun b hb=>hf b (by simp[hb])),rfl⟩,fun b=>?_⟩⟩
 ·rw[←g1.2.2.2]
  simp only[Gt];omega
 ·simp only[Gt]
  omega
theorem a2e (k:dw):Dec F5 ade 24 2 k k.au (fun x=>{ k with au:=k.au++[x] }):=by
 rintro w cs s ⟨v1,v2,v3,v4,v5,v6,b1,b2,b3,b4,b5,b6,rfl,hnm,g1,g2,g3,g4,g5,g6,rfl⟩;refine⟨v2,b1++b3++b4++b5++b6,rfl,g2.1,fun b=>?_,fun W Di x hx hf ho hl=>⟨_,⟨v1,Di,v3,v4,v5,v6,b1,_,b3,b4,b5,b6,rfl,hnm,g1.fr (fun b hb=>hf b (by simp[hb])),⟨ho,aec g2.2.1 hx,by rw[jh];exact hl,rfl⟩,g3.fr (fun b hb=>hf b (by simp[hb])),g4.fr (fun b hb=>hf b (by simp[hb])),g5.fr (fun b hb=>hf b (by simp[hb])),g6.fr Qs (fun b hb=>hf b (by simp[hb])),rfl⟩,fun b=>?_⟩⟩
 ·rw[←g2.2.2.2]
  simp only[Gt];omega
 ·simp only[Gt]
  omega
theorem a97 (k:dw):Dec ny okS 16 3 k k.iw (fun x=>{ k with iw:=k.iw++[x] }):=by
 rintro w cs s ⟨v1,v2,v3,v4,v5,v6,b1,b2,b3,b4,b5,b6,rfl,hnm,g1,g2,g3,g4,g5,g6,rfl⟩;refine⟨v3,b1++b2++b4++b5++b6,rfl,g3.1,fun b=>?_,fun W Di x hx hf ho hl=>⟨_,⟨v1,v2,Di,v4,v5,v6,b1,b2,_,b4,b5,b6,rfl,hnm,g1.fr (fun b hb=>hf b (by simp[hb])),g2.fr (fun b hb=>hf b (by simp[hb])),⟨ho,aec g3.2.1 hx,by rw[jh];exact hl,rfl⟩,g4.fr (fun b hb=>hf b (by simp[hb])),g5.fr (fun b hb=>hf b (by simp[hb])),g6.fr Qs (fun b hb=>hf b (by simp[hb])),rfl⟩,fun b=>?_⟩⟩
 ·rw[←g3.2.2.2]
  simp only[Gt];omega
 ·simp only[Gt]
  omega
theorem a98 (k:dw):Dec Xv I64 8 4 k k.gq (fun x=>{ k with gq:=k.gq++[x] }):=by
 rintro w cs s ⟨v1,v2,v3,v4,v5,v6,b1,b2,b3,b4,b5,b6,rfl,hnm,g1,g2,g3,g4,g5,g6,rfl⟩;refine⟨v4,b1++b2++b3++b5++b6,rfl,g4.1,fun b=>?_,fun W Di x hx hf ho hl=>⟨_,⟨v1,v2,v3,Di,v5,v6,b1,b2,b3,_,b5,b6,rfl,hnm,g1.fr (fun b hb=>hf b (by simp[hb])),g2.fr (fun b hb=>hf b (by simp[hb])),g3.fr (fun b hb=>hf b (by simp[hb])),⟨ho,aec g4.2.1 hx,by rw[jh];exact hl,rfl⟩,g5.fr (fun b hb=>hf b (by simp[hb])),g6.fr Qs (fun b hb=>hf b (by simp[hb])),rfl⟩,fun b=>?_⟩⟩
 ·rw[←g4.2.2.2]
  simp only[Gt];omega
 ·simp only[Gt]
  omega
theorem a99 (k:dw):Dec Xv I64 8 5 k k.ay (fun x=>{ k with ay:=k.ay++[x] }):=by
 rintro w cs s ⟨v1,v2,v3,v4,v5,v6,b1,b2,b3,b4,b5,b6,rfl,hnm,g1,g2,g3,g4,g5,g6,rfl⟩;refine⟨v5,b1++b2++b3++b4++b6,rfl,g5.1,fun b=>?_,fun W Di x hx hf ho hl=>⟨_,⟨v1,v2,v3,v4,Di,v6,b1,b2,b3,b4,_,b6,rfl,hnm,g1.fr (fun b hb=>hf b (by simp[hb])),g2.fr (fun b hb=>hf b (by simp[hb])),g3.fr (fun b hb=>hf b (by simp[hb])),g4.fr (fun b hb=>hf b (by simp[hb])),⟨ho,aec g5.2.1 hx,by rw[jh];exact hl,rfl⟩,g6.fr Qs (fun b hb=>hf b (by simp[hb])),rfl⟩,fun b=>?_⟩⟩
 ·rw[←g5.2.2.2]
  simp only[Gt];omega
 ·simp only[Gt]
  omega
theorem Qu {α:Type} {E:Fj Tryz.prog α} {ok:α->Prop} {uf j:Nat} {k:dw} {xs:List α} {up:α->dw} (hd:Dec E ok uf j k xs up) (hj:j<7) (hT:50≠E.T) {B g n cap:Nat} {w:cu} {a:List dw} {bs:List Nat} (h:yj Et Ci B w (.slice (some ⟨g,0,none⟩) n cap) (a++[k]) bs):∃vj,w.cell? ⟨g,a.length*7+j,none⟩=some vj/\jq E w B vj xs/\g<w.heap.size/\∀Di w5 x,ok x->jq E w5 B Di (xs++[x])->w.grownBy w5 vj.ownBlock->(∀b,Di.ownBlock=some b->vj.ownBlock=some b\/w.heap.size<=b)->(xs.length+1)*uf<=140737488355328->(w5.cell? ⟨g,a.length*7+j,none⟩=some vj/\w5.frozen? ⟨g,a.length*7+j,none⟩=false)/\∃bs',yj Et Ci B (w5.setCell ⟨g,a.length*7+j,none⟩ Di) (.slice (some ⟨g,0,none⟩) n cap) (a++[up x]) bs':=by
 obtain⟨css,subs,ho,hl,h3,hbs,hnd,hbb⟩:=h;obtain⟨ca,c,sa,s,rfl,rfl,h4,hC⟩:=h3.aiy;have hla:=h4.len;obtain⟨vj,rest,hcj,hoj,hcs,hup⟩:=hd _ _ _ hC;obtain⟨cur,hcur⟩:=ho.cellT (g:=g) rfl
 have hcnt:∀b,bs.count b=[g].count b+sa.flatten.count b+rest.count b+(zq vj).count b:=fun b=>by
  have h9:=hcs b;rw[hbs,show zq (.slice (some ⟨g,0,none⟩) n cap)=[g] from rfl,Yw,Gt,Gt];simp only[adh,List.flatten_nil,Aq];omega
 have hgj:∀b,b∈zq vj->B<=b/\b<w.heap.size:=fun b hb=>hbb b (Nb.2 (by have h9:=Nb.1 hb;have h8:=hcnt b;omega))
 obtain⟨g0,cap0,hv0,hcells⟩:=Zl ho a.length (by rw[jh];simp;omega);simp only[qw,uw,Addr.mk.injEq] at hv0;obtain⟨⟨rfl,_⟩,rfl,rfl⟩:=hv0
 have hci:(ca++[c])[a.length]'(by rw[jh];simp;omega)=c:=by
  rw[List.getElem_append_right (by omega)];simp
 have hcw:=hcells j vj (by rw[hci];exact hcj);refine⟨vj,hcw,aye hoj (fun b hb=>(hgj b hb).1),(show jd w g 50 cur from hcur).lt,fun Di w5 x hx yh hg F9 hlen=>?_⟩;have hb5:jd w5 g 50 cur:=(RwB.Xl hoj hg).blk (show jd w g 50 cur from hcur) hT;have hg5:w5.heap[g]?=w.heap[g]?:=(show w5.heap[g]?=_ from hb5).trans hcur.symm;refine⟨⟨(World.cell?_of_block (w:=w) hg5).trans hcw,hb5.free _⟩,?_⟩;have hW:∀b,b≠g->(w5.setCell ⟨g,a.length*7+j,none⟩ Di).heap[b]?=w5.heap[b]?:=fun b hb=>zf _ _ _ _ (fun e=>hb e)
 have a2v:jq E (w5.setCell ⟨g,a.length*7+j,none⟩ Di) 0 Di (xs++[x]):=by
  refine(yh.low (jg _)).Ia (fun b hb=>hW b (fun e=>?_));obtain⟨bej,h9⟩:=yh.cellT hb;rw[e,show w5.heap[g]?=_ from hb5] at h9;simp only[uw,Obj.cells.injEq] at h9;exact hT h9.2.1
 have qa:Fr sa.flatten w (w5.setCell ⟨g,a.length*7+j,none⟩ Di):=alg hnd (fun b hb=>(hbb b hb).2) hg hW (fun x=>by have h9:=hcnt x;omega);have qr:Fr rest w (w5.setCell ⟨g,a.length*7+j,none⟩ Di):=alg hnd (fun b hb=>(hbb b hb).2) hg hW (fun x=>by have h9:=hcnt x;omega);obtain⟨s',hC',hcs'⟩:=hup _ Di x hx qr a2v hlen
 have a2w:jq Et w5 B (.slice (some ⟨g,0,none⟩) (ca++[c]).length cap) (ca++[c]):=ho.Ia (fun b hb=>by
  have e:g=b:=by simpa[Value.ownBlock] using hb
  subst e;exact hg5)
 obtain⟨aj,cj,a2x⟩:=yh.slice
 have hov:∀u,u∈c.1.set j Di->u.oneCell'=true:=fun u hu=>by
  rcases List.mem_or_eq_of_mem_set hu with h9|h9
  ·exact c.2.2 u h9
  ·rw[h9,a2x]
   rfl
 obtain⟨c',hc'⟩:∃c':Raw 7,c'.1=c.1.set j Di:=⟨⟨c.1.set j Di,by rw[List.length_set];exact c.2.1,hov⟩,rfl⟩;have hset:=apw a2w a.length j (by rw[jh];simp;omega) hj Di c' (by rw[hci];exact hc')
 have hss:(ca++[c]).set a.length c'=ca++[c']:=by
  rw[List.set_append_right _ _ (by omega)];simp[hla.1]
 rw[hss] at hset;have hlc:(ca++[c]).length=(ca++[c']).length:=by simp
 refine⟨[g]++(sa++[s']).flatten,ca++[c'],sa++[s'],hset,by rw[←hlc];exact hl,(h4.mono (fun c x s _ _ hs h9=>Iy _ _ _ _ _ h9 (fun b hb=>qa b (List.mem_flatten.2 ⟨s,hs,hb⟩)))).app (.cons (by rw[hc'];exact hC') .nil),rfl,?_,fun b hb=>?_⟩
 ·refine ar4 (X:=[g]++sa.flatten++rest) (Y:=[]) (vj:=vj) (Di:=Di) hnd (fun b hb=>(hbb b hb).2) F9 (fun x=>?_) (fun x=>?_)
  ·rw[hcnt x]
   simp only[Gt]
  ·have h9:=hcs' x
   rw[Yw,Gt,Gt];simp only[adh,List.flatten_nil,Aq,Gt];omega
 ·have hz:(w5.setCell ⟨g,a.length*7+j,none⟩ Di).heap.size=w5.heap.size:=by simp[World.setCell]
  rw[hz];have hws:=hg.size
  by_cases hm:b∈zq Di
  ·exact Az yh b (Bq.1 hm)
  ·have h9:=Nb.1 hb
   have h7:=hcs' b;rw[Gt,Yw,Gt] at h9;simp only[adh,List.flatten_nil,Aq] at h9;rw[List.count_eq_zero.2 hm] at h7;have h8:=hbb b (Nb.2 (by have h7:=hcnt b;omega));exact⟨h8.1,by omega⟩
def bcl (k:dw) (s:lu):dw:={ k with body:=k.body++[s] }
theorem yj.aes {B g n cap:Nat} {w:cu} {a:List dw} {k:dw} {bs:List Nat} (h:yj Et Ci B w (.slice (some ⟨g,0,none⟩) n cap) (a++[k]) bs):∃v6 Pe,w.cell? ⟨g,a.length*7+6,none⟩=some v6/\jq abq w B v6 Pe/\Pe.length=k.body.length/\g<w.heap.size/\∀v6' w5 (c:Raw 6) (s:lu) (sb:List Nat),Y4 w c.1 s sb->sb.Nodup->(∀b,b∈sb->b∉bs/\B<=b)->jq abq w5 B v6' (Pe++[c])->w.grownBy w5 v6.ownBlock->(∀b,v6'.ownBlock=some b->v6.ownBlock=some b\/w.heap.size<=b)->(k.body.length+1)*104<=140737488355328->(w5.cell? ⟨g,a.length*7+6,none⟩=some v6/\w5.frozen? ⟨g,a.length*7+6,none⟩=false)/\∃bs',yj Et Ci B (w5.setCell ⟨g,a.length*7+6,none⟩ v6') (.slice (some ⟨g,0,none⟩) n cap) (a++[bcl k s]) bs':=by
 obtain⟨css,subs,ho,hl,h3,hbs,hnd,hbb⟩:=h;obtain⟨ca,c,sa,s0,rfl,rfl,h4,hT⟩:=h3.aiy;have hla:=h4.len;obtain⟨v1,v2,v3,v4,v5,v6,b1,b2,b3,b4,b5,b6,hcs,hnm,g1,g2,g3,g4,g5,g6,rfl⟩:=hT;obtain⟨Pe,su6,o6,l6,a6,hb6⟩:=g6;have hl6:=a6.len;obtain⟨cur,hcur⟩:=ho.cellT (g:=g) rfl;have hbv:zq (.slice (some ⟨g,0,none⟩) n cap)=[g]:=rfl
 have hcnt:∀x,bs.count x=[g].count x+sa.flatten.count x+b1.count x+b2.count x+b3.count x+b4.count x+b5.count x+((zq v6).count x+su6.flatten.count x):=fun x=>by
  rw[hbs,hbv,Yw,Gt,Gt];simp only[adh,List.flatten_nil,Aq,Gt,hb6];omega
 have hgj:∀b,b∈zq v6->B<=b/\b<w.heap.size:=fun b hb=>hbb b (Nb.2 (by have h9:=Nb.1 hb;have h8:=hcnt b;omega))
 obtain⟨g0,cap0,hv0,hcells⟩:=Zl ho a.length (by rw[jh];simp;omega);simp only[qw,uw,Addr.mk.injEq] at hv0;obtain⟨⟨rfl,_⟩,rfl,rfl⟩:=hv0
 have hci:(ca++[c])[a.length]'(by rw[jh];simp;omega)=c:=by
  rw[List.getElem_append_right (by omega)];simp
 refine⟨v6,Pe,hcells 6 _ (by rw[hci,hcs];rfl),aye o6 (fun b hb=>(hgj b hb).1),hl6.1,(show jd w g 50 cur from hcur).lt,fun Di w5 cN s sb hTN bek bbh yh hg F9 hlen=>?_⟩;have hkx:KpX 60 w w5:=RwB.Xl o6 hg;have hb5:jd w5 g 50 cur:=hkx.blk (show jd w g 50 cur from hcur) (by decide)
 have bbj:w5.cell? ⟨g,a.length*7+6,none⟩=some v6:=by
  have h9:w5.cell? ⟨g,a.length*7+6,none⟩=w.cell? ⟨g,a.length*7+6,none⟩:=by
   unfold World.cell?;rw[show w5.heap[g]?=w.heap[g]? from (show w5.heap[g]?=_ from hb5).trans hcur.symm]
  rw[h9];exact hcells 6 _ (by rw[hci,hcs];rfl)
 refine⟨⟨bbj,hb5.free _⟩,?_⟩;have hsl:∀b,b∈sb->b<w.heap.size:=(ahi _ _ _ _ hTN).lt
 have hndA:(bs++sb).Nodup:=X9.2 (fun x=>by
  rw[Gt];have h1:=X9.1 hnd x;have h2:=X9.1 bek x
  by_cases hm:x∈sb
  ·rw[List.count_eq_zero.2 (bbh x hm).1];omega
  ·rw[List.count_eq_zero.2 hm];omega)
 have bbk:∀b,b∈bs++sb->b<w.heap.size:=fun b hb=>(Dx.1 hb).elim (fun h9=>(hbb b h9).2) (hsl b)
 have abl:∀x,(bs++sb).count x=[g].count x+sa.flatten.count x+b1.count x+b2.count x+b3.count x+b4.count x+b5.count x+((zq v6).count x+su6.flatten.count x)+sb.count x:=fun x=>by rw[Gt,hcnt x]
 have hW:∀b,b≠g->(w5.setCell ⟨g,a.length*7+6,none⟩ Di).heap[b]?=w5.heap[b]?:=fun b hb=>zf _ _ _ _ (fun e=>hb e)
 have a2v:jq abq (w5.setCell ⟨g,a.length*7+6,none⟩ Di) 0 Di (Pe++[cN]):=by
  refine(yh.low (jg _)).Ia (fun b hb=>hW b (fun e=>?_));obtain⟨bej,h9⟩:=yh.cellT hb;rw[e,show w5.heap[g]?=_ from hb5] at h9;simp only[uw,Obj.cells.injEq] at h9;exact absurd h9.2.1 (by decide)
 have fr:∀l:List Nat,(∀x,l.count x+(zq v6).count x+[g].count x<=(bs++sb).count x)->Fr l w (w5.setCell ⟨g,a.length*7+6,none⟩ Di):=fun l Ux=>alg hndA bbk hg hW Ux
 have qa:=fr sa.flatten (fun x=>by have h9:=abl x;omega);have q1:=fr b1 (fun x=>by have h9:=abl x;omega);have q2:=fr b2 (fun x=>by have h9:=abl x;omega);have q3:=fr b3 (fun x=>by have h9:=abl x;omega);have q4:=fr b4 (fun x=>by have h9:=abl x;omega);have q5:=fr b5 (fun x=>by have h9:=abl x;omega);have q6:=fr su6.flatten (fun x=>by have h9:=abl x;omega);have q7:=fr sb (fun x=>by have h9:=abl x;omega)
 have a2w:jq Et w5 B (.slice (some ⟨g,0,none⟩) (ca++[c]).length cap) (ca++[c]):=ho.Ia (fun b hb=>by
  have e:g=b:=by simpa[Value.ownBlock] using hb
  subst e;exact(show w5.heap[g]?=_ from hb5).trans hcur.symm)
 have hov:∀u,u∈[.string k.name,v1,v2,v3,v4,v5,Di]->u.oneCell'=true:=fun u hu=>by
  have h9:=c.2.2;rw[hcs] at h9;obtain⟨aj,cj,a2x⟩:=yh.slice;simp only[qj,xq,xu] at hu;rcases hu with rfl|rfl|rfl|rfl|rfl|rfl|rfl
  all_goals first|(rw[a2x];rfl)|exact h9 _ (by simp)
 have hset:=apw a2w a.length 6 (by rw[jh];simp;omega) (by decide) Di ⟨[.string k.name,v1,v2,v3,v4,v5,Di],by simp,hov⟩ (by rw[hci,hcs];rfl)
 have hss:(ca++[c]).set a.length ⟨[.string k.name,v1,v2,v3,v4,v5,Di],by simp,hov⟩=ca++[⟨[.string k.name,v1,v2,v3,v4,v5,Di],by simp,hov⟩]:=by
  rw[List.set_append_right _ _ (by omega)];simp[hla.1]
 rw[hss] at hset;have hlc:(ca++[c]).length=(ca++[(⟨[.string k.name,v1,v2,v3,v4,v5,Di],by simp,hov⟩:Raw 7)]).length:=by simp
 refine⟨[g]++(sa++[b1++b2++b3++b4++b5++(zq Di++(su6++[sb]).flatten)]).flatten,ca++[⟨[.string k.name,v1,v2,v3,v4,v5,Di],by simp,hov⟩],sa++[b1++b2++b3++b4++b5++(zq Di++(su6++[sb]).flatten)],hset,by rw[←hlc];exact hl,(h4.mono (fun c x s _ _ hs h9=>Iy _ _ _ _ _ h9 (fun b hb=>qa b (List.mem_flatten.2 ⟨s,hs,hb⟩)))).app (.cons ?_ .nil),rfl,?_,fun b hb=>?_⟩
 ·refine⟨v1,v2,v3,v4,v5,Di,b1,b2,b3,b4,b5,_,rfl,hnm,g1.fr q1,g2.fr q2,g3.fr q3,g4.fr q4,g5.fr q5,⟨Pe++[cN],su6++[sb],a2v,?_,?_,rfl⟩,rfl⟩
  ·rw[jh,hl6.1];exact hlen
  ·exact(a6.mono (fun c x s _ _ hs h9=>Qs _ _ _ _ _ h9 (fun b hb=>q6 b (List.mem_flatten.2 ⟨s,hs,hb⟩)))).app (.cons (Qs _ _ _ _ _ hTN q7) .nil)
 ·refine ar4 (X:=[g]++sa.flatten++b1++b2++b3++b4++b5++su6.flatten++sb) (Y:=[]) (vj:=v6) (Di:=Di) hndA bbk F9 (fun x=>?_) (fun x=>?_)
  ·rw[abl x]
   simp only[Gt];omega
  ·simp only[Yw,adh,List.flatten_nil,Aq,Gt]
   omega
 ·have hz:(w5.setCell ⟨g,a.length*7+6,none⟩ Di).heap.size=w5.heap.size:=by simp[World.setCell]
  rw[hz];have hws:=hg.size
  by_cases hm:b∈zq Di
  ·exact Az yh b (Bq.1 hm)
  ·by_cases hm2:b∈sb
   ·exact⟨(bbh b hm2).2,by have:=hsl b hm2;omega⟩
   ·have h9:=Nb.1 hb
    simp only[Yw,adh,List.flatten_nil,Aq,Gt,List.count_eq_zero.2 hm,List.count_eq_zero.2 hm2] at h9;have h8:=hbb b (Nb.2 (by have h7:=hcnt b;omega));exact⟨h8.1,by omega⟩
structure Jz (W1:cu) (mb:Nat) (cs:List dw) (mv:Value) (bs:List Nat) (wr:cu):Prop where
 box:jd wr mb 24 #[mv]
 row:yj Et Ci W1.heap.size wr mv cs bs
 but:But [mb] W1 wr
theorem Jz.below {W1:cu} {mb:Nat} {cs:List dw} {mv:Value} {bs:List Nat} {wr w':cu} (h:Jz W1 mb cs mv bs wr) (hb:Below wr.heap.size wr w'):Jz W1 mb cs mv bs w' :=
 ⟨h.box.below hb h.box.lt,h.row.fr Iy (fun b yx=>hb.block b (h.row.nd.2 b yx).2) hb.size,h.but.trans (But.of_below hb)⟩
theorem ag1 {w:cu} {B:Nat} {v:Value} {ps:List dh} (h:jq ny w B v ps) (hl:1<=ps.length):∃g cap,v=.slice (some ⟨g,0,none⟩) ps.length cap/\B<=g/\g<w.heap.size/\(∃cur,jd w g 9 cur)/\∀i (hi:i<ps.length),w.cell? ⟨g,i,none⟩=some (.string ps[i]):=by
 rcases h.afg with ⟨_,_,hh1,hh2⟩|⟨g,cap,hh1,hh2⟩
 ·rw[hh2] at hl;exact absurd hl (by decide)
 ·subst hh1
  obtain⟨cur,hcur⟩:=h.cellT (g:=g) rfl;have hlt:=Az h g rfl;refine⟨g,cap,rfl,hlt.1,hlt.2,⟨cur,hcur⟩,fun i hi=>?_⟩;have h9:=(hh2 i hi 0 (by simp[ny])).1;simpa[ny] using h9
theorem Jj (f:List dh) (i:Nat) (h:i<f.length):f[i]=fA f i:=by
 unfold fA;rw[yw,jy h];rfl
theorem I4 {W1:cu} {mb:Nat} {cs:List dw} {mv:Value} {bs:List Nat} {wr:cu} (hg:Jz W1 mb cs mv bs wr) (eu:dh) (hs:eu.size<=1048576):Calls Tryz.prog 19 #[.string eu,.int .u8 32] wr (fun e w2=>∃g cap,e=.returned (.slice (some ⟨g,0,none⟩) (wordsOf 32 eu).length cap)/\Hid (Jz W1 mb cs mv bs w2/\jq ny w2 wr.heap.size (.slice (some ⟨g,0,none⟩) (wordsOf 32 eu).length cap) (wordsOf 32 eu)/\(∃cur,jd w2 g 9 cur)/\g∉bs)/\Hid (∀i,i<(wordsOf 32 eu).length->w2.cell? ⟨g,i,none⟩=some (.string (fA (wordsOf 32 eu) i)))/\g<w2.heap.size):=by
 refine(aj1 eu 32 wr hs).mono ?_;rintro e w2 ⟨v,rfl,ho,hb⟩;obtain⟨g,cap,rfl,h1,h2,h3,h4⟩:=ag1 ho (E5.2 (Ei 32 eu));refine⟨g,cap,rfl,ak ⟨hg.below hb,ho,h3,fun h9=>?_⟩,ak (fun i hi=>by rw[h4 i hi,Jj]),h2⟩;have:=(hg.row.nd.2 g h9).2;omega
theorem ab9 (p:dh):(p.toList==[99,108,97,115,115])=decide (p=vw):=Hw p vw _ rfl
theorem abk (p:dh):(p.toList==[105,110])=decide (p=Ic):=Hw p Ic _ rfl
theorem aa5 (p:dh):(p.toList==[111,117,116])=decide (p=Dz):=Hw p Dz _ rfl
theorem acd (p:dh):(p.toList==[108,111,99])=decide (p=Ee):=Hw p Ee _ rfl
theorem aea (p:dh):(p.toList==[109,101,109])=decide (p=Ef):=Hw p Ef _ rfl
theorem agq (p:dh):(p.toList==[117,115,101])=decide (p=Eh):=Hw p Eh _ rfl
theorem Zj (p:dh):(p.toList==[115,101,116])=decide (p=Je):=Hw p Je _ rfl
theorem Yr (p:dh):(p.toList==[115,97,118,101])=decide (p=Fp):=Hw p Fp _ rfl
theorem ahg (p:dh):(p.toList==[105,102])=decide (p=Qg):=Hw p Qg _ rfl
theorem aah (p:dh):(p.toList==[99,97,108,108])=decide (p=zx):=Hw p zx _ rfl
theorem Wh (p:dh):(p.toList==[101,108,115,101])=decide (p=Fg):=Hw p Fg _ rfl
theorem aa4 (p:dh):(p.toList==[101,110,100])=decide (p=Iz):=Hw p Iz _ rfl
theorem aj9 (p:dh):(p.toList==[105,110,116])=decide (p=Z9):=Hw p Z9 _ rfl
end Go.Proofs.YtfeejeflmcapoaaGreatDoor
