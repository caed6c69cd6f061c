import Derived.Test.YtfeejeflmcapoaaGreatDoorMX
import Derived.Deep.RegionHeld3
import Derived.Deep.QuietTactic
import Derived.BigQuiet
import Derived.Test.YtfeejeflmcapoaaGreatDoorRG4
import Derived.Test.YtfeejeflmcapoaaGreatDoorRI3
import Derived.Test.YtfeejeflmcapoaaGreatDoorRT1
set_option linter.unusedSimpArgs false
set_option linter.unusedVariables false
set_option maxHeartbeats 1000000
namespace Go.Proofs.YtfeejeflmcapoaaGreatDoor
open Go.RowKit
theorem Na.Zv {α β γ:Type} {R:α->β->γ->Prop} {lb:List β} {b:β}:∀{la:List α} {lc:List γ},Na R la (lb++[b]) lc->∃la' a' lc' c',la=la'++[a']∧lc=lc'++[c']∧Na R la' lb lc'∧R a' b c':=by
 induction lb with
 | nil =>
  intro la lc h
  cases h with
  | cons h1 h2 =>
   cases h2;exact⟨[],_,[],_,rfl,rfl,.nil,h1⟩
 | cons x lb ih =>
  intro la lc h
  cases h with
  | cons h1 h2 =>
   obtain⟨la',a',lc',c',e1,e2,h3,h4⟩:=ih h2;exact⟨_::la',a',_::lc',c',by rw[e1];rfl,by rw[e2];rfl,.cons h1 h3,h4⟩
theorem ak8 {bs l:List Nat} {g:Nat} {vj:Value} {w w5 W:bf} (hnd:bs.Nodup) (hlt:∀b,b∈bs->b<w.heap.size) (hg:w.grownBy w5 vj.ownBlock) (hW:∀b,b≠g->W.heap[b]?=w5.heap[b]?) (hl:∀x,l.count x+(zx vj).count x+[g].count x<=bs.count x):Fr l w W:=fun b hb=>by
 have h1:=Nj.1 hb;have h2:=hl b;have h3:=Ya.1 hnd b;have h4:b∈bs:=Nj.2 (by omega)
 have h5:b≠g:=fun e=>by
  have:[g].count b=1:=by rw[e];simp
  omega
 refine(hW b h5).trans (hg.block b (hlt b h4) (fun e=>?_));have h6:=Nj.1 (Ce.2 e.symm);omega
theorem axr {α:Type} {E:F6 Tryz.prog α} {w:bf} {B:Nat} {v:Value} {xs:List α} (h:jm E w 0 v xs) (hb:∀b,b∈zx v->B<=b):jm E w B v xs:=by
 obtain⟨h1,h2⟩:=h;refine⟨h1,?_⟩;rcases h2 with h2|⟨g,cap,cur,hv,hg,r⟩
 ·exact Or.inl h2
 ·subst hv
  exact Or.inr ⟨g,cap,cur,rfl,hb g (Ce.2 rfl),r⟩
theorem ars {X Y:List Nat} {vj Dt:Value} {n:Nat} {bs bs':List Nat} (hnd:bs.Nodup) (hlt:∀b,b∈bs->b<n) (hn:∀b,Dt.ownBlock=some b->vj.ownBlock=some b∨n<=b) (e1:∀x,bs.count x=X.count x+(zx vj).count x) (e2:∀x,bs'.count x=X.count x+(zx Dt).count x):bs'.Nodup:=Ya.2 (fun x=>by
 have h1:=e1 x;have h2:=e2 x;have h3:=Ya.1 hnd x
 by_cases hx:x<n
 ·have h4:=a4z hn x hx
  omega
 ·have h4:=a9r hlt (show n<=x by omega)
  have h5:=ard Dt x;omega)
def Dec {α:Type} (E:F6 Tryz.prog α) (ok:α->Prop) (qy j:Nat) (k:dw) (xs:List α) (up:α->dw):Prop :=
 ∀w cs s,Dj w cs k s->∃vj rest,cs[j]?=some vj∧jm E w 0 vj xs∧(∀b,s.count b=rest.count b+(zx vj).count b)∧∀W Dt x,ok x->Fr rest w W->jm E W 0 Dt (xs++[x])->(xs.length+1)*qy<=140737488355328->∃s',Dj W (cs.set j Dt) (up x) s'∧∀b,s'.count b=rest.count b+(zx Dt).count b
theorem aec {α:Type} {ok:α->Prop} {xs:List α} {x:α} (h:∀y,y∈xs->ok y) (hx:ok x):∀y,y∈xs++[x]->ok y:=fun y hy=>by
 rcases Ec.1 hy with h9|h9
 ·exact h y h9
 ·rw[yj] at h9
  rw[h9];exact hx
theorem a1q (k:dw):Dec Gh adh 24 1 k k.ins (fun x=>{ k with ins:=k.ins++[x] }):=by
 rintro w cs s ⟨v1,v2,v3,v4,v5,v6,b1,b2,b3,b4,b5,b6,rfl,hnm,g1,g2,g3,g4,g5,g6,rfl⟩;refine⟨v1,b2++b3++b4++b5++b6,rfl,g1.1,fun b=>?_,fun W Dt x hx hf ho hl=>⟨_,⟨Dt,v2,v3,v4,v5,v6,_,b2,b3,b4,b5,b6,rfl,hnm,⟨ho,aec g1.2.1 hx,by rw[je];exact hl,rfl⟩,g2.fr (fun b hb=>hf b (by simp[hb])),g3.fr (fun b hb=>hf b (by simp[hb])),g4.fr (fun b hb=>hf b (by simp[hb])),g5.fr (fun b hb=>hf b (by simp[hb])),g6.fr Qz (fun b hb=>hf b (by simp[hb])),rfl⟩,fun b=>?_⟩⟩
 ·rw[←g1.2.2.2]
  simp only[Gz];omega
 ·simp only[Gz]
  omega
theorem a1r (k:dw):Dec Gh adh 24 2 k k.ak (fun x=>{ k with ak:=k.ak++[x] }):=by
 rintro w cs s ⟨v1,v2,v3,v4,v5,v6,b1,b2,b3,b4,b5,b6,rfl,hnm,g1,g2,g3,g4,g5,g6,rfl⟩;refine⟨v2,b1++b3++b4++b5++b6,rfl,g2.1,fun b=>?_,fun W Dt x hx hf ho hl=>⟨_,⟨v1,Dt,v3,v4,v5,v6,b1,_,b3,b4,b5,b6,rfl,hnm,g1.fr (fun b hb=>hf b (by simp[hb])),⟨ho,aec g2.2.1 hx,by rw[je];exact hl,rfl⟩,g3.fr (fun b hb=>hf b (by simp[hb])),g4.fr (fun b hb=>hf b (by simp[hb])),g5.fr (fun b hb=>hf b (by simp[hb])),g6.fr Qz (fun b hb=>hf b (by simp[hb])),rfl⟩,fun b=>?_⟩⟩
 ·rw[←g2.2.2.2]
  simp only[Gz];omega
 ·simp only[Gz]
  omega
theorem bai (k:dw):Dec ni okS 16 3 k k.iq (fun x=>{ k with iq:=k.iq++[x] }):=by
 rintro w cs s ⟨v1,v2,v3,v4,v5,v6,b1,b2,b3,b4,b5,b6,rfl,hnm,g1,g2,g3,g4,g5,g6,rfl⟩;refine⟨v3,b1++b2++b4++b5++b6,rfl,g3.1,fun b=>?_,fun W Dt x hx hf ho hl=>⟨_,⟨v1,v2,Dt,v4,v5,v6,b1,b2,_,b4,b5,b6,rfl,hnm,g1.fr (fun b hb=>hf b (by simp[hb])),g2.fr (fun b hb=>hf b (by simp[hb])),⟨ho,aec g3.2.1 hx,by rw[je];exact hl,rfl⟩,g4.fr (fun b hb=>hf b (by simp[hb])),g5.fr (fun b hb=>hf b (by simp[hb])),g6.fr Qz (fun b hb=>hf b (by simp[hb])),rfl⟩,fun b=>?_⟩⟩
 ·rw[←g3.2.2.2]
  simp only[Gz];omega
 ·simp only[Gz]
  omega
theorem baj (k:dw):Dec Xy I64 8 4 k k.eu (fun x=>{ k with eu:=k.eu++[x] }):=by
 rintro w cs s ⟨v1,v2,v3,v4,v5,v6,b1,b2,b3,b4,b5,b6,rfl,hnm,g1,g2,g3,g4,g5,g6,rfl⟩;refine⟨v4,b1++b2++b3++b5++b6,rfl,g4.1,fun b=>?_,fun W Dt x hx hf ho hl=>⟨_,⟨v1,v2,v3,Dt,v5,v6,b1,b2,b3,_,b5,b6,rfl,hnm,g1.fr (fun b hb=>hf b (by simp[hb])),g2.fr (fun b hb=>hf b (by simp[hb])),g3.fr (fun b hb=>hf b (by simp[hb])),⟨ho,aec g4.2.1 hx,by rw[je];exact hl,rfl⟩,g5.fr (fun b hb=>hf b (by simp[hb])),g6.fr Qz (fun b hb=>hf b (by simp[hb])),rfl⟩,fun b=>?_⟩⟩
 ·rw[←g4.2.2.2]
  simp only[Gz];omega
 ·simp only[Gz]
  omega
theorem bam (k:dw):Dec Xy I64 8 5 k k.au (fun x=>{ k with au:=k.au++[x] }):=by
 rintro w cs s ⟨v1,v2,v3,v4,v5,v6,b1,b2,b3,b4,b5,b6,rfl,hnm,g1,g2,g3,g4,g5,g6,rfl⟩;refine⟨v5,b1++b2++b3++b4++b6,rfl,g5.1,fun b=>?_,fun W Dt x hx hf ho hl=>⟨_,⟨v1,v2,v3,v4,Dt,v6,b1,b2,b3,b4,_,b6,rfl,hnm,g1.fr (fun b hb=>hf b (by simp[hb])),g2.fr (fun b hb=>hf b (by simp[hb])),g3.fr (fun b hb=>hf b (by simp[hb])),g4.fr (fun b hb=>hf b (by simp[hb])),⟨ho,aec g5.2.1 hx,by rw[je];exact hl,rfl⟩,g6.fr Qz (fun b hb=>hf b (by simp[hb])),rfl⟩,fun b=>?_⟩⟩
 ·rw[←g5.2.2.2]
  simp only[Gz];omega
 ·simp only[Gz]
  omega
theorem Q8 {α:Type} {E:F6 Tryz.prog α} {ok:α->Prop} {qy j:Nat} {k:dw} {xs:List α} {up:α->dw} (hd:Dec E ok qy j k xs up) (hj:j<7) (hT:50≠E.T) {B g n cap:Nat} {w:bf} {a:List dw} {bs:List Nat} (h:yh Fa Dj B w (.slice (some ⟨g,0,none⟩) n cap) (a++[k]) bs):∃vj,w.cell? ⟨g,a.length*7+j,none⟩=some vj∧jm E w B vj xs∧g<w.heap.size∧∀Dt w5 x,ok x->jm E w5 B Dt (xs++[x])->w.grownBy w5 vj.ownBlock->(∀b,Dt.ownBlock=some b->vj.ownBlock=some b∨w.heap.size<=b)->(xs.length+1)*qy<=140737488355328->(w5.cell? ⟨g,a.length*7+j,none⟩=some vj∧w5.frozen? ⟨g,a.length*7+j,none⟩=false)∧∃bs',yh Fa Dj B (w5.setCell ⟨g,a.length*7+j,none⟩ Dt) (.slice (some ⟨g,0,none⟩) n cap) (a++[up x]) bs':=by
 obtain⟨css,subs,ho,hl,h3,hbs,hnd,hbb⟩:=h;obtain⟨ca,c,sa,s,rfl,rfl,h4,hC⟩:=h3.Zv;have hla:=h4.len;obtain⟨vj,rest,hcj,hoj,hcs,hup⟩:=hd _ _ _ hC;obtain⟨cur,hcur⟩:=ho.cellT (g:=g) rfl
 have hcnt:∀b,bs.count b=[g].count b+sa.flatten.count b+rest.count b+(zx vj).count b:=fun b=>by
  have h9:=hcs b;rw[hbs,show zx (.slice (some ⟨g,0,none⟩) n cap)=[g] from rfl,Yy,Gz,Gz];simp only[adk,List.flatten_nil,Az];omega
 have hgj:∀b,b∈zx vj->B<=b∧b<w.heap.size:=fun b hb=>hbb b (Nj.2 (by have h9:=Nj.1 hb;have h8:=hcnt b;omega))
 obtain⟨g0,cap0,hv0,hcells⟩:=Zj ho a.length (by rw[je];simp;omega);simp only[qw,uo,Addr.mk.injEq] at hv0;obtain⟨⟨rfl,_⟩,rfl,rfl⟩:=hv0
 have hci:(ca++[c])[a.length]'(by rw[je];simp;omega)=c:=by
  rw[List.getElem_append_right (by omega)];simp
 have hcw:=hcells j vj (by rw[hci];exact hcj);refine⟨vj,hcw,axr hoj (fun b hb=>(hgj b hb).1),(show jc w g 50 cur from hcur).lt,fun Dt w5 x hx yc hg Gm hlen=>?_⟩;have hb5:jc w5 g 50 cur:=(RwB.Xp hoj hg).blk (show jc w g 50 cur from hcur) hT;have hg5:w5.heap[g]?=w.heap[g]?:=(show w5.heap[g]?=_ from hb5).trans hcur.symm;refine⟨⟨(World.cell?_of_block (w:=w) hg5).trans hcw,hb5.free _⟩,?_⟩;have hW:∀b,b≠g->(w5.setCell ⟨g,a.length*7+j,none⟩ Dt).heap[b]?=w5.heap[b]?:=fun b hb=>yx _ _ _ _ (fun e=>hb e)
 have a1s:jm E (w5.setCell ⟨g,a.length*7+j,none⟩ Dt) 0 Dt (xs++[x]):=by
  refine(yc.low (jg _)).Ii (fun b hb=>hW b (fun e=>?_));obtain⟨bea,h9⟩:=yc.cellT hb;rw[e,show w5.heap[g]?=_ from hb5] at h9;simp only[uo,Obj.cells.injEq] at h9;exact hT h9.2.1
 have qa:Fr sa.flatten w (w5.setCell ⟨g,a.length*7+j,none⟩ Dt):=ak8 hnd (fun b hb=>(hbb b hb).2) hg hW (fun x=>by have h9:=hcnt x;omega);have qr:Fr rest w (w5.setCell ⟨g,a.length*7+j,none⟩ Dt):=ak8 hnd (fun b hb=>(hbb b hb).2) hg hW (fun x=>by have h9:=hcnt x;omega);obtain⟨s',hC',hcs'⟩:=hup _ Dt x hx qr a1s hlen
 have a1t:jm Fa w5 B (.slice (some ⟨g,0,none⟩) (ca++[c]).length cap) (ca++[c]):=ho.Ii (fun b hb=>by
  have e:g=b:=by simpa[Value.ownBlock] using hb
  subst e;exact hg5)
 obtain⟨aj,cj,a1u⟩:=yc.slice
 have hov:∀u,u∈c.1.set j Dt->u.oneCell'=true:=fun u hu=>by
  rcases List.mem_or_eq_of_mem_set hu with h9|h9
  ·exact c.2.2 u h9
  ·rw[h9,a1u]
   rfl
 obtain⟨c',hc'⟩:∃c':Raw 7,c'.1=c.1.set j Dt:=⟨⟨c.1.set j Dt,by rw[List.length_set];exact c.2.1,hov⟩,rfl⟩;have hset:=aoo a1t a.length j (by rw[je];simp;omega) hj Dt c' (by rw[hci];exact hc')
 have hss:(ca++[c]).set a.length c'=ca++[c']:=by
  rw[List.set_append_right _ _ (by omega)];simp[hla.1]
 rw[hss] at hset;have hlc:(ca++[c]).length=(ca++[c']).length:=by simp
 refine⟨[g]++(sa++[s']).flatten,ca++[c'],sa++[s'],hset,by rw[←hlc];exact hl,(h4.mono (fun c x s _ _ hs h9=>I8 _ _ _ _ _ h9 (fun b hb=>qa b (List.mem_flatten.2 ⟨s,hs,hb⟩)))).app (.cons (by rw[hc'];exact hC') .nil),rfl,?_,fun b hb=>?_⟩
 ·refine ars (X:=[g]++sa.flatten++rest) (Y:=[]) (vj:=vj) (Dt:=Dt) hnd (fun b hb=>(hbb b hb).2) Gm (fun x=>?_) (fun x=>?_)
  ·rw[hcnt x]
   simp only[Gz]
  ·have h9:=hcs' x
   rw[Yy,Gz,Gz];simp only[adk,List.flatten_nil,Az,Gz];omega
 ·have hz:(w5.setCell ⟨g,a.length*7+j,none⟩ Dt).heap.size=w5.heap.size:=by simp[World.setCell]
  rw[hz];have hws:=hg.size
  by_cases hm:b∈zx Dt
  ·exact Bd yc b (Ce.1 hm)
  ·have h9:=Nj.1 hb
   have h7:=hcs' b;rw[Gz,Yy,Gz] at h9;simp only[adk,List.flatten_nil,Az] at h9;rw[List.count_eq_zero.2 hm] at h7;have h8:=hbb b (Nj.2 (by have h7:=hcnt b;omega));exact⟨h8.1,by omega⟩
def bcr (k:dw) (s:lu):dw:={ k with body:=k.body++[s] }
theorem yh.aev {B g n cap:Nat} {w:bf} {a:List dw} {k:dw} {bs:List Nat} (h:yh Fa Dj B w (.slice (some ⟨g,0,none⟩) n cap) (a++[k]) bs):∃v6 Pn,w.cell? ⟨g,a.length*7+6,none⟩=some v6∧jm abu w B v6 Pn∧Pn.length=k.body.length∧g<w.heap.size∧∀v6' w5 (c:Raw 6) (s:lu) (sb:List Nat),Y6 w c.1 s sb->sb.Nodup->(∀b,b∈sb->b∉bs∧B<=b)->jm abu w5 B v6' (Pn++[c])->w.grownBy w5 v6.ownBlock->(∀b,v6'.ownBlock=some b->v6.ownBlock=some b∨w.heap.size<=b)->(k.body.length+1)*104<=140737488355328->(w5.cell? ⟨g,a.length*7+6,none⟩=some v6∧w5.frozen? ⟨g,a.length*7+6,none⟩=false)∧∃bs',yh Fa Dj B (w5.setCell ⟨g,a.length*7+6,none⟩ v6') (.slice (some ⟨g,0,none⟩) n cap) (a++[bcr k s]) bs':=by
 obtain⟨css,subs,ho,hl,h3,hbs,hnd,hbb⟩:=h;obtain⟨ca,c,sa,s0,rfl,rfl,h4,hT⟩:=h3.Zv;have hla:=h4.len;obtain⟨v1,v2,v3,v4,v5,v6,b1,b2,b3,b4,b5,b6,hcs,hnm,g1,g2,g3,g4,g5,g6,rfl⟩:=hT;obtain⟨Pn,su6,o6,l6,a6,hb6⟩:=g6;have hl6:=a6.len;obtain⟨cur,hcur⟩:=ho.cellT (g:=g) rfl;have hbv:zx (.slice (some ⟨g,0,none⟩) n cap)=[g]:=rfl
 have hcnt:∀x,bs.count x=[g].count x+sa.flatten.count x+b1.count x+b2.count x+b3.count x+b4.count x+b5.count x+((zx v6).count x+su6.flatten.count x):=fun x=>by
  rw[hbs,hbv,Yy,Gz,Gz];simp only[adk,List.flatten_nil,Az,Gz,hb6];omega
 have hgj:∀b,b∈zx v6->B<=b∧b<w.heap.size:=fun b hb=>hbb b (Nj.2 (by have h9:=Nj.1 hb;have h8:=hcnt b;omega))
 obtain⟨g0,cap0,hv0,hcells⟩:=Zj ho a.length (by rw[je];simp;omega);simp only[qw,uo,Addr.mk.injEq] at hv0;obtain⟨⟨rfl,_⟩,rfl,rfl⟩:=hv0
 have hci:(ca++[c])[a.length]'(by rw[je];simp;omega)=c:=by
  rw[List.getElem_append_right (by omega)];simp
 refine⟨v6,Pn,hcells 6 _ (by rw[hci,hcs];rfl),axr o6 (fun b hb=>(hgj b hb).1),hl6.1,(show jc w g 50 cur from hcur).lt,fun Dt w5 cN s sb hTN beb bao yc hg Gm hlen=>?_⟩;have hkx:Zt 60 w w5:=RwB.Xp o6 hg;have hb5:jc w5 g 50 cur:=hkx.blk (show jc w g 50 cur from hcur) (by decide)
 have bap:w5.cell? ⟨g,a.length*7+6,none⟩=some v6:=by
  have h9:w5.cell? ⟨g,a.length*7+6,none⟩=w.cell? ⟨g,a.length*7+6,none⟩:=by
   unfold World.cell?;rw[show w5.heap[g]?=w.heap[g]? from (show w5.heap[g]?=_ from hb5).trans hcur.symm]
  rw[h9];exact hcells 6 _ (by rw[hci,hcs];rfl)
 refine⟨⟨bap,hb5.free _⟩,?_⟩;have hsl:∀b,b∈sb->b<w.heap.size:=(ahf _ _ _ _ hTN).lt
 have hndA:(bs++sb).Nodup:=Ya.2 (fun x=>by
  rw[Gz];have h1:=Ya.1 hnd x;have h2:=Ya.1 beb x
  by_cases hm:x∈sb
  ·rw[List.count_eq_zero.2 (bao x hm).1];omega
  ·rw[List.count_eq_zero.2 hm];omega)
 have bas:∀b,b∈bs++sb->b<w.heap.size:=fun b hb=>(Ec.1 hb).elim (fun h9=>(hbb b h9).2) (hsl b)
 have abn:∀x,(bs++sb).count x=[g].count x+sa.flatten.count x+b1.count x+b2.count x+b3.count x+b4.count x+b5.count x+((zx v6).count x+su6.flatten.count x)+sb.count x:=fun x=>by rw[Gz,hcnt x]
 have hW:∀b,b≠g->(w5.setCell ⟨g,a.length*7+6,none⟩ Dt).heap[b]?=w5.heap[b]?:=fun b hb=>yx _ _ _ _ (fun e=>hb e)
 have a1s:jm abu (w5.setCell ⟨g,a.length*7+6,none⟩ Dt) 0 Dt (Pn++[cN]):=by
  refine(yc.low (jg _)).Ii (fun b hb=>hW b (fun e=>?_));obtain⟨bea,h9⟩:=yc.cellT hb;rw[e,show w5.heap[g]?=_ from hb5] at h9;simp only[uo,Obj.cells.injEq] at h9;exact absurd h9.2.1 (by decide)
 have fr:∀l:List Nat,(∀x,l.count x+(zx v6).count x+[g].count x<=(bs++sb).count x)->Fr l w (w5.setCell ⟨g,a.length*7+6,none⟩ Dt):=fun l U1=>ak8 hndA bas hg hW U1
 have qa:=fr sa.flatten (fun x=>by have h9:=abn x;omega);have q1:=fr b1 (fun x=>by have h9:=abn x;omega);have q2:=fr b2 (fun x=>by have h9:=abn x;omega);have q3:=fr b3 (fun x=>by have h9:=abn x;omega);have q4:=fr b4 (fun x=>by have h9:=abn x;omega);have q5:=fr b5 (fun x=>by have h9:=abn x;omega);have q6:=fr su6.flatten (fun x=>by have h9:=abn x;omega);have q7:=fr sb (fun x=>by have h9:=abn x;omega)
 have a1t:jm Fa w5 B (.slice (some ⟨g,0,none⟩) (ca++[c]).length cap) (ca++[c]):=ho.Ii (fun b hb=>by
  have e:g=b:=by simpa[Value.ownBlock] using hb
  subst e;exact(show w5.heap[g]?=_ from hb5).trans hcur.symm)
 have hov:∀u,u∈[.string k.name,v1,v2,v3,v4,v5,Dt]->u.oneCell'=true:=fun u hu=>by
  have h9:=c.2.2;rw[hcs] at h9;obtain⟨aj,cj,a1u⟩:=yc.slice;simp only[ql,xg,xk] at hu;rcases hu with rfl|rfl|rfl|rfl|rfl|rfl|rfl
  all_goals first|(rw[a1u];rfl)|exact h9 _ (by simp)
 have hset:=aoo a1t a.length 6 (by rw[je];simp;omega) (by decide) Dt ⟨[.string k.name,v1,v2,v3,v4,v5,Dt],by simp,hov⟩ (by rw[hci,hcs];rfl)
 have hss:(ca++[c]).set a.length ⟨[.string k.name,v1,v2,v3,v4,v5,Dt],by simp,hov⟩=ca++[⟨[.string k.name,v1,v2,v3,v4,v5,Dt],by simp,hov⟩]:=by
  rw[List.set_append_right _ _ (by omega)];simp[hla.1]
 rw[hss] at hset;have hlc:(ca++[c]).length=(ca++[(⟨[.string k.name,v1,v2,v3,v4,v5,Dt],by simp,hov⟩:Raw 7)]).length:=by simp
 refine⟨[g]++(sa++[b1++b2++b3++b4++b5++(zx Dt++(su6++[sb]).flatten)]).flatten,ca++[⟨[.string k.name,v1,v2,v3,v4,v5,Dt],by simp,hov⟩],sa++[b1++b2++b3++b4++b5++(zx Dt++(su6++[sb]).flatten)],hset,by rw[←hlc];exact hl,(h4.mono (fun c x s _ _ hs h9=>I8 _ _ _ _ _ h9 (fun b hb=>qa b (List.mem_flatten.2 ⟨s,hs,hb⟩)))).app (.cons ?_ .nil),rfl,?_,fun b hb=>?_⟩
 ·refine⟨v1,v2,v3,v4,v5,Dt,b1,b2,b3,b4,b5,_,rfl,hnm,g1.fr q1,g2.fr q2,g3.fr q3,g4.fr q4,g5.fr q5,⟨Pn++[cN],su6++[sb],a1s,?_,?_,rfl⟩,rfl⟩
  ·rw[je,hl6.1];exact hlen
  ·exact(a6.mono (fun c x s _ _ hs h9=>Qz _ _ _ _ _ h9 (fun b hb=>q6 b (List.mem_flatten.2 ⟨s,hs,hb⟩)))).app (.cons (Qz _ _ _ _ _ hTN q7) .nil)
 ·refine ars (X:=[g]++sa.flatten++b1++b2++b3++b4++b5++su6.flatten++sb) (Y:=[]) (vj:=v6) (Dt:=Dt) hndA bas Gm (fun x=>?_) (fun x=>?_)
  ·rw[abn x]
   simp only[Gz];omega
  ·simp only[Yy,adk,List.flatten_nil,Az,Gz]
   omega
 ·have hz:(w5.setCell ⟨g,a.length*7+6,none⟩ Dt).heap.size=w5.heap.size:=by simp[World.setCell]
  rw[hz];have hws:=hg.size
  by_cases hm:b∈zx Dt
  ·exact Bd yc b (Ce.1 hm)
  ·by_cases hm2:b∈sb
   ·exact⟨(bao b hm2).2,by have:=hsl b hm2;omega⟩
   ·have h9:=Nj.1 hb
    simp only[Yy,adk,List.flatten_nil,Az,Gz,List.count_eq_zero.2 hm,List.count_eq_zero.2 hm2] at h9;have h8:=hbb b (Nj.2 (by have h7:=hcnt b;omega));exact⟨h8.1,by omega⟩
structure Gw (W1:bf) (mb:Nat) (cs:List dw) (mv:Value) (bs:List Nat) (wr:bf):Prop where
 box:jc wr mb 24 #[mv]
 row:yh Fa Dj W1.heap.size wr mv cs bs
 but:But [mb] W1 wr
theorem Gw.below {W1:bf} {mb:Nat} {cs:List dw} {mv:Value} {bs:List Nat} {wr w':bf} (h:Gw W1 mb cs mv bs wr) (hb:Below wr.heap.size wr w'):Gw W1 mb cs mv bs w' :=
 ⟨h.box.below hb h.box.lt,h.row.fr I8 (fun b yu=>hb.block b (h.row.nd.2 b yu).2) hb.size,h.but.trans (But.of_below hb)⟩
theorem ag3 {w:bf} {B:Nat} {v:Value} {ps:List dh} (h:jm ni w B v ps) (hl:1<=ps.length):∃g cap,v=.slice (some ⟨g,0,none⟩) ps.length cap∧B<=g∧g<w.heap.size∧(∃cur,jc w g 9 cur)∧∀i (hi:i<ps.length),w.cell? ⟨g,i,none⟩=some (.string ps[i]):=by
 rcases h.ae4 with ⟨_,_,hh1,hh2⟩|⟨g,cap,hh1,hh2⟩
 ·rw[hh2] at hl;exact absurd hl (by decide)
 ·subst hh1
  obtain⟨cur,hcur⟩:=h.cellT (g:=g) rfl;have hlt:=Bd h g rfl;refine⟨g,cap,rfl,hlt.1,hlt.2,⟨cur,hcur⟩,fun i hi=>?_⟩;have h9:=(hh2 i hi 0 (by simp[ni])).1;simpa[ni] using h9
theorem Jo (f:List dh) (i:Nat) (h:i<f.length):f[i]=fA f i:=by
 unfold fA;rw[yw,jy h];rfl
theorem Du {W1:bf} {mb:Nat} {cs:List dw} {mv:Value} {bs:List Nat} {wr:bf} (hg:Gw W1 mb cs mv bs wr) (cu:dh) (hs:cu.size<=1048576):Calls Tryz.prog 19 #[.string cu,.int .u8 32] wr (fun e w2=>∃g cap,e=.returned (.slice (some ⟨g,0,none⟩) (wordsOf 32 cu).length cap)∧Hid (Gw W1 mb cs mv bs w2∧jm ni w2 wr.heap.size (.slice (some ⟨g,0,none⟩) (wordsOf 32 cu).length cap) (wordsOf 32 cu)∧(∃cur,jc w2 g 9 cur)∧g∉bs)∧Hid (∀i,i<(wordsOf 32 cu).length->w2.cell? ⟨g,i,none⟩=some (.string (fA (wordsOf 32 cu) i)))∧g<w2.heap.size):=by
 refine(aj6 cu 32 wr hs).mono ?_;rintro e w2 ⟨v,rfl,ho,hb⟩;obtain⟨g,cap,rfl,h1,h2,h3,h4⟩:=ag3 ho (Bg.2 (Aj 32 cu));refine⟨g,cap,rfl,hide ⟨hg.below hb,ho,h3,fun h9=>?_⟩,hide (fun i hi=>by rw[h4 i hi,Jo]),h2⟩;have:=(hg.row.nd.2 g h9).2;omega
theorem acd (p:dh):(p.toList == [99,108,97,115,115])=decide (p=vg):=Ib p vg _ rfl
theorem abo (p:dh):(p.toList == [105,110])=decide (p=Ik):=Ib p Ik _ rfl
theorem aa7 (p:dh):(p.toList == [111,117,116])=decide (p=Ee):=Ib p Ee _ rfl
theorem ace (p:dh):(p.toList == [108,111,99])=decide (p=Eo):=Ib p Eo _ rfl
theorem aed (p:dh):(p.toList == [109,101,109])=decide (p=Ep):=Ib p Ep _ rfl
theorem agn (p:dh):(p.toList == [117,115,101])=decide (p=Es):=Ib p Es _ rfl
theorem Zk (p:dh):(p.toList == [115,101,116])=decide (p=Jf):=Ib p Jf _ rfl
theorem Yv (p:dh):(p.toList == [115,97,118,101])=decide (p=F8):=Ib p F8 _ rfl
theorem ahg (p:dh):(p.toList == [105,102])=decide (p=Qn):=Ib p Qn _ rfl
theorem aal (p:dh):(p.toList == [99,97,108,108])=decide (p=Ac):=Ib p Ac _ rfl
theorem Jw (p:dh):(p.toList == [101,108,115,101])=decide (p=Cj):=Ib p Cj _ rfl
theorem Ov (p:dh):(p.toList == [101,110,100])=decide (p=Fz):=Ib p Fz _ rfl
theorem akb (p:dh):(p.toList == [105,110,116])=decide (p=aaf):=Ib p aaf _ rfl
def V7:Code->Option Code
 | .loop c=>some c
 | .seq a b=>match V7 a with
  | some c=>some c
  | none=>V7 b
 | .block _ c=>V7 c
 | .scope c=>V7 c
 | .cond _ a b=>match V7 a with
  | some c=>some c
  | none=>V7 b
 | _=>none
noncomputable def aui:Code:=((Tryz.f9.body.bind V7).getD .skip)
def Yw (t:dh) (rb mb lg n lc:Nat) (i:Nat) (v:Value):Value :=
 match i with
 | 0=>.string t
 | 1=>undef
 | 2=>.pointer (some ⟨rb,0,none⟩)
 | 3=>.pointer (some ⟨mb,0,none⟩)
 | 4=>undef
 | 14=>.agg #[.slice none 0 0]
 | 15=>.string t
 | 16=>.slice (some ⟨lg,0,none⟩) n lc
 | 17=>.int .i64 (n:Int)
 | 368=>undef
 | _=>v
def agp (t:dh) (rb mb lg n lc:Nat) (u:Nat->Value):Act:=⟨((List.range 369).map (fun i=>Yw t rb mb lg n lc i (u i))).toArray,[]⟩
def Pq:List Nat:=[0,1,2,3,4,14,15,16,17,368]
theorem a1v (t:dh) (rb mb lg n lc:Nat) (i:Nat) (v:Value) (h:i∉Pq):Yw t rb mb lg n lc i v=v:=by
 unfold Pq at h;simp only[ql,xg,xk,not_or] at h;obtain⟨h0,h1,h2,h3,h4,h5,h6,h7,h8,h9⟩:=h;unfold Yw
 split<;>first|(exfalso;omega)|rfl
theorem ac0 (t:dh) (rb mb lg n lc:Nat) (x:Array Value) (hs:x.size=369) (h:∀i,i∈Pq->x.getD i undef=Yw t rb mb lg n lc i undef):∃u,(⟨x,[]⟩:Act)=agp t rb mb lg n lc u∧∀i,u i=x.getD i undef:=by
 refine⟨fun i=>x.getD i undef,?_,fun i=>rfl⟩;unfold agp;congr 1;refine Array.ext (by simp[hs]) (fun i h1 h2=>?_);have hi:i<369:=by omega
 have e:x.getD i undef=x[i]:=by simp[Array.getD,h1]
 simp only[List.getElem_toArray,List.getElem_map,List.getElem_range]
 by_cases hm:i∈Pq
 ·have h9:=h i hm
  rw[e] at h9;rw[e,h9];unfold Pq at hm;simp only[ql,xg,xk] at hm;rcases hm with rfl|rfl|rfl|rfl|rfl|rfl|rfl|rfl|rfl|rfl<;>rfl
 ·rw[a1v _ _ _ _ _ _ _ _ hm,e]
set_option maxRecDepth 1000000 in
theorem zh (t:dh) (rb mb lg n lc:Nat) (u:Nat->Value):agp t rb mb lg n lc u=⟨#[.string t,undef,.pointer (some ⟨rb,0,none⟩),.pointer (some ⟨mb,0,none⟩),undef,u 5,u 6,u 7,u 8,u 9,u 10,u 11,u 12,u 13,.agg #[.slice none 0 0],.string t,.slice (some ⟨lg,0,none⟩) n lc,.int .i64 (n:Int),u 18,u 19,u 20,u 21,u 22,u 23,u 24,u 25,u 26,u 27,u 28,u 29,u 30,u 31,u 32,u 33,u 34,u 35,u 36,u 37,u 38,u 39,u 40,u 41,u 42,u 43,u 44,u 45,u 46,u 47,u 48,u 49,u 50,u 51,u 52,u 53,u 54,u 55,u 56,u 57,u 58,u 59,u 60,u 61,u 62,u 63,u 64,u 65,u 66,u 67,u 68,u 69,u 70,u 71,u 72,u 73,u 74,u 75,u 76,u 77,u 78,u 79,u 80,u 81,u 82,u 83,u 84,u 85,u 86,u 87,u 88,u 89,u 90,u 91,u 92,u 93,u 94,u 95,u 96,u 97,u 98,u 99,u 100,u 101,u 102,u 103,u 104,u 105,u 106,u 107,u 108,u 109,u 110,u 111,u 112,u 113,u 114,u 115,u 116,u 117,u 118,u 119,u 120,u 121,u 122,u 123,u 124,u 125,u 126,u 127,u 128,u 129,u 130,u 131,u 132,u 133,u 134,u 135,u 136,u 137,u 138,u 139,u 140,u 141,u 142,u 143,u 144,u 145,u 146,u 147,u 148,u 149,u 150,u 151,u 152,u 153,u 154,u 155,u 156,u 157,u 158,u 159,u 160,u 161,u 162,u 163,u 164,u 165,u 166,u 167,u 168,u 169,u 170,u 171,u 172,u 173,u 174,u 175,u 176,u 177,u 178,u 179,u 180,u 181,u 182,u 183,u 184,u 185,u 186,u 187,u 188,u 189,u 190,u 191,u 192,u 193,u 194,u 195,u 196,u 197,u 198,u 199,u 200,u 201,u 202,u 203,u 204,u 205,u 206,u 207,u 208,u 209,u 210,u 211,u 212,u 213,u 214,u 215,u 216,u 217,u 218,u 219,u 220,u 221,u 222,u 223,u 224,u 225,u 226,u 227,u 228,u 229,u 230,u 231,u 232,u 233,u 234,u 235,u 236,u 237,u 238,u 239,u 240,u 241,u 242,u 243,u 244,u 245,u 246,u 247,u 248,u 249,u 250,u 251,u 252,u 253,u 254,u 255,u 256,u 257,u 258,u 259,u 260,u 261,u 262,u 263,u 264,u 265,u 266,u 267,u 268,u 269,u 270,u 271,u 272,u 273,u 274,u 275,u 276,u 277,u 278,u 279,u 280,u 281,u 282,u 283,u 284,u 285,u 286,u 287,u 288,u 289,u 290,u 291,u 292,u 293,u 294,u 295,u 296,u 297,u 298,u 299,u 300,u 301,u 302,u 303,u 304,u 305,u 306,u 307,u 308,u 309,u 310,u 311,u 312,u 313,u 314,u 315,u 316,u 317,u 318,u 319,u 320,u 321,u 322,u 323,u 324,u 325,u 326,u 327,u 328,u 329,u 330,u 331,u 332,u 333,u 334,u 335,u 336,u 337,u 338,u 339,u 340,u 341,u 342,u 343,u 344,u 345,u 346,u 347,u 348,u 349,u 350,u 351,u 352,u 353,u 354,u 355,u 356,u 357,u 358,u 359,u 360,u 361,u 362,u 363,u 364,u 365,u 366,u 367,undef],[]⟩:=rfl
theorem E8 {B:Nat} {w:bf} {v:Value} {a:List dw} {k:dw} {bs:List Nat} (h:yh Fa Dj B w v (a++[k]) bs):∃g mc,v=.slice (some ⟨g,0,none⟩) (a.length+1) mc:=by
 obtain⟨css,subs,ho,hl,h3,_⟩:=h;have h9:=h3.len;obtain⟨g,mc,hv,_⟩:=Zj ho 0 (by rw[h9.1];simp);refine⟨g,mc,?_⟩;rw[hv,h9.1];simp
theorem Fh {w:bf} {B:Nat} {v:Value} {ps:List dh} (h:jm ni w B v ps) (hs:ps.length<=1048577∧∀p,p∈ps->p.size<=1048576):iy 1 16 wz 0 w v ps:=by
 refine h.at (fun x hx=>⟨rfl,?_⟩) ?_
 ·have:=hs.2 x hx
  unfold Len;omega
 ·have h1:=hs.1
  show ps.length*16<=_;omega
theorem zq (cu:dh) (h:cu.size<=1048576):(wordsOf 32 cu).length<=1048577∧∀p,p∈wordsOf 32 cu->p.size<=1048576:=by
 have h1:=yg 32 cu;refine⟨by omega,fun p hp=>?_⟩
 have h8:p.size+1<=D9 (wordsOf 32 cu):=by
  generalize wordsOf 32 cu=ls at hp
  induction ls with
  | nil=>cases hp
  | cons x ls ih =>
   rw[Nz];rcases ql.1 hp with rfl|h7
   ·omega
   ·have:=ih h7;omega
 have h9:D9 (wordsOf 32 cu)=cu.size+1:=h1.2;omega
theorem Gw.put {W1:bf} {mb:Nat} {cs cs':List dw} {mv:Value} {bs bs':List Nat} {w w5:bf} {α:Type} {E:F6 Tryz.prog α} {v u:Value} {xs:List α} {g o:Nat} (h:Gw W1 mb cs mv bs w) (hm:mb<W1.heap.size) (ho:jm E w W1.heap.size v xs) (hE:24≠E.T) (hg:w.grownBy w5 v.ownBlock) (hgB:W1.heap.size<=g) (hmk:yh Fa Dj W1.heap.size (w5.setCell ⟨g,o,none⟩ u) mv cs' bs'):Gw W1 mb cs' mv bs' (w5.setCell ⟨g,o,none⟩ u):=by
 have hb5:jc w5 mb 24 #[mv]:=(RwB.Xp ho hg).blk h.box hE;have hset:∀b,b≠g->(w5.setCell ⟨g,o,none⟩ u).heap[b]?=w5.heap[b]?:=fun b hb=>yx _ _ _ _ (fun e=>hb e)
 have hz:(w5.setCell ⟨g,o,none⟩ u).heap.size=w5.heap.size:=by simp[World.setCell]
 refine⟨(hset mb (by omega)).trans hb5,hmk,⟨?_,?_,?_,?_,fun b hb hs=>?_⟩⟩
 ·exact hg.os.trans h.but.os
 ·exact hg.tape.trans h.but.tape
 ·exact hg.output.trans h.but.output
 ·rw[hz];exact jq h.but.size hg.size
 ·refine(hset b (by omega)).trans ((hg.block b (qj hb h.but.size) (fun e=>?_)).trans (h.but.block b hb hs))
  have:=(Bd ho b e.symm).1;omega
theorem Gw.drew {W1:bf} {mb:Nat} {cs:List dw} {mv:Value} {bs:List Nat} {w:bf} (h:Gw W1 mb cs mv bs w):Gw W1 mb cs mv bs w.drew:=h.below ((gy _ _).drew)
theorem Gw.Y7 {W1:bf} {mb:Nat} {cs:List dw} {bs:List Nat} {w:bf} {g n mc:Nat} (h:Gw W1 mb cs (.slice (some ⟨g,0,none⟩) n mc) bs w):W1.heap.size<=g:=by
 obtain⟨css,subs,ho,_⟩:=h.row;exact ho.block g rfl
theorem Aq {a:List dw} {k:dw} (h:oq qx (a++[k])<=1048577):k.ins.length<=1048577∧k.ak.length<=1048577∧k.iq.length<=1048577∧k.eu.length<=1048577∧k.au.length<=1048577∧k.body.length<=1048577:=by
 rw[Am] at h;unfold qx oq at h;refine⟨?_,?_,?_,?_,?_,?_⟩<;>omega
def Ji (cu:dh) (cs:List dw):Prop:=∀(t:dh) (rb mb lg n lc:Nat) (u:Nat->Value) (q:Nat) (_:u 18=.int .i64 (q:Int)) (_:q<n) (_:n<=1048577) (K K1:Act->bf->Prop) (PO:Ending->bf->Prop) (wr W1:bf) (mv:Value) (bs:List Nat) (_:Gw W1 mb cs mv bs wr) (_:wr.cell? ⟨lg,q,none⟩=some (.string cu)) (_:cu.size<=1048576) (_:oq qx cs<=1048577) (_:∀x w'' mv' bs',x.size=369->(∀i,i∈Pq->x.getD i undef=Yw t rb mb lg n lc i undef)->x.getD 18 undef=.int .i64 ((q:Int)+1)->Gw W1 mb (stepS cs cu) mv' bs' w''->K ⟨x,[]⟩ w'') (_:mb<W1.heap.size),Code.wp Tryz.prog aui (Exit.then K (Exit.inBlock 0 (Exit.then K1 (bodyPost Tryz.prog Tryz.f9 PO)))) (agp t rb mb lg n lc u) wr
theorem Vg {p W:dh} (h:p=W) (b0 b1 b2 b3 b4 b5 b6 b7 b8 b9:Bool) (hb:[decide (W=vg),decide (W=Ik),decide (W=Ee),decide (W=Eo),decide (W=Ep),decide (W=Es),decide (W=Jf),decide (W=F8),decide (W=Qn),decide (W=Ac)]=[b0,b1,b2,b3,b4,b5,b6,b7,b8,b9]):(p.toList == [99,108,97,115,115])=b0∧(p.toList == [105,110])=b1∧(p.toList == [111,117,116])=b2∧(p.toList == [108,111,99])=b3∧(p.toList == [109,101,109])=b4∧(p.toList == [117,115,101])=b5∧(p.toList == [115,101,116])=b6∧(p.toList == [115,97,118,101])=b7∧(p.toList == [105,102])=b8∧(p.toList == [99,97,108,108])=b9:=by
 subst h;simp only[List.cons.injEq,and_true] at hb;rw[acd,abo,aa7,ace,aed,agn,Zk,Yv,ahg,aal];exact hb
theorem qg {α:Type} {p W V:dh} {Q:Prop} [Decidable (p=V∧Q)] {x y:α} (h:p=W) (d:W≠V):(if p=V∧Q then x else y)=y:=ay (fun h9=>d (h.symm.trans h9.1))
theorem gc (al n:Nat) (h:al<=1048577) (h2:n<=1048577):(((al:Int)+1) == 0)=false∧IntKind.i64.wrap ((al:Int)+1-1)=(al:Int)∧¬(9000000:Int)<(n:Int)∧decide ((9000000:Int)<(n:Int))=false :=
 ⟨by rw[su];omega,by rw[Rf];omega,by omega,iw (by omega)⟩
theorem Qc {t:dh} {rb mb lg n lc:Nat} {x:Array Value} (h0:x.getD 0 undef=Yw t rb mb lg n lc 0 undef) (h1:x.getD 1 undef=Yw t rb mb lg n lc 1 undef) (h2:x.getD 2 undef=Yw t rb mb lg n lc 2 undef) (h3:x.getD 3 undef=Yw t rb mb lg n lc 3 undef) (h4:x.getD 4 undef=Yw t rb mb lg n lc 4 undef) (h14:x.getD 14 undef=Yw t rb mb lg n lc 14 undef) (h15:x.getD 15 undef=Yw t rb mb lg n lc 15 undef) (h16:x.getD 16 undef=Yw t rb mb lg n lc 16 undef) (h17:x.getD 17 undef=Yw t rb mb lg n lc 17 undef) (bfz:x.getD 368 undef=Yw t rb mb lg n lc 368 undef):∀i,i∈Pq->x.getD i undef=Yw t rb mb lg n lc i undef:=by
 intro i hi;unfold Pq at hi;simp only[ql,xg,xk] at hi;rcases hi with rfl|rfl|rfl|rfl|rfl|rfl|rfl|rfl|rfl|rfl<;>assumption
theorem Dv (cs:List dw) (cu:dh):stepS cs cu=upL (Iz cs (wordsOf 32 cu)) (lineS (Iz cs (wordsOf 32 cu)) cu (wordsOf 32 cu)):=rfl
structure Zc (w:bf):Prop where
 env:Env w
 mx:∃m,w.cell? ⟨0,0,none⟩=some (.int .i64 m)
 e1:∃ev,w.cell? ⟨1,0,none⟩=some ev∧(ev=.nilIface∨∃te pe,ev=.iface te pe)
 e2:∃ev,w.cell? ⟨2,0,none⟩=some ev∧(ev=.nilIface∨∃te pe,ev=.iface te pe)
theorem Zc.below {B:Nat} {w w':bf} (h:Zc w) (hb:Below B w w') (hB:9<=B):Zc w':=by
 obtain⟨h1,⟨m,h2⟩,⟨ev,h3,h3'⟩,⟨ew,h4,h4'⟩⟩:=h;exact⟨h1.below hb hB,⟨m,(hb.cell (p:=⟨_,0,none⟩) (qj (by decide) hB)).trans h2⟩,⟨ev,(hb.cell (p:=⟨_,0,none⟩) (qj (by decide) hB)).trans h3,h3'⟩,⟨ew,(hb.cell (p:=⟨_,0,none⟩) (qj (by decide) hB)).trans h4,h4'⟩⟩
theorem aha {w:bf} {a:Option Addr} {n cap:Nat} {f:List dh} (h:iy 1 16 wz 0 w (.slice a n cap) f) (i:Nat) (hi:i<f.length):∃b o,a=some ⟨b,o,none⟩∧b<w.heap.size∧w.cell? ⟨b,o+i,none⟩=some (.string (fA f i))∧Len (fA f i).size:=by
 obtain⟨a',c',hv,_,_,hx⟩:=h;simp only[qw] at hv;obtain⟨b,o,cs,e1,_,e3,e4,e5,e6⟩:=hx i hi;obtain⟨rfl,h9⟩:=e6;refine⟨b,o,by rw[hv.1,e1],e3,?_,by rw[←Jo f i hi];exact h9⟩;have h8:=e5 0 (by simp);rw[←Jo f i hi];simpa using h8
theorem afc (t:dh):(t.toList == [])=decide (t=ByteArray.empty):=Ib t ByteArray.empty _ rfl
theorem agq (f:List dh) (i:Nat) (h:¬i<f.length):fA f i=E0:=by
 unfold fA;rw[yw,List.getElem?_eq_none (by omega)];rfl
theorem bat {w:bf} {v:Value} {f:List dh} (h:iy 1 16 wz 0 w v f) (i:Nat):Len (fA f i).size:=by
 by_cases hi:i<f.length
 ·obtain⟨a,c,rfl⟩:=h.shape
  obtain⟨b,o,_,_,_,h9⟩:=aha h i hi;exact h9
 ·rw[agq f i hi]
  unfold Len;decide
theorem Yl (f:List dh) (v:Value) (w:bf) (i:Nat) (hi:i<=2000000) (hv:iy 1 16 wz 0 w v f):Calls Tryz.prog 33 #[v,.int .i64 (i:Int)] w (fun e w'=>e=.returned (.string (fA f i))∧w'=w):=by
 have HV:=hide hv;obtain⟨a,cap,rfl⟩:=hv.shape;clear hv
 by_cases h:i<f.length
 ·obtain⟨b,o,rfl,hb,hc,_⟩:=aha (uh HV) i h
  have hI:(i:Int)<(f.length:Int):=by omega
  go_enter Tryz.func33,Tryz.ntmps33;go_wp2;go_ret;exact⟨rfl,rfl⟩
 ·have hI:¬(i:Int)<(f.length:Int):=by omega
  have HE:=hide (agq f i h);have dI:decide ((i:Int)<(f.length:Int))=false:=iw hI;clear h;go_enter Tryz.func33,Tryz.ntmps33;go_wp2;go_ret;rw[uh HE];exact⟨rfl,rfl⟩
theorem aa5 (f:List dh) (v:Value) (w:bf) (i:Nat) (hi:i<=2000000) (hv:iy 1 16 wz 0 w v f):Calls Tryz.prog 30 #[v,.int .i64 (i:Int)] w (Ans (.string (fA f i)) w):=by
 have HP:=hide (Yl f v w i hi hv);have HC:=hide (apj (fA f i) w (bat hv i));obtain⟨a,cap,rfl⟩:=hv.shape;clear hv;go_enter Tryz.func30,Tryz.ntmps30;go_wp2_with fail;refine(uh HP).mono ?_;rintro e w1 ⟨rfl,hw⟩;obtain rfl:=hw.symm;go_wp2_with fail;refine(uh HC).mono ?_;rintro e w2 ⟨rfl,hb⟩;have HB:=hide hb;clear hb;go_wp2;go_ret;exact⟨rfl,uh HB⟩
theorem a6c (p:dh) (w:bf) (hE:Zc w) (hp:p.size<=1048576):Calls Tryz.prog 59 #[.string p] w (fun e w'=>∃ev,e=.returned (.tuple #[.int .i64 (Ot p),ev])∧ev.oneCell'=true∧Below w.heap.size w w'):=by
 unfold Ot;obtain⟨ev1,h1,h1'⟩:=hE.e1;obtain⟨ev2,h2,h2'⟩:=hE.e2
 cases h:Lib.atoiAll (bL p) with
 | ok v =>
  refine(Tryz.strconv_Atoi_ok p (by omega) v h w).mono ?_;rintro e w' ⟨rfl,hw⟩;refine⟨_,rfl,rfl,?_⟩;rcases hw with rfl|⟨t,rfl⟩
  ·exact gy _ _
  ·exact Lib.bytesWorld_below _ _ _
 | «syntax» =>
  refine(Tryz.strconv_Atoi_syntax p (by omega) h ev1 w h1 h1').mono ?_;rintro e w' ⟨N,rfl,_,_,hb⟩;exact⟨_,rfl,rfl,hb⟩
 | range =>
  refine(Tryz.strconv_Atoi_range p (by omega) h ev2 w h2 h2').mono ?_;rintro e w' ⟨N,rfl,_,_,hb⟩;exact⟨_,rfl,rfl,hb⟩
theorem Xw (p:dh) (w:bf) (hE:Zc w) (hp:p.size<=1048576):Calls Tryz.prog 32 #[.string p] w (Ans (.int .i64 (Ot p)) w):=by
 have HA:=hide (a6c p w hE hp);clear hE;generalize Ot p=v at *;go_enter Tryz.func32,Tryz.ntmps32;go_wp2_with fail;refine(uh HA).mono ?_;rintro e w1 ⟨ev,rfl,hev,hb⟩;have HB:=hide hb;clear hb;go_wp2;go_ret;exact⟨rfl,uh HB⟩
end Go.Proofs.YtfeejeflmcapoaaGreatDoor
