import Derived.Test.YtlcgnbcgmljpaaaGreatCP6
import Derived.Test.YtlcgnbcgmljpaaaGreatMQ1
namespace Go.Proofs.YtlcgnbcgmljpaaaGreat
open Go.RowKit
set_option linter.unusedSimpArgs false
set_option linter.unusedVariables false
set_option maxHeartbeats 4000000 in
theorem akk (xs:List ak) (v:Value) (w:World) (h:bf 7 160 ni 0 w v xs):Calls Tryz.prog 59 #[v,.func (.func 60) #[] #[]] w (MkP uj oh xs w):=by
 obtain⟨a,cap,rfl,⟨hbt,_⟩,hn,hx⟩:=h
 unfold Len at hn hbt
 have HX:=hide hx
 have vg:=hide hbt
 clear hx hbt
 go_enter Tryz.func59,Tryz.ntmps59
 go_wp2
 go_loopg [5,10] xs.length (fun g mv i wr=>∃q:Nat,q<=xs.length∧g=xs.length-q∧i=.int .i64 q∧Hid (∃bs,uf uj oh w.heap.size wr mv (xs.take q) bs)∧Hid (Below w.heap.size w wr))
 case atStart=>exact⟨0,Nat.zero_le _,by omega,rfl,⟨_,uf.nil _ _ _ _⟩,Below.refl _ _⟩
 case round =>
  obtain⟨q,hq,hg,rfl,HO,HB⟩:=hrel
  have HG:=hide hg
  clear hg
  by_cases hlt:q<xs.length
  ·obtain⟨b,o,cs,rfl,_,hb,hcs,hc,hR⟩:=uh HX q hlt
   have htk:=List.take_succ_eq_append_getElem hlt
   generalize xs[q]=x at hR htk
   have Tz:=hide htk
   clear htk
   have hR:=jm _ _ _ _ _ (Kept.of_below ((uh HB).mono (Nat.le_refl _))) hR
   obtain⟨v1,v2,v3,v4,v5,v6,rfl,hk1,h1,h2,h3,h4,h5,h6⟩:=hR
   obtain⟨Qe,Qi,rfl⟩:=h1.shape
   obtain⟨Qg,Qj,rfl⟩:=h2.shape
   obtain⟨Et,Ey,rfl⟩:=h3.shape
   obtain⟨Eu,Ez,rfl⟩:=h4.shape
   obtain⟨Ew,E8,rfl⟩:=h5.shape
   obtain⟨Qh,Qk,rfl⟩:=h6.shape
   have c0:=((uh HB).cell (p:=⟨b,_,none⟩) hb).trans (hc 0 (by simp))
   have c1:=((uh HB).cell (p:=⟨b,_,none⟩) hb).trans (hc 1 (by simp))
   have c2:=((uh HB).cell (p:=⟨b,_,none⟩) hb).trans (hc 2 (by simp))
   have c3:=((uh HB).cell (p:=⟨b,_,none⟩) hb).trans (hc 3 (by simp))
   have c4:=((uh HB).cell (p:=⟨b,_,none⟩) hb).trans (hc 4 (by simp))
   have c5:=((uh HB).cell (p:=⟨b,_,none⟩) hb).trans (hc 5 (by simp))
   have c6:=((uh HB).cell (p:=⟨b,_,none⟩) hb).trans (hc 6 (by simp))
   clear hc
   simp only[Nat.mul_one,Nat.add_zero,List.getElem_cons_zero,List.getElem_cons_succ] at c0 c1 c2 c3 c4 c5 c6
   have hA:Below wr.heap.size wr (wr.alloc (.cells #[.string x.name,.slice Qe x.ins.length Qi,.slice Qg x.outs.length Qj,.slice Et x.ay.length Ey,.slice Eu x.aj.length Ez,.slice Ew x.insts.length E8,.slice Qh x.body.length Qk] 43)):=(Below.refl _ _).alloc (Nat.le_refl _) _
   have Yk:=hide (akj x Qe Qg Et Eu Ew Qh Qi Qj Ey Ez E8 Qk _ hk1 (h1.stays jq hA) (h2.stays jq hA) (h3.stays lu hA) (h4.stays jy hA) (h5.stays jy hA) (h6.stays xu hA))
   have HA:=hide hA
   clear hA hcs hk1 h1 h2 h3 h4 h5 h6
   go_wp2_with fail
   refine(uh Yk).mono ?_
   rintro e w1 ⟨U2,U3,U4,U5,Gl,Gm,Gn,Gp,Gq,Gs,U6,U7,s,rfl,HV⟩
   obtain⟨bs,css,subs,ho,hbl,h3,rfl,hnd,hbd⟩:=uh HO
   obtain⟨hv1,hv2,hv3,hv4,hv5⟩:=uh HV
   have h1:Below wr.heap.size wr w1:=(uh HA).trans (hv5.mono (uh HA).size)
   have h2:Below w.heap.size w w1:=(uh HB).trans (h1.mono (uh HB).size)
   have hA2:Below w1.heap.size w1 (w1.alloc (.cells #[.string x.name,.slice U2 x.ins.length U3,.slice U4 x.outs.length U5,.slice Gl x.ay.length Gm,.slice Gn x.aj.length Gp,.slice Gq x.insts.length Gs,.slice U6 x.body.length U7] 43)):=(Below.refl _ _).alloc (Nat.le_refl _) _
   have Ee:=hide ((ho.below h1).below hA2)
   have h4:Below w.heap.size w (w1.alloc (.cells #[.string x.name,.slice U2 x.ins.length U3,.slice U4 x.outs.length U5,.slice Gl x.ay.length Gm,.slice Gn x.aj.length Gp,.slice Gq x.insts.length Gs,.slice U6 x.body.length U7] 43)):=h2.trans (hA2.mono h2.size)
   have H4:=hide h4
   have Es:=hide h4.size
   have hlen:=h3.len
   have Du:Hid ((css.length+1)*160<=140737488355328):=by
    have h9:=uh vg
    refine hide ?_
    rw[hlen.1,List.length_take]
    have:min q xs.length+1<=xs.length:=by omega
    exact Nat.le_trans (Nat.mul_le_mul_right _ this) h9
   obtain⟨c,hcv⟩:∃c:Raw 7,c.1=[.string x.name,.slice U2 x.ins.length U3,.slice U4 x.outs.length U5,.slice Gl x.ay.length Gm,.slice Gn x.aj.length Gp,.slice Gq x.insts.length Gs,.slice U6 x.body.length U7]:=⟨⟨[.string x.name,.slice U2 x.ins.length U3,.slice U4 x.outs.length U5,.slice Gl x.ay.length Gm,.slice Gn x.aj.length Gp,.slice Gq x.insts.length Gs,.slice U6 x.body.length U7],by simp,by intro u hu;simp only[List.mem_cons,List.not_mem_nil,or_false] at hu;rcases hu with rfl|rfl|rfl|rfl|rfl|rfl|rfl<;>rfl⟩,rfl⟩
   have J9:=hide hcv
   have Il:Hid (∀v' w5,dw uj w5 w.heap.size v' (css++[c])->(w1.alloc (.cells #[.string x.name,.slice U2 x.ins.length U3,.slice U4 x.outs.length U5,.slice Gl x.ay.length Gm,.slice Gn x.aj.length Gp,.slice Gq x.insts.length Gs,.slice U6 x.body.length U7] 43)).grownBy w5 u5.ownBlock->(∀b,v'.ownBlock=some b->u5.ownBlock=some b∨(w1.alloc (.cells #[.string x.name,.slice U2 x.ins.length U3,.slice U4 x.outs.length U5,.slice Gl x.ay.length Gm,.slice Gn x.aj.length Gp,.slice Gq x.insts.length Gs,.slice U6 x.body.length U7] 43)).heap.size<=b)->∃bs,uf uj oh w.heap.size w5 v' (xs.take (q+1)) bs):=by
    refine hide (fun v' w5 k1 k2 k3=>?_)
    rw[uh Tz]
    exact⟨_,Zk zx ho h3 hnd hbd h1 hA2 (c:=c) (y:=x) (s:=s) (by rw[uh J9];exact hv1) hv2 (fun b jc=>⟨Nat.le_trans (uh HA).size (hv3 b jc),hv4 b jc⟩) (uh HB).size k1 k2 k3 (by rw[List.length_append];exact uh Du)⟩
   clear hcv hv1 hv2 hv3 hv4 hv5 ho hbl h3 hnd hbd h1 h2 hA2 h4 hlen c0 c1 c2 c3 c4 c5 c6
   go_wp2_with (at_builtin;go_must (refine l9 uj _ rfl _ _ rfl w.heap.size _ css rfl (uh Ee) w1.heap.size c rfl (fun j u hu=>by rw[World.cell?_alloc_at _ _ _ _ rfl];have hu':c.1[j]?=some u:=hu;rw[uh J9] at hu';simpa using hu') (uh Du) (uh Es) ?_))
   intro v' w5 Bh hg5 Eh
   have Nw:Hid (∃bs,uf uj oh w.heap.size w5 v' (xs.take (q+1)) bs):=hide (uh Il v' w5 Bh hg5 (by simpa using Eh))
   have zo:Hid (Below w.heap.size w w5):=hide ((uh Ee).grown (uh H4) hg5 (uh Es) (Nat.le_refl _))
   clear Bh hg5 Eh
   go_wp2
   go_roundg (xs.length-(q+1))
   case measure=>have:=uh HG;omega
   case rel=>exact⟨q+1,by omega,rfl,by go_num,Nw,zo⟩
  ·have e:q=xs.length:=by omega
   rw[e,List.take_length] at HO
   clear e
   obtain⟨bs,hmr⟩:=uh HO
   obtain⟨oa,oc,hov⟩:=hmr.slice
   have HM:=hide hmr
   clear hmr
   go_wp2
   go_ret
   exact⟨_,bs,rfl,uh HM,uh HB⟩
structure BF where
  o : Option (dh × BF × BF × BF)
abbrev BF.nil : BF := ⟨none⟩
abbrev BF.node (s : dh) (a b r : BF) : BF := ⟨some (s, a, b, r)⟩
theorem BF.ind {motive : BF → Prop} (nil : motive .nil) (node : ∀ s a b r, motive a → motive b → motive r → motive (.node s a b r)) : ∀ t, motive t
  | ⟨none⟩ => nil
  | ⟨some (s, a, b, r)⟩ => node s a b r (BF.ind nil node a) (BF.ind nil node b) (BF.ind nil node r)
theorem BF.inv {motive : BF → Prop} (t : BF) (nil : motive .nil) (node : ∀ s a b r, motive (.node s a b r)) : motive t := BF.ind nil (fun s a b r _ _ _ => node s a b r) t
def elS:dh:=⟨5,⟨#[]⟩,0,[],[],[]⟩
def uo:dh:=⟨6,⟨#[]⟩,0,[],[],[]⟩
def BF.flat:BF->List dh
 | ⟨none⟩=>[]
 | ⟨some (s, a, b, r)⟩=>if s.kind=4 then s::(a.flat++elS::(b.flat++uo::r.flat)) else s::r.flat
def BF.wf:BF->Prop
 | ⟨none⟩=>True
 | ⟨some (s, a, b, r)⟩=>s.kind≠5∧s.kind≠6∧(s.kind≠4->a=.nil∧b=.nil)∧a.wf∧b.wf∧r.wf
def BF.app:BF->BF->BF
 | ⟨none⟩,t=>t
 | ⟨some (s, a, b, r)⟩,t=>.node s a b (r.app t)
def BF.depth:BF->Nat
 | ⟨none⟩=>0
 | ⟨some (_, a, b, r)⟩=>max (max (a.depth+1) (b.depth+1)) r.depth
theorem jd (s:dh) (a b r:BF):(BF.node s a b r).flat=if s.kind=4 then s::(a.flat++elS::(b.flat++uo::r.flat)) else s::r.flat:=by rw[BF.flat]
theorem tq (s:dh) (a b r:BF):(BF.node s a b r).depth=max (max (a.depth+1) (b.depth+1)) r.depth:=by rw[BF.depth]
def Ko (s t:dh):Bool:=decide (s.kind=4)&&(decide (t.kind=4)&&decide (s.name=t.name))
theorem Rn (s t:dh):Ko s t=true↔s.kind=4∧t.kind=4∧s.name=t.name:=by
 unfold Ko
 simp only[Bool.and_eq_true,decide_eq_true_iff]
def I5 (s:dh) (a b:BF):BF->BF
 | ⟨none⟩=>.node s a b .nil
 | ⟨some (s', a', b', r')⟩=>if Ko s s' then I5 s (a.app a') (b.app b') r' else .node s a b (I5 s' a' b' r')
def jn:BF->BF
 | ⟨none⟩=>.nil
 | ⟨some (s, a, b, r)⟩=>I5 s a b r
def kids (f:BF->BF):BF->BF
 | ⟨none⟩=>.nil
 | ⟨some (s, a, b, r)⟩=>.node s (f a) (f b) (kids f r)
def Am:Nat->BF->BF
 | 0,t=>t
 | n+1,t=>kids (Am n) (jn t)
def joH (s:dh):BF->Option (BF × BF × BF)
 | ⟨none⟩=>none
 | ⟨some (s', a', b', r')⟩=>if Ko s s' then some (a',b',r') else none
def stepT:BF->Option BF
 | ⟨none⟩=>none
 | ⟨some (s, a, b, r)⟩=>match joH s r with
  | some (a',b',r')=>some (.node s (a.app a') (b.app b') r')
  | none=>match stepT a with
   | some a1=>some (.node s a1 b r)
   | none=>match stepT b with
    | some b1=>some (.node s a b1 r)
    | none=>(stepT r).map (fun r1=>.node s a b r1)
theorem V6 (s s':dh) (a b r:BF):joH s (.node s' a b r)=if Ko s s' then some (a,b,r) else none:=rfl
theorem V7 {s:dh} {a b r:BF} (h:joH s r=none):I5 s a b r=.node s a b (jn r):=by
 cases r using BF.inv with
 | nil=>rfl
 | node s' a' b' r' =>
  rw[V6] at h
  by_cases c:Ko s s'=true
  ·rw[if_pos c] at h;cases h
  ·unfold I5
   rw[if_neg c]
   rfl
theorem ale {s:dh} {a b r a' b' r':BF} (h:joH s r=some (a',b',r')):I5 s a b r=I5 s (a.app a') (b.app b') r'∧∃s',r=.node s' a' b' r'∧Ko s s'=true:=by
 cases r using BF.inv with
 | nil=>cases h
 | node s' a1 b1 r1 =>
  rw[V6] at h
  by_cases c:Ko s s'=true
  ·rw[if_pos c] at h
   simp only[Option.some.injEq,Prod.mk.injEq] at h
   obtain⟨rfl,rfl,rfl⟩:=h
   refine⟨?_,s',rfl,c⟩
   show (if Ko s s' then _ else _)=_
   rw[if_pos c]
  ·rw[if_neg c] at h;cases h
theorem step_none {s:dh} {a b r:BF} (h:stepT (.node s a b r)=none):joH s r=none∧stepT a=none∧stepT b=none∧stepT r=none:=by
 unfold stepT at h
 cases h1:joH s r with
 | some p=>obtain⟨a',b',r'⟩:=p;rw[h1] at h;cases h
 | none =>
  rw[h1] at h
  simp only at h
  cases h2:stepT a with
  | some a1=>rw[h2] at h;cases h
  | none =>
   rw[h2] at h
   simp only at h
   cases h3:stepT b with
   | some b1=>rw[h3] at h;cases h
   | none =>
    rw[h3] at h
    simp only[Option.map_eq_none_iff] at h
    exact⟨rfl,rfl,rfl,h⟩
theorem step_some {s:dh} {a b r t':BF} (h:stepT (.node s a b r)=some t'):(∃s' a' b' r',r=.node s' a' b' r'∧Ko s s'=true∧t'=.node s (a.app a') (b.app b') r')∨(joH s r=none∧((∃a1,stepT a=some a1∧t'=.node s a1 b r)∨(stepT a=none∧((∃b1,stepT b=some b1∧t'=.node s a b1 r)∨(stepT b=none∧∃r1,stepT r=some r1∧t'=.node s a b r1))))):=by
 unfold stepT at h
 cases h1:joH s r with
 | some p =>
  obtain⟨a',b',r'⟩:=p
  rw[h1] at h
  obtain⟨_,s',h2,h3⟩:=ale (a:=a) (b:=b) h1
  exact Or.inl ⟨s',a',b',r',h2,h3,(Option.some.inj h).symm⟩
 | none =>
  refine Or.inr ⟨rfl,?_⟩
  rw[h1] at h
  simp only at h
  cases h2:stepT a with
  | some a1=>rw[h2] at h;exact Or.inl ⟨a1,rfl,(Option.some.inj h).symm⟩
  | none =>
   rw[h2] at h
   simp only at h
   refine Or.inr ⟨rfl,?_⟩
   cases h3:stepT b with
   | some b1=>rw[h3] at h;exact Or.inl ⟨b1,rfl,(Option.some.inj h).symm⟩
   | none =>
    rw[h3] at h
    simp only[Option.map_eq_some_iff] at h
    obtain⟨r1,h4,h5⟩:=h
    exact Or.inr ⟨rfl,r1,h4,h5.symm⟩
theorem axx:∀t,stepT t=none->jn t=t:=by
 intro t
 induction t using BF.ind with
 | nil=>intro _;rfl
 | node s a b r iha ihb ihr =>
  intro h
  obtain⟨h1,_,_,h4⟩:=step_none h
  show I5 s a b r=_
  rw[V7 h1,ihr h4]
theorem awp:∀n t,stepT t=none->Am n t=t:=by
 intro n
 induction n with
 | zero=>intro t _;rfl
 | succ n ih =>
  intro t h
  show kids (Am n) (jn t)=t
  rw[axx t h]
  induction t using BF.ind with
  | nil=>rfl
  | node s a b r iha ihb ihr =>
   obtain⟨_,h2,h3,h4⟩:=step_none h
   show BF.node s (Am n a) (Am n b) (kids (Am n) r)=_
   rw[ih a h2,ih b h3,ihr h4]
def aht:BF->Option dh
 | ⟨none⟩=>none
 | ⟨some (s, _, _, _)⟩=>some s
theorem step_head {t t':BF} (h:stepT t=some t'):aht t'=aht t:=by
 cases t using BF.inv with
 | nil=>cases h
 | node s a b r =>
  rcases step_some h with ⟨s',a',b',r',_,_,rfl⟩|⟨_,⟨a1,_,rfl⟩|⟨_,⟨b1,_,rfl⟩|⟨_,r1,_,rfl⟩⟩⟩<;>rfl
theorem ar0 {s:dh} {r r1:BF} (h:aht r1=aht r) (hn:joH s r=none):joH s r1=none:=by
 cases r using BF.inv with
 | nil =>
  cases r1 using BF.inv with
  | nil=>rfl
  | node _ _ _ _=>cases h
 | node s' a' b' r' =>
  cases r1 using BF.inv with
  | nil=>cases h
  | node s2 a2 b2 r2 =>
   obtain rfl:s2=s':=Option.some.inj h
   rw[V6] at hn ⊢
   by_cases c:Ko s s2=true
   ·rw[if_pos c] at hn;cases hn
   ·rw[if_neg c]
theorem ar1:∀n t t',t.depth<=n->stepT t=some t'->Am n t'=Am n t:=by
 intro n
 induction n with
 | zero =>
  intro t t' hd h
  cases t using BF.inv with
  | nil=>cases h
  | node s a b r=>rw[tq] at hd;omega
 | succ n ih =>
  intro t t' hd h
  show kids (Am n) (jn t')=kids (Am n) (jn t)
  induction t using BF.ind generalizing t' with
  | nil=>cases h
  | node s a b r iha ihb ihr =>
   rw[tq] at hd
   rcases step_some h with ⟨s',a',b',r',rfl,hj,rfl⟩|⟨hno,⟨a1,h1,rfl⟩|⟨_,⟨b1,h1,rfl⟩|⟨_,r1,h1,rfl⟩⟩⟩
   ·show kids (Am n) (I5 s (a.app a') (b.app b') r')=kids (Am n) (if Ko s s' then _ else _)
    rw[if_pos hj]
   ·show kids (Am n) (I5 s a1 b r)=kids (Am n) (I5 s a b r)
    rw[V7 hno,V7 hno]
    show BF.node s (Am n a1) (Am n b) _=BF.node s (Am n a) (Am n b) _
    rw[ih a a1 (by omega) h1]
   ·show kids (Am n) (I5 s a b1 r)=kids (Am n) (I5 s a b r)
    rw[V7 hno,V7 hno]
    show BF.node s (Am n a) (Am n b1) _=BF.node s (Am n a) (Am n b) _
    rw[ih b b1 (by omega) h1]
   ·show kids (Am n) (I5 s a b r1)=kids (Am n) (I5 s a b r)
    rw[V7 hno,V7 (ar0 (step_head h1) hno)]
    show BF.node s (Am n a) (Am n b) _=BF.node s (Am n a) (Am n b) _
    rw[ihr r1 (by omega) h1]
theorem Aj (t u:BF):(t.app u).flat=t.flat++u.flat:=by
 induction t using BF.ind with
 | nil=>rfl
 | node s a b r iha ihb ihr =>
  show (BF.node s a b (r.app u)).flat=_
  rw[jd,jd,ihr]
  split<;>simp
theorem Ua {t u:BF} (h:t.wf) (k:u.wf):(t.app u).wf:=by
 induction t using BF.ind with
 | nil=>exact k
 | node s a b r iha ihb ihr =>
  obtain⟨h1,h2,h3,h4,h5,h6⟩:=h
  exact⟨h1,h2,h3,h4,h5,ihr h6⟩
theorem G8 (t u:BF):(t.app u).depth=max t.depth u.depth:=by
 induction t using BF.ind with
 | nil=>simp[BF.app,BF.depth]
 | node s a b r iha ihb ihr =>
  show (BF.node s a b (r.app u)).depth=_
  rw[tq,tq,ihr]
  omega
theorem alf:∀t t',t.wf->stepT t=some t'->t'.wf∧t'.depth<=t.depth∧t'.flat.length<t.flat.length:=by
 intro t
 induction t using BF.ind with
 | nil=>intro t' _ h;cases h
 | node s a b r iha ihb ihr =>
  intro t' hw h
  obtain⟨w1,w2,w3,w4,w5,w6⟩:=hw
  rcases step_some h with ⟨s',a',b',r',rfl,hj,rfl⟩|⟨hno,⟨a1,h1,rfl⟩|⟨_,⟨b1,h1,rfl⟩|⟨_,r1,h1,rfl⟩⟩⟩
  ·obtain⟨_,_,_,v4,v5,v6⟩:=w6
   obtain⟨k1,k2,_⟩:=(Rn _ _).1 hj
   refine⟨⟨w1,w2,fun h9=>absurd k1 h9,Ua w4 v4,Ua w5 v5,v6⟩,?_,?_⟩
   ·rw[tq,tq,tq,G8,G8]
    omega
   ·rw[jd,jd,jd,if_pos k1,if_pos k1,if_pos k2,Aj,Aj]
    simp only[List.length_cons,List.length_append]
    omega
  ·obtain⟨i1,i2,i3⟩:=iha a1 w4 h1
   have k1:s.kind=4:=Classical.byContradiction fun h9=>by rw[(w3 h9).1] at h1;cases h1
   refine⟨⟨w1,w2,fun h9=>absurd k1 h9,i1,w5,w6⟩,?_,?_⟩
   ·rw[tq,tq];omega
   ·rw[jd,jd,if_pos k1,if_pos k1]
    simp only[List.length_cons,List.length_append]
    omega
  ·obtain⟨i1,i2,i3⟩:=ihb b1 w5 h1
   have k1:s.kind=4:=Classical.byContradiction fun h9=>by rw[(w3 h9).2] at h1;cases h1
   refine⟨⟨w1,w2,fun h9=>absurd k1 h9,w4,i1,w6⟩,?_,?_⟩
   ·rw[tq,tq];omega
   ·rw[jd,jd,if_pos k1,if_pos k1]
    simp only[List.length_cons,List.length_append]
    omega
  ·obtain⟨i1,i2,i3⟩:=ihr r1 w6 h1
   refine⟨⟨w1,w2,w3,w4,w5,i1⟩,?_,?_⟩
   ·rw[tq,tq];omega
   ·rw[jd,jd]
    split
    ·simp only[List.length_cons,List.length_append]
     omega
    ·simp only[List.length_cons]
     omega
def BF.Yb:BF->PL
 | ⟨none⟩=>.nil
 | ⟨some (s, a, b, r)⟩=>if s.kind=4 then .br s a.Yb elS b.Yb uo r.Yb else .leaf s r.Yb
theorem Xr (t:BF):t.Yb.flat=t.flat:=by
 induction t using BF.ind with
 | nil=>rfl
 | node s a b r iha ihb ihr =>
  unfold BF.Yb BF.flat
  split
  ·simp[PL.flat,iha,ihb,ihr]
  ·simp[PL.flat,ihr]
theorem alg (t:BF) (h:t.wf):t.Yb.wf:=by
 induction t using BF.ind with
 | nil=>trivial
 | node s a b r iha ihb ihr =>
  obtain⟨h1,h2,h3,h4,h5,h6⟩:=h
  unfold BF.Yb
  split
  ·rename_i c
   exact⟨⟨c,rfl,rfl⟩,iha h4,ihb h5,ihr h6⟩
  ·rename_i c
   exact⟨⟨c,h1,h2⟩,ihr h6⟩
def Yl (l:List dh) (i:Nat):Int:=match l[i]? with|some s=>s.kind|none=>0
def nAt (l:List dh) (i:Nat):ByteArray:=match l[i]? with|some s=>s.name|none=>⟨#[]⟩
def I7 (l:List dh) (i:Nat):Bool:=decide (Yl l i=4)&&(decide (((je (dn l) i).2+1).toNat<l.length)&&(decide (Yl l ((je (dn l) i).2+1).toNat=4)&&decide (nAt l ((je (dn l) i).2+1).toNat=nAt l i)))
def foR (l:List dh) (i:Nat):List dh :=
 let o:=(je (dn l) i).1.toNat
 let e:=(je (dn l) i).2.toNat
 let o2:=(je (dn l) (e+1)).1.toNat
 let e2:=(je (dn l) (e+1)).2.toNat
 l.take o++(l.drop (e+2)).take (o2-(e+2))++(l.drop o).take (e-o)++(l.drop (o2+1)).take (e2-(o2+1))++l.drop e2
theorem Vp (pre:List dh) (s:dh) (a b:BF) (post:List dh) (hk:s.kind=4) (ha:a.wf) (hb:b.wf) :
  je (dn (pre++s::(a.flat++elS::(b.flat++uo::post)))) pre.length=(((pre.length+1+a.flat.length:Nat):Int),((pre.length+1+a.flat.length+1+b.flat.length:Nat):Int)):=by
 have h:=Zl (dn (pre++s::(a.flat++elS::(b.flat++uo::post)))) pre.length a.Yb b.Yb (dn post) (alg a ha) (alg b hb) (by
  rw[Xr,Xr,Ub,show pre.length=(dn pre).length from (Az pre).symm,List.drop_left]
  simp only[Gx,Ub,hk]
  rfl)
 rw[Xr,Xr] at h
 exact h
theorem apf (pre post:List dh) (s:dh):(pre++s::post)[pre.length]?=some s:=by simp
theorem awq (pre:List dh) (s:dh) (a b:BF) (post:List dh) (hk:s.kind=4) (ha:a.wf) (hb:b.wf) :
  I7 (pre++s::(a.flat++elS::(b.flat++uo::post))) pre.length=(match post with|[]=>false|q::_=>decide (q.kind=4)&&decide (q.name=s.name)):=by
 have hq:(pre++s::(a.flat++elS::(b.flat++uo::post)))[pre.length+1+a.flat.length+1+b.flat.length+1]?=post[0]?:=by
  rw[List.getElem?_append_right (by omega),show pre.length+1+a.flat.length+1+b.flat.length+1-pre.length=(a.flat.length+(1+b.flat.length+1))+1 from by omega,List.getElem?_cons_succ,List.getElem?_append_right (by omega),show a.flat.length+(1+b.flat.length+1)-a.flat.length=(b.flat.length+1)+1 from by omega,List.getElem?_cons_succ,List.getElem?_append_right (by omega),show b.flat.length+1-b.flat.length=0+1 from by omega,List.getElem?_cons_succ]
 have hs:=apf pre (a.flat++elS::(b.flat++uo::post)) s
 have hidx:(((pre.length+1+a.flat.length+1+b.flat.length:Nat):Int)+1).toNat=pre.length+1+a.flat.length+1+b.flat.length+1:=by omega
 unfold I7
 rw[Vp pre s a b post hk ha hb]
 simp only
 rw[hidx]
 unfold Yl nAt
 rw[hs,hq]
 simp only[hk,decide_true,Bool.true_and]
 cases post with
 | nil =>
  rw[decide_eq_false]
  ·rfl
  ·simp only[List.length_append,List.length_cons,List.length_nil]
   omega
 | cons q post =>
  rw[decide_eq_true]
  ·simp
  ·simp only[List.length_append,List.length_cons]
   omega
theorem Zm {l:List dh} {i:Nat} {s:dh} (h:l[i]?=some s) (hk:s.kind≠4):I7 l i=false:=by
 unfold I7 Yl
 rw[h]
 simp[hk]
theorem Zn {α:Type} (a b:List α) (n:Nat) (h:n=a.length):(a++b).take n=a:=by subst h;exact List.take_left
theorem Zo {α:Type} (a b:List α) (n:Nat) (h:n=a.length):(a++b).drop n=b:=by subst h;exact List.drop_left
theorem ar2 (pre:List dh) (s:dh) (a b:BF) (s':dh) (a' b':BF) (post:List dh) (hk:s.kind=4) (hk':s'.kind=4) (ha:a.wf) (hb:b.wf) (ha':a'.wf) (hb':b'.wf) :
  foR (pre++s::(a.flat++elS::(b.flat++uo::(s'::(a'.flat++elS::(b'.flat++uo::post)))))) pre.length=pre++s::(a.flat++(a'.flat++(elS::(b.flat++(b'.flat++(uo::post)))))):=by
 have h1:=Vp pre s a b (s'::(a'.flat++elS::(b'.flat++uo::post))) hk ha hb
 have h2:=Vp (pre++s::(a.flat++elS::(b.flat++[uo]))) s' a' b' post hk' ha' hb'
 have e:(pre++s::(a.flat++elS::(b.flat++[uo])))++s'::(a'.flat++elS::(b'.flat++uo::post))=pre++s::(a.flat++elS::(b.flat++uo::(s'::(a'.flat++elS::(b'.flat++uo::post))))):=by simp
 have hl:(pre++s::(a.flat++elS::(b.flat++[uo]))).length=pre.length+1+a.flat.length+1+b.flat.length+1:=by
  simp only[List.length_append,List.length_cons,List.length_nil]
  omega
 rw[e,hl] at h2
 unfold foR
 simp only[h1,Int.toNat_natCast,h2]
 obtain⟨L,hL⟩:∃L,L=pre++s::(a.flat++elS::(b.flat++uo::(s'::(a'.flat++elS::(b'.flat++uo::post))))):=⟨_,rfl⟩
 rw[←hL]
 have d1:L.take (pre.length+1+a.flat.length)=pre++s::a.flat:=by
  rw[hL,show pre++s::(a.flat++elS::(b.flat++uo::(s'::(a'.flat++elS::(b'.flat++uo::post)))))=(pre++s::a.flat)++(elS::(b.flat++uo::(s'::(a'.flat++elS::(b'.flat++uo::post))))) from by simp]
  exact Zn _ _ _ (by simp only[List.length_append,List.length_cons];omega)
 have d2:(L.drop (pre.length+1+a.flat.length+1+b.flat.length+2)).take (pre.length+1+a.flat.length+1+b.flat.length+1+1+a'.flat.length-(pre.length+1+a.flat.length+1+b.flat.length+2))=a'.flat:=by
  rw[hL,show pre++s::(a.flat++elS::(b.flat++uo::(s'::(a'.flat++elS::(b'.flat++uo::post)))))=(pre++s::(a.flat++elS::(b.flat++[uo,s'])))++(a'.flat++elS::(b'.flat++uo::post)) from by simp,Zo _ _ _ (by simp only[List.length_append,List.length_cons,List.length_nil];omega)]
  exact Zn _ _ _ (by omega)
 have d3:(L.drop (pre.length+1+a.flat.length)).take (pre.length+1+a.flat.length+1+b.flat.length-(pre.length+1+a.flat.length))=elS::b.flat:=by
  rw[hL,show pre++s::(a.flat++elS::(b.flat++uo::(s'::(a'.flat++elS::(b'.flat++uo::post)))))=(pre++s::a.flat)++((elS::b.flat)++uo::(s'::(a'.flat++elS::(b'.flat++uo::post)))) from by simp,Zo _ _ _ (by simp only[List.length_append,List.length_cons];omega)]
  exact Zn _ _ _ (by simp only[List.length_cons];omega)
 have d4:(L.drop (pre.length+1+a.flat.length+1+b.flat.length+1+1+a'.flat.length+1)).take (pre.length+1+a.flat.length+1+b.flat.length+1+1+a'.flat.length+1+b'.flat.length-(pre.length+1+a.flat.length+1+b.flat.length+1+1+a'.flat.length+1))=b'.flat:=by
  rw[hL,show pre++s::(a.flat++elS::(b.flat++uo::(s'::(a'.flat++elS::(b'.flat++uo::post)))))=(pre++s::(a.flat++elS::(b.flat++uo::s'::(a'.flat++[elS]))))++(b'.flat++uo::post) from by simp,Zo _ _ _ (by simp only[List.length_append,List.length_cons,List.length_nil];omega)]
  exact Zn _ _ _ (by omega)
 have d5:L.drop (pre.length+1+a.flat.length+1+b.flat.length+1+1+a'.flat.length+1+b'.flat.length)=uo::post:=by
  rw[hL,show pre++s::(a.flat++elS::(b.flat++uo::(s'::(a'.flat++elS::(b'.flat++uo::post)))))=(pre++s::(a.flat++elS::(b.flat++uo::s'::(a'.flat++elS::b'.flat))))++(uo::post) from by simp]
  exact Zo _ _ _ (by simp only[List.length_append,List.length_cons];omega)
 rw[d1,d2,d3,d4,d5]
 simp
def Zp (l:List dh) (lo hi:Nat) (r:Option (List dh)):Prop:=match r with
 | none=>∀i,lo<=i->i<hi->I7 l i=false
 | some l'=>∃i,lo<=i∧i<hi∧I7 l i=true∧(∀j,lo<=j->j<i->I7 l j=false)∧foR l i=l'
theorem Zp.wider {l:List dh} {lo hi lo' hi':Nat} {r:List dh} (h:Zp l lo hi (some r)) (h1:lo'<=lo) (h2:hi<=hi') (hno:∀i,lo'<=i->i<lo->I7 l i=false):Zp l lo' hi' (some r):=by
 obtain⟨i,g1,g2,g3,g4,g5⟩:=h
 refine⟨i,by omega,by omega,g3,fun j hj hji=>?_,g5⟩
 by_cases c:lo<=j
 ·exact g4 j c hji
 ·exact hno j hj (by omega)
theorem awr:∀(t:BF) (pre post:List dh),t.wf->(∀q,post.head?=some q->q.kind≠4)->Zp (pre++(t.flat++post)) pre.length (pre.length+t.flat.length) ((stepT t).map (fun t'=>pre++(t'.flat++post))):=by
 intro t
 induction t using BF.ind with
 | nil =>
  intro pre post _ _
  show ∀i,_->_->_
  intro i h1 h2
  simp[BF.flat] at h2
  omega
 | node s a b r iha ihb ihr =>
  intro pre post hw hp
  obtain⟨w1,w2,w3,w4,w5,w6⟩:=hw
  by_cases hk:s.kind=4
  case neg =>
   obtain⟨rfl,rfl⟩:=w3 hk
   have hnj:joH s r=none:=by
    cases r using BF.inv with
    | nil=>rfl
    | node s' a' b' r' =>
     rw[V6,if_neg]
     rw[Rn]
     exact fun h9=>hk h9.1
   have hst:stepT (.node s .nil .nil r)=(stepT r).map (fun r1=>.node s .nil .nil r1):=by
    conv=>lhs;unfold stepT
    rw[hnj]
    rfl
   have hfl:∀r1,(BF.node s .nil .nil r1).flat=s::r1.flat:=fun r1=>by rw[jd,if_neg hk]
   have hI:=ihr (pre++[s]) post w6 hp
   have e:pre++((BF.node s .nil .nil r).flat++post)=(pre++[s])++(r.flat++post):=by rw[hfl];simp
   have hh:I7 ((pre++[s])++(r.flat++post)) pre.length=false:=Zm (s:=s) (by simp) hk
   rw[hst,e]
   have hl:(pre++[s]).length=pre.length+1:=by simp
   rw[hl] at hI
   rw[hfl,List.length_cons]
   cases hr:stepT r with
   | none =>
    rw[hr] at hI
    intro i h1 h2
    by_cases c:i=pre.length
    ·rw[c];exact hh
    ·exact hI i (by omega) (by omega)
   | some r1 =>
    rw[hr] at hI
    have h9:=Zp.wider (lo':=pre.length) (hi':=pre.length+(r.flat.length+1)) hI (by omega) (by omega) (fun i h1 h2=>by
     have:i=pre.length:=by omega
     rw[this];exact hh)
    simp only[Option.map_some]
    rw[hfl]
    simpa using h9
  case pos =>
   have hfl:∀a1 b1 r1,(BF.node s a1 b1 r1).flat=s::(a1.flat++elS::(b1.flat++uo::r1.flat)):=fun a1 b1 r1=>by rw[jd,if_pos hk]
   have eL:pre++((BF.node s a b r).flat++post)=pre++s::(a.flat++elS::(b.flat++uo::(r.flat++post))):=by rw[hfl];simp
   have hlen:(BF.node s a b r).flat.length=a.flat.length+b.flat.length+r.flat.length+3:=by
    rw[hfl]
    simp only[List.length_cons,List.length_append]
    omega
   rw[eL,hlen]
   have ami:=awq pre s a b (r.flat++post) hk w4 w5
   obtain⟨L,hL⟩:∃L,L=pre++s::(a.flat++elS::(b.flat++uo::(r.flat++post))):=⟨_,rfl⟩
   have hA:=iha (pre++[s]) (elS::(b.flat++uo::(r.flat++post))) w4 (fun q hq=>by simp only[List.head?_cons,Option.some.injEq] at hq;rw[←hq];decide)
   have hB:=ihb (pre++s::(a.flat++[elS])) (uo::(r.flat++post)) w5 (fun q hq=>by simp only[List.head?_cons,Option.some.injEq] at hq;rw[←hq];decide)
   have hR:=ihr (pre++s::(a.flat++elS::(b.flat++[uo]))) post w6 hp
   have eA:(pre++[s])++(a.flat++(elS::(b.flat++uo::(r.flat++post))))=L:=by rw[hL];simp
   have eB:(pre++s::(a.flat++[elS]))++(b.flat++(uo::(r.flat++post)))=L:=by rw[hL];simp
   have eR:(pre++s::(a.flat++elS::(b.flat++[uo])))++(r.flat++post)=L:=by rw[hL];simp
   have lA:(pre++[s]).length=pre.length+1:=by simp
   have lB:(pre++s::(a.flat++[elS])).length=pre.length+a.flat.length+2:=by
    simp only[List.length_append,List.length_cons,List.length_nil]
    omega
   have lR:(pre++s::(a.flat++elS::(b.flat++[uo]))).length=pre.length+a.flat.length+b.flat.length+3:=by
    simp only[List.length_append,List.length_cons,List.length_nil]
    omega
   rw[eA,lA] at hA
   rw[eB,lB] at hB
   rw[eR,lR] at hR
   rw[←hL] at ami ⊢
   have hel:I7 L (pre.length+1+a.flat.length)=false:=by
    refine Zm (s:=elS) ?_ (by decide)
    rw[←eB,List.getElem?_append_left (by rw[lB];omega),List.getElem?_append_right (by omega),show pre.length+1+a.flat.length-pre.length=a.flat.length+1 from by omega,List.getElem?_cons_succ,List.getElem?_append_right (Nat.le_refl _)]
    simp
   have hen:I7 L (pre.length+a.flat.length+b.flat.length+2)=false:=by
    refine Zm (s:=uo) ?_ (by decide)
    rw[←eR,List.getElem?_append_left (by rw[lR];omega),List.getElem?_append_right (by omega),show pre.length+a.flat.length+b.flat.length+2-pre.length=(a.flat.length+(b.flat.length+1))+1 from by omega,List.getElem?_cons_succ,List.getElem?_append_right (by omega),show a.flat.length+(b.flat.length+1)-a.flat.length=b.flat.length+1 from by omega,List.getElem?_cons_succ,List.getElem?_append_right (Nat.le_refl _)]
    simp
   cases hj:joH s r with
   | some p =>
    obtain⟨a',b',r'⟩:=p
    obtain⟨_,s',rfl,hjo⟩:=ale (a:=a) (b:=b) hj
    obtain⟨_,k2,k3⟩:=(Rn _ _).1 hjo
    obtain⟨_,_,_,v4,v5,v6⟩:=w6
    have hst:stepT (.node s a b (.node s' a' b' r'))=some (.node s (a.app a') (b.app b') r'):=by
     conv=>lhs;unfold stepT
     rw[hj]
    rw[hst]
    have hf2:(BF.node s' a' b' r').flat=s'::(a'.flat++elS::(b'.flat++uo::r'.flat)):=by rw[jd,if_pos k2]
    refine⟨pre.length,Nat.le_refl _,by omega,?_,fun j h1 h2=>by omega,?_⟩
    ·rw[ami,hf2]
     simp[k2,k3]
    ·show foR L pre.length=pre++((BF.node s (a.app a') (b.app b') r').flat++post)
     rw[hfl,Aj,Aj,hL,hf2]
     have h9:=ar2 pre s a b s' a' b' (r'.flat++post) hk k2 w4 w5 v4 v5
     simp only[List.cons_append,List.append_assoc] at h9 ⊢
     exact h9
   | none =>
    have hh:I7 L pre.length=false:=by
     rw[ami]
     cases r using BF.inv with
     | nil =>
      simp only[BF.flat,List.nil_append]
      cases post with
      | nil=>rfl
      | cons q post =>
       have:=hp q rfl
       simp[this]
     | node s' a' b' r' =>
      have hnj:¬Ko s s'=true:=fun h9=>by rw[V6,if_pos h9] at hj;cases hj
      have hhd:∃tl,(BF.node s' a' b' r').flat++post=s'::tl:=by
       rw[jd]
       split
       ·exact⟨_,rfl⟩
       ·exact⟨_,rfl⟩
      obtain⟨tl,htl⟩:=hhd
      rw[htl]
      simp only
      rw[Bool.and_eq_false_iff]
      by_cases c:s'.kind=4
      ·refine Or.inr (decide_eq_false fun h9=>hnj ((Rn _ _).2 ⟨hk,c,h9.symm⟩))
      ·exact Or.inl (decide_eq_false c)
    have hst:stepT (.node s a b r)=match stepT a with
      | some a1=>some (.node s a1 b r)
      | none=>match stepT b with
       | some b1=>some (.node s a b1 r)
       | none=>(stepT r).map (fun r1=>.node s a b r1):=by
     conv=>lhs;unfold stepT
     rw[hj]
     all_goals rfl
    rw[hst]
    cases ha:stepT a with
    | some a1 =>
     rw[ha] at hA
     simp only[Option.map_some] at hA ⊢
     have h9:=Zp.wider (lo':=pre.length) (hi':=pre.length+(a.flat.length+b.flat.length+r.flat.length+3)) hA (by omega) (by omega) (fun i h1 h2=>by
      have:i=pre.length:=by omega
      rw[this];exact hh)
     rw[hfl]
     simpa using h9
    | none =>
     rw[ha] at hA
     have nA:∀i,pre.length<=i->i<pre.length+a.flat.length+2->I7 L i=false:=fun i h1 h2=>by
      by_cases c1:i=pre.length
      ·rw[c1];exact hh
      by_cases c2:i<pre.length+1+a.flat.length
      ·exact hA i (by omega) c2
      ·have:i=pre.length+1+a.flat.length:=by omega
       rw[this];exact hel
     cases hb:stepT b with
     | some b1 =>
      rw[hb] at hB
      simp only[Option.map_some] at hB ⊢
      have h9:=Zp.wider (lo':=pre.length) (hi':=pre.length+(a.flat.length+b.flat.length+r.flat.length+3)) hB (by omega) (by omega) nA
      rw[hfl]
      simpa using h9
     | none =>
      rw[hb] at hB
      have nB:∀i,pre.length<=i->i<pre.length+a.flat.length+b.flat.length+3->I7 L i=false:=fun i h1 h2=>by
       by_cases c1:i<pre.length+a.flat.length+2
       ·exact nA i h1 c1
       by_cases c2:i<pre.length+a.flat.length+2+b.flat.length
       ·exact hB i (by omega) c2
       ·have:i=pre.length+a.flat.length+b.flat.length+2:=by omega
        rw[this];exact hen
      cases hr:stepT r with
      | some r1 =>
       rw[hr] at hR
       simp only[Option.map_some] at hR ⊢
       have h9:=Zp.wider (lo':=pre.length) (hi':=pre.length+(a.flat.length+b.flat.length+r.flat.length+3)) hR (by omega) (by omega) nB
       rw[hfl]
       simpa using h9
      | none =>
       rw[hr] at hR
       intro i h1 h2
       by_cases c:i<pre.length+a.flat.length+b.flat.length+3
       ·exact nB i h1 c
       ·exact hR i (by omega) (by omega)
theorem apg (t:BF) (h:t.wf):Zp t.flat 0 t.flat.length ((stepT t).map BF.flat):=by
 have h9:=awr t [] [] h (fun q hq=>by cases hq)
 simpa using h9
end Go.Proofs.YtlcgnbcgmljpaaaGreat
