import Derived.Test.YtflcnhfakcgkeaaGreatCS23
import Derived.Test.YtflcnhfakcgkeaaGreatCS31
import Derived.Test.YtflcnhfakcgkeaaGreatCR1
import Derived.Test.YtflcnhfakcgkeaaGreatApp
namespace Go.Proofs.YtflcnhfakcgkeaaGreat
open Go.RowKit
set_option linter.unusedSimpArgs false
set_option linter.unusedVariables false
def Bl (W w:World) (v:Value) (codes:List (List eu)):Prop :=
 ∃a cap,v=.slice a codes.length cap∧∀k (hk:k<codes.length),∃g o cv,a=some ⟨g,o,none⟩∧w.cell? ⟨g,o+k,none⟩=some cv∧bf 3 32 jw 0 W cv codes[k]∧(g<W.heap.size∨∃cs,dh w g 45 cs)
theorem Bl.below {W w w':World} {v:Value} {codes:List (List eu)} (h:Bl W w v codes) (hb:Below w.heap.size w w'):Bl W w' v codes:=by
 obtain⟨a,cap,hv,hx⟩:=h
 refine⟨a,cap,hv,fun k hk=>?_⟩
 obtain⟨g,o,cv,h1,h2,h3,h4⟩:=hx k hk
 refine⟨g,o,cv,h1,(hb.cell (World.block_lt_of_cell? w _ h2)).trans h2,h3,h4.imp id (fun⟨cs,h5⟩=>⟨cs,h5.below hb h5.lt⟩)⟩
theorem Bl.grow {W w w':World} {v:Value} {codes:List (List eu)} (h:Bl W w v codes) {X:Nat->Prop} {C L C' L':List cu->Option Nat} {N:Nat} (g:Grow W.heap.size w C L w' C' L') (t:Trie w W.heap.size X C L N):Bl W w' v codes:=by
 obtain⟨a,cap,hv,hx⟩:=h
 refine⟨a,cap,hv,fun k hk=>?_⟩
 obtain⟨g1,o,cv,h1,h2,h3,h4⟩:=hx k hk
 rcases h4 with h4|⟨cs,h4⟩
 ·exact⟨g1,o,cv,h1,(World.cell?_of_block (w:=w) (g.keep.low g1 h4)).trans h2,h3,Or.inl h4⟩
 ·have h5:=g.asn t h4 (by decide)
  exact⟨g1,o,cv,h1,(World.cell?_of_block (w:=w) (h5.trans h4.symm)).trans h2,h3,Or.inr ⟨cs,h5⟩⟩
set_option maxHeartbeats 400000 in
theorem Yc (x:qg) (b o:Nat) (W w:World) (hold:Below W.heap.size W w) (h:At 4 Dt W b o x) :
  Calls Tryz.prog 52 #[.pointer (some ⟨b,o,none⟩)] w fun e w'=>∃v,e=.returned v∧Bl W w' v (dw x)∧Below w.heap.size w w':=by
 obtain⟨lhs,code,s,args⟩:=x
 obtain⟨hbl,cs,hl,hc,a1,a2,a3,rfl,hs,h1,h2,h3⟩:=h
 simp only[dw] at *
 have k1:=(hold.cell (p:=⟨b,_,none⟩) hbl).trans (hc 1 (by simp))
 have k2:=(hold.cell (p:=⟨b,_,none⟩) hbl).trans (hc 2 (by simp))
 have k3:=(hold.cell (p:=⟨b,_,none⟩) hbl).trans (hc 3 (by simp))
 simp only[List.getElem_cons_zero,List.getElem_cons_succ] at k1 k2 k3
 have H2:=hide h2
 obtain⟨b2,c2,rfl⟩:=h2.shape
 have HA:Hid (Bl W w a3 args):=by
  obtain⟨a,cap,rfl,_,_,hx⟩:=h3
  refine hide ⟨a,cap,rfl,fun k hk=>?_⟩
  obtain⟨g,o',cs,ha,_,hg,hcs,hcc,cv,rfl,hcv⟩:=hx k hk
  have h9:=(hold.cell (p:=⟨g,_,none⟩) hg).trans (hcc 0 (by simp))
  simp only[Nat.mul_one,Nat.add_zero,List.getElem_cons_zero] at h9
  exact⟨g,o',cv,ha,h9,hcv,Or.inl hg⟩
 obtain⟨b3,c3,rfl⟩:=h3.shape
 clear h1 h2 h3 hc hs hl
 by_cases g:s.size=0
 ·rw[if_pos g]
  have d4:=Aa s g
  have Ij:=xg s g
  have HO:Hid (Bl W (w.alloc (.cells #[.slice b2 code.length c2] 45)) (.slice (some ⟨w.heap.size,0,none⟩) 1 1) [code]):=by
   refine hide ⟨_,1,rfl,fun k hk=>?_⟩
   have hk0:k=0:=by simpa using hk
   subst hk0
   have h9:=jd w #[.slice b2 code.length c2] 45
   exact⟨w.heap.size,0,_,rfl,h9.cell (i:=0) rfl,uh H2,Or.inr ⟨_,h9⟩⟩
  clear g
  go_enter Tryz.func52,Tryz.ntmps52
  go_wp2
  go_ret
  exact⟨_,rfl,uh HO,(Below.refl _ _).alloc (Nat.le_refl _) _⟩
 ·rw[if_neg g]
  have d4:=Ae s g
  have Ij:=vk s g
  clear g
  go_enter Tryz.func52,Tryz.ntmps52
  go_wp2
  go_ret
  exact⟨_,rfl,uh HA,Below.refl _ _⟩
set_option maxRecDepth 20000 in
set_option maxHeartbeats 4000000 in
theorem aam (W w:World) (nv:Value) (vs:List gy) (G:List Int) (sb vb:Nat) (ov:Value) (D:List Nat) (C L:List cu->Option Nat) (N:Nat) (h:Sc W w nv .nilFunc vs G sb vb ov D C L N) (e:qg) (qb qo:Nat) (he:At 4 Dt W qb qo e) (hlh:0<e.lhs.length) (hlk:∀s,s∈e.lhs->jc vs s<vs.length) (p:Nat) (hp:C (uj vs e).clock=some p) :
  Calls Tryz.prog 51 #[.pointer (some ⟨sb,0,none⟩),.pointer (some ⟨qb,qo,none⟩)] w (Ans (.pointer (some ⟨p,0,none⟩)) w):=by
 have s2:=h.tq.cell (i:=2) (v:=.map (some vb)) rfl
 have hold:=h.old
 obtain⟨lhs,code,s,args⟩:=e
 obtain⟨hbl,cs,hl,hc,x1,x2,x3,rfl,hs,h1,h2,h3⟩:=he
 simp only[uj] at *
 obtain⟨lb,lo,amw,hx1,hat⟩:=h1.at' 0 hlh
 subst hx1
 obtain⟨ahp,ls,hll,hlc,rfl,hls⟩:=hat
 have k0:=(hold.cell (p:=⟨qb,_,none⟩) hbl).trans (hc 0 (by simp))
 have l0:=(hold.cell (p:=⟨lb,_,none⟩) ahp).trans (hlc 0 (by simp))
 simp only[List.getElem_cons_zero,List.getElem_cons_succ,Nat.add_zero,Nat.zero_mul] at k0 l0
 have ehd:lhs.headD ⟨#[]⟩=lhs[0]:=by
  cases lhs with
  | nil=>simp at hlh
  | cons a r=>rfl
 rw[ehd] at hp
 have hn:lhs[0].size<=maxLen:=by unfold Len at hls;unfold maxLen;omega
 obtain⟨dk,p1,cv,Bg,hdb,hp1⟩:=h.var lhs[0] hn (hlk _ (List.getElem_mem _))
 have hpe:p1=p:=by
  have h9:C (jg vs lhs[0]).clock=some p1:=hp1
  rw[hp] at h9
  exact(Option.some.inj h9).symm
 subst hpe
 have d3:=hdb.cell (i:=3) (v:=.pointer (some ⟨p1,0,none⟩)) rfl
 have hlk2:∀nq,(Instr.lookup 76 (.map (some vb)) (.string lhs[0]) false).run Tryz.prog (w.drewN nq)=.ok (.pointer (some ⟨dk,0,none⟩)) (w.drewN nq):=fun nq=>Bg _ (jf (Below.refl _ _) nq)
 generalize lhs[0]=nm at *
 have a1p:(0:Int)<(lhs.length:Int):=by omega
 generalize lhs.length=ll at *
 clear h hc hl hs h1 h2 h3 hlc hll hls hold hbl ahp hlk hn hdb Bg hp hp1 ehd
 go_enter Tryz.func51,Tryz.ntmps51
 go_wp2_with fail
 go_quiet ((fail))
 go_wp2
 go_ret
 exact⟨rfl,jf (Below.refl _ _) _⟩
theorem Fd.inner {α:Type} {f:eu->List α->α} {code:List eu} {b e:Nat} {us:List α} (h:Fd f code b e us):∀j,b<=j->j<e->∃bj s,Fd f code bj (j+1) [s]∧b<=bj:=by
 induction h using Fd.ind with
 | nil b=>intro j h1 h2;omega
 | @snoc b m e ss us h h1 h2 h3 i1 i2 =>
  intro j hj1 hj2
  by_cases c1:j<m
  ·exact i1 j hj1 c1
  ·by_cases c2:j<e
   ·obtain⟨bj,s,g1,g2⟩:=i2 j (by omega) c2
    have:=h1.le
    exact⟨bj,s,g1,by omega⟩
   ·have e9:j=e:=by omega
    subst e9
    have:=h1.le
    exact⟨m,_,.snoc h (.nil m) h2 h3,by omega⟩
theorem apy (code:List eu) (i:Nat) (d:Nat):Qz code i d=true↔∃j,∃hj:j<code.length,i<j∧j<i+1+d∧F8 code[j].op=true∧Gz (code.take j)<=i:=by
 induction d with
 | zero =>
  unfold Qz
  constructor
  ·intro h;cases h
  ·rintro⟨j,hj,h1,h2,_⟩;omega
 | succ d ih =>
  unfold Qz
  rw[Bool.or_eq_true,ih]
  constructor
  ·rintro(⟨j,hj,h1,h2,h3,h4⟩|h)
   ·exact⟨j,hj,h1,by omega,h3,h4⟩
   ·by_cases hl:i+1+d<code.length
    ·rw[List.getElem?_eq_getElem hl] at h
     simp only[Bool.and_eq_true,decide_eq_true_iff] at h
     exact⟨i+1+d,hl,by omega,by omega,h.1,h.2⟩
    ·rw[List.getElem?_eq_none (by omega)] at h
     cases h
  ·rintro⟨j,hj,h1,h2,h3,h4⟩
   by_cases c:j<i+1+d
   ·exact Or.inl ⟨j,hj,h1,c,h3,h4⟩
   ·have e:j=i+1+d:=by omega
    subst e
    right
    rw[List.getElem?_eq_getElem hj]
    simp only[Bool.and_eq_true,decide_eq_true_iff]
    exact⟨h3,h4⟩
theorem al7 (code:List eu) (i:Nat):Yz code i=true↔∃j,∃hj:j<code.length,i<j∧F8 code[j].op=true∧Gz (code.take j)<=i:=by
 unfold Yz
 rw[apy]
 constructor
 ·rintro⟨j,hj,h1,_,h3,h4⟩;exact⟨j,hj,h1,h3,h4⟩
 ·rintro⟨j,hj,h1,h3,h4⟩;exact⟨j,hj,h1,by omega,h3,h4⟩
theorem al8 (code:List eu) (k:Nat) (nm:ByteArray):nm∈Dw code k↔∃j,j<k∧nm∈Hz code j:=by
 induction k with
 | zero=>simp[Dw]
 | succ k ih =>
  unfold Dw
  rw[List.mem_append,ih]
  constructor
  ·rintro(⟨j,h1,h2⟩|h)
   ·exact⟨j,by omega,h2⟩
   ·exact⟨k,by omega,h⟩
  ·rintro⟨j,h1,h2⟩
   by_cases c:j<k
   ·exact Or.inl ⟨j,c,h2⟩
   ·have e:j=k:=by omega
    subst e
    exact Or.inr h2
theorem apz {op:Int} (h:F8 op=true):op=21∨op=22:=by
 unfold F8 at h
 simpa using h
theorem ap0 {code:List eu} (hc:Po code) {b j:Nat} {s:Unit} (hj:j<code.length) (hf:F8 code[j].op=true) (h:Fd un code b (j+1) [s]):Gz (code.take j)=(b:Int)∧b<j:=by
 obtain⟨_,us,hus,pz,_⟩:=h.last
 have hl:us.length=1:=by
  rw[pz]
  rcases apz hf with e|e<;>rw[e]<;>rfl
 match us,hl with
 | [u],_ =>
  refine⟨Vg (fun t ht=>(Mc t.op).2 (by have:=((zo t).1 (hc.1 t ht)).1;omega)) hus (by omega),?_⟩
  obtain⟨m,e1,s0,us2,hlt,he,_,_,c1,c2,_⟩:=hus.Sj (n:=0) rfl
  have:=c1.le
  have:=c2.le
  omega
def Jq (code:List eu) (k:Nat) (xs:List ByteArray):Prop :=
 (∀j (hj:j<code.length),k<=j->F8 code[j].op=true->∀b s,Fd un code b (j+1) [s]->k<=b)∧(∀nm,nm∈xs↔∃j,j<code.length∧k<=j∧nm∈Hz code j)∧xs.length+k<=code.length
theorem Jq.start (code:List eu):Jq code code.length []:=by
 refine⟨fun j hj h=>by omega,fun nm=>⟨fun h=>(by cases h),fun⟨j,h1,h2,_⟩=>(by omega)⟩,by simp⟩
theorem Jq.fby {code:List eu} (hc:Po code) {i:Nat} {xs:List ByteArray} (h:Jq code (i+1) xs) (hi:i<code.length) (hf:F8 code[i].op=true) {b:Nat} {s:Unit} (hb:Fd un code b (i+1) [s]):Jq code b xs∧b<i+1:=by
 obtain⟨hg,hbi⟩:=ap0 hc hi hf hb
 refine⟨⟨fun j hj hk hfj bj sj hbj=>?_,fun nm=>?_,by have:=h.2.2;omega⟩,by omega⟩
 ·by_cases c:i+1<=j
  ·have:=h.1 j hj c hfj bj sj hbj
   omega
  ·obtain⟨b2,s2,g1,g2⟩:=hb.inner j hk (by omega)
   have:=(Fd.one _ _ _ _ _ hbj g1 rfl).1
   omega
 ·rw[h.2.1 nm]
  constructor
  ·rintro⟨j,h1,h2,h3⟩;exact⟨j,h1,by omega,h3⟩
  ·rintro⟨j,h1,h2,h3⟩
   refine⟨j,h1,?_,h3⟩
   rcases Nat.lt_or_ge i j with c|c
   ·exact c
   ·exfalso
    unfold Hz at h3
    rw[List.getElem?_eq_getElem h1] at h3
    simp only at h3
    by_cases hn:code[j].name.size=0
    ·rw[if_pos hn] at h3;cases h3
    ·rw[if_neg hn] at h3
     by_cases e:j=i
     ·subst e
      have hit:=((zo code[j]).1 (hc.1 _ (List.getElem_mem h1))).2.2
      unfold Lc at hit
      rw[if_neg (by rcases apz hf with e|e<;>omega)] at hit
      exact hn (by simpa using hit)
     ·have hh:Yz code j=true:=(al7 code j).2 ⟨i,hi,by omega,hf,by rw[hg];omega⟩
      rw[if_pos hh] at h3
      cases h3
theorem Jq.hidden {code:List eu} (hc:Po code) {i:Nat} {xs:List ByteArray} (h:Jq code (i+1) xs):Yz code i=false:=by
 cases hh:Yz code i with
 | false=>rfl
 | true =>
  exfalso
  obtain⟨j,hj,h1,h2,h3⟩:=(al7 code i).1 hh
  obtain⟨b,s,hb⟩:=ap1 un hc.2.1 j hj
  have h4:=h.1 j hj (by omega) h2 b s hb
  have h5:=(ap0 hc hj h2 hb).1
  omega
theorem Jq.skip {code:List eu} {i:Nat} {xs:List ByteArray} (h:Jq code (i+1) xs) (hi:i<code.length) (hf:F8 code[i].op=false) (hn:code[i].name.size=0):Jq code i xs:=by
 refine⟨fun j hj hk hfj b s hb=>?_,fun nm=>?_,by have:=h.2.2;omega⟩
 ·by_cases c:j=i
  ·subst c;rw[hf] at hfj;cases hfj
  ·have:=h.1 j hj (by omega) hfj b s hb
   omega
 ·rw[h.2.1 nm]
  constructor
  ·rintro⟨j,h1,h2,h3⟩;exact⟨j,h1,by omega,h3⟩
  ·rintro⟨j,h1,h2,h3⟩
   refine⟨j,h1,?_,h3⟩
   rcases Nat.lt_or_ge i j with c|c
   ·exact c
   ·exfalso
    have e:j=i:=by omega
    subst e
    unfold Hz at h3
    rw[List.getElem?_eq_getElem h1] at h3
    simp only at h3
    rw[if_pos hn] at h3
    cases h3
theorem Jq.push {code:List eu} (hc:Po code) {i:Nat} {xs:List ByteArray} (h:Jq code (i+1) xs) (hi:i<code.length) (hf:F8 code[i].op=false) (hn:¬code[i].name.size=0):Jq code i (xs++[code[i].name]):=by
 have hh:=h.hidden hc
 refine⟨fun j hj hk hfj b s hb=>?_,fun nm=>?_,by have:=h.2.2;rw[List.length_append,List.length_singleton];omega⟩
 ·by_cases c:j=i
  ·subst c;rw[hf] at hfj;cases hfj
  ·have:=h.1 j hj (by omega) hfj b s hb
   omega
 ·rw[List.mem_append,h.2.1 nm,List.mem_singleton]
  have hv:Hz code i=[code[i].name]:=by
   unfold Hz
   rw[List.getElem?_eq_getElem hi]
   simp only
   rw[if_neg hn,if_neg (by rw[hh];simp)]
  constructor
  ·rintro(⟨j,h1,h2,h3⟩|h)
   ·exact⟨j,h1,by omega,h3⟩
   ·exact⟨i,hi,Nat.le_refl _,by rw[hv,h];simp⟩
  ·rintro⟨j,h1,h2,h3⟩
   by_cases c:j=i
   ·subst c
    rw[hv,List.mem_singleton] at h3
    exact Or.inr h3
   ·exact Or.inl ⟨j,h1,by omega,h3⟩
def ap2 (code:List eu) (w:World) (e:Ending) (w':World):Prop :=
 ∃v xs,e=.returned v∧iw zh w' w.heap.size v xs∧Below w.heap.size w w'∧(∀nm,nm∈xs↔nm∈Dw code code.length)∧xs.length<=code.length
set_option maxRecDepth 20000 in
set_option maxHeartbeats 4000000 in
theorem ak8 (code:List eu) (cv:Value) (w:World) (hcv:bf 3 32 jw 0 w cv code) (hc:Po code) (hl3:code.length<=3000) :
  Calls Tryz.prog 53 #[cv] w (ap2 code w):=by
 have Kz:=hide (ag0 code cv w hcv hc.2.1 hl3)
 obtain⟨ca,cc,aio⟩:=hcv.shape
 subst aio
 have Zp:=hide hcv
 have HC:=hide hc
 obtain⟨PO,l7⟩:∃PO:Ending->World->Prop,PO=ap2 code w:=⟨_,rfl⟩
 rw[←l7]
 have qy:=hide l7
 obtain⟨base,hbase⟩:∃base,base=w.heap.size:=⟨_,rfl⟩
 have HBE:=hide hbase
 clear hcv hc l7 hbase
 go_enter Tryz.func53,Tryz.ntmps53
 go_wp2_with fail
 refine(uh Kz).mono ?_
 rintro e w1 ⟨g,rfl,hge,ayj,hb1⟩
 have HB1:=hide hb1
 have a2b:=hide ayj
 have HGE:=hide hge
 have hnw:IntKind.i64.wrap ((code.length:Int)-1)=(code.length:Int)-1:=by
  rw[IntKind.wrap_i64]
  omega
 clear hb1 ayj hge Kz
 go_wp2
 clear hnw
 go_loopg [3,5] code.length (fun gm nv iv wr=>∃(k:Nat) (xs:List ByteArray),k<=code.length∧gm=k∧iv=.int .i64 ((k:Int)-1)∧Jq code k xs∧iw zh wr (w1.heap.size) nv xs∧Below w1.heap.size w1 wr)
 case atStart=>exact⟨code.length,[],Nat.le_refl _,rfl,rfl,Jq.start code,iw.nil (E:=zh) _ _,Below.refl _ _⟩
 case round =>
  obtain⟨k,xs,hk,hg,hiv,hinv,hown,hb⟩:=hrel
  rename World=>wr
  have HG:=hide hg
  have a2c:=hide hinv
  have HOWN:=hide hown
  have HB:=hide hb
  clear hg
  rcases Nat.eq_zero_or_pos k with hk0|hk0
  ·subst hk0
   have ac7:_=Value.int .i64 (-1):=hiv
   subst ac7
   obtain⟨na,nc,hne⟩:=hown.slice
   subst hne
   have gq:Hid (PO (.returned (.slice na xs.length nc)) wr):=by
    rw[uh qy]
    have hs1:=(uh HB1).size
    have ho9:iw zh wr w.heap.size (.slice na xs.length nc) xs:=⟨hown.1,by
     rcases hown.2 with h9|⟨g9,c9,cur,h1,h2,h3⟩
     ·exact Or.inl h9
     ·exact Or.inr ⟨g9,c9,cur,h1,by omega,h3⟩⟩
    refine hide ⟨_,xs,rfl,ho9,(uh HB1).trans (hb.mono hs1),fun nm=>?_,by have:=hinv.2.2;omega⟩
    rw[hinv.2.1 nm,al8]
    constructor
    ·rintro⟨j,h1,_,h3⟩;exact⟨j,h1,h3⟩
    ·rintro⟨j,h1,h3⟩;exact⟨j,h1,Nat.zero_le _,h3⟩
   clear hinv hown hb hiv
   go_wp2
   exact uh gq
  obtain⟨i,rfl⟩:∃z,k=z+1:=⟨k-1,by omega⟩
  have ac7:_=Value.int .i64 (i:Int):=hiv.trans (by congr 1;omega)
  subst ac7
  have hi:i<code.length:=by omega
  have hold:Below w.heap.size w wr:=(uh HB1).trans (hb.mono (uh HB1).size)
  obtain⟨_,_,Q5,_,_,hxx⟩:=(uh Zp).stays je hold
  simp only[Value.slice.injEq] at Q5
  obtain⟨rfl,H8,rfl⟩:=Q5
  clear H8
  obtain⟨cb,co,cs,rfl,_,hcb,hcs,hcc,hRR⟩:=hxx i hi
  obtain⟨rfl,hsn,ait,hvl⟩:=hRR
  have c0:=hcc 0 (by simp)
  have c1:=hcc 1 (by simp)
  have c2:=hcc 2 (by simp)
  simp only[Nat.mul_one,Nat.add_zero,List.getElem_cons_zero,List.getElem_cons_succ] at c0 c1 c2
  obtain⟨fv,hfv⟩:∃z,z=F8 code[i].op:=⟨_,rfl⟩
  have HIS:Hid (Calls Tryz.prog 86 #[.agg #[.int .i64 code[i].op,.int .i64 code[i].val,.string code[i].name]] wr (Ans (.bool fv) wr)):=by
   rw[hfv]
   exact hide (Y1 code[i].op code[i].val code[i].name wr)
  have Yb:(0:Int)<=(i:Int):=by omega
  have hiL:(i:Int)<(code.length:Int):=by omega
  have hw3:IntKind.i64.wrap ((i:Int)-1)=(i:Int)-1:=by
   rw[IntKind.wrap_i64]
   omega
  have a5s:=hide (uh HC)
  obtain⟨gcs,hgb,hgx⟩:=uh a2b
  obtain⟨b,s,hfb,hgc⟩:=hgx i hi
  have hgw:dh wr g 3 gcs:=hgb.below hb hgb.lt
  have bc:=hgw.cell hgc
  obtain⟨na,nc,hne⟩:=hown.slice
  subst hne
  have HI:=hide hi
  have abn:Hid (∀w',Below wr.heap.size wr w'->w'.cell? ⟨cb,co+i*3,none⟩=some (.int .i64 code[i].op)∧w'.cell? ⟨cb,co+i*3+1,none⟩=some (.int .i64 code[i].val)∧w'.cell? ⟨cb,co+i*3+2,none⟩=some (.string code[i].name)∧w'.cell? ⟨g,i,none⟩=some (.int .i64 (b:Nat))∧iw zh w' w1.heap.size (.slice na xs.length nc) xs∧Below w1.heap.size w1 w'):=fun w' vg=>by
   have ck:∀{p:Addr} {v:Value},wr.cell? p=some v->w'.cell? p=some v:=fun {p v} h9=>(vg.cell (World.block_lt_of_cell? wr _ h9)).trans h9
   exact⟨ck c0,ck c1,ck c2,ck bc,hown.below vg,hb.trans (vg.mono hb.size)⟩
  have hf:=hfv.symm
  clear hfv
  cases fv
  ·skip
   by_cases hn:code[i].name.size=0
   ·have xw:=hide (hinv.skip hi hf hn)
    have d4:=Aa code[i].name hn
    have Ij:=xg code[i].name hn
    generalize code[i]=t at *
    clear hxx hcc hcs hcb hsn ait hvl hinv hown hb hold hiv hf hn hgb hgx hfb hgc hgw hi
    go_wp2_with fail
    refine(uh HIS).mono ?_
    rintro e w2 ⟨rfl,hb2⟩
    obtain⟨z0,z1,z2,z3,ho2,hb3⟩:=uh abn w2 hb2
    have Ky:=hide ho2
    have HB3:=hide hb3
    clear hb2 ho2 hb3 abn c0 c1 c2 bc
    go_wp2
    go_roundg i
    case measure =>
     have h9:=uh HG
     omega
    case rel=>exact⟨i,xs,by have:=uh HI;omega,rfl,by go_num,uh xw,uh Ky,uh HB3⟩
   ·have xw:=hide (hinv.push (uh HC) hi hf hn)
    have hxl:xs.length<=3000:=by have:=hinv.2.2;omega
    have d4:=Ae code[i].name hn
    have Ij:=vk code[i].name hn
    generalize code[i]=t at *
    clear hxx hcc hcs hcb hsn ait hvl hinv hown hb hold hiv hf hn hgb hgx hfb hgc hgw hi
    go_wp2_with fail
    refine(uh HIS).mono ?_
    rintro e w2 ⟨rfl,hb2⟩
    obtain⟨z0,z1,z2,z3,ho2,hb3⟩:=uh abn w2 hb2
    have hA2:Below w2.heap.size w2 (w2.alloc (.cells #[.string t.name] 9)):=(Below.refl _ _).alloc (Nat.le_refl _) _
    have HO4:=hide (ho2.below hA2)
    have HB4:=hide (hb3.trans (hA2.mono hb3.size))
    have Q7:Hid (w1.heap.size<=(w2.alloc (.cells #[.string t.name] 9)).heap.size):=Nat.le_trans hb3.size hA2.size
    clear hb2 ho2 hb3 abn c0 c1 c2 bc hA2
    go_wp2_with (at_builtin;go_must (refine Dl zh _ rfl _ _ rfl w1.heap.size _ xs rfl (uh HO4) w2.heap.size t.name rfl (fun j u hu=>by rw[World.cell?_alloc_at _ _ _ _ rfl];simpa[zh] using hu) (by simp[zh];omega) (uh Q7) ?_))
    intro v' w5 Xa hg5 I7
    have P7:=hide Xa
    have Qu:Hid (Below w1.heap.size w1 w5):=hide ((uh HO4).grown (uh HB4) hg5 (uh Q7) (Nat.le_refl _))
    clear Xa hg5 I7
    go_wp2
    go_roundg i
    case measure =>
     have h9:=uh HG
     omega
    case rel=>exact⟨i,xs++[t.name],by have:=uh HI;omega,rfl,by go_num,uh xw,uh P7,uh Qu⟩
  ·skip
   obtain⟨hnx,hbi⟩:=hinv.fby (uh HC) hi hf hfb
   have xw:=hide hnx
   have hw4:IntKind.i64.wrap ((b:Int)-1)=(b:Int)-1:=by
    rw[IntKind.wrap_i64]
    omega
   have Md:=hide hbi
   generalize code[i]=t at *
   clear hxx hcc hcs hcb hsn ait hvl hinv hown hb hold hiv hf hgb hgx hfb hgc hgw hnx hbi hi
   go_wp2_with fail
   refine(uh HIS).mono ?_
   rintro e w2 ⟨rfl,hb2⟩
   obtain⟨z0,z1,z2,z3,ho2,hb3⟩:=uh abn w2 hb2
   have Ky:=hide ho2
   have HB3:=hide hb3
   clear hb2 ho2 hb3 abn c0 c1 c2 bc
   go_wp2
   go_roundg b
   case measure =>
    have h9:=uh HG
    have h8:=uh Md
    omega
   case rel=>exact⟨b,xs,by have:=uh HI;have:=uh Md;omega,rfl,by go_num,uh xw,uh Ky,uh HB3⟩
end Go.Proofs.YtflcnhfakcgkeaaGreat
