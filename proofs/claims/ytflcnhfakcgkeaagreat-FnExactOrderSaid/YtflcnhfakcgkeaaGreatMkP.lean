import Derived.Test.YtflcnhfakcgkeaaGreatMkG
import Derived.Test.YtflcnhfakcgkeaaGreatToE
import Derived.Test.YtflcnhfakcgkeaaGreatData
import Derived.Test.YtflcnhfakcgkeaaGreatCS45
import Derived.Test.YtflcnhfakcgkeaaGreatOD5
namespace Go.Proofs.YtflcnhfakcgkeaaGreat
open Go.RowKit
set_option linter.unusedSimpArgs false
set_option linter.unusedVariables false
theorem azp {cs':List Value} {a b c d:Value} (h:cs'.length=[a,b,c,d].length) (hk:∀j (h:j<[a,b,c,d].length) (h':j<cs'.length),Kind2 [a,b,c,d][j] cs'[j]):∃a' b' c' d',cs'=[a',b',c',d']∧Kind2 a a'∧Kind2 b b'∧Kind2 c c'∧Kind2 d d':=by
 match cs',h with
 | [a',b',c',d'],_=>exact⟨a',b',c',d',rfl,hk 0 (by simp) (by simp),hk 1 (by simp) (by simp),hk 2 (by simp) (by simp),hk 3 (by simp) (by simp)⟩
theorem azq {cs':List Value} {a b c d e:Value} (h:cs'.length=[a,b,c,d,e].length) (hk:∀j (h:j<[a,b,c,d,e].length) (h':j<cs'.length),Kind2 [a,b,c,d,e][j] cs'[j]):∃a' b' c' d' e',cs'=[a',b',c',d',e']∧Kind2 a a'∧Kind2 b b'∧Kind2 c c'∧Kind2 d d'∧Kind2 e e':=by
 match cs',h with
 | [a',b',c',d',e'],_=>exact⟨a',b',c',d',e',rfl,hk 0 (by simp) (by simp),hk 1 (by simp) (by simp),hk 2 (by simp) (by simp),hk 3 (by simp) (by simp),hk 4 (by simp) (by simp)⟩
def ahh (_ _:Nat) (_:World) (cs:List Value) (_:cu):Prop:=∃s x,cs=[.string s,.bool x]
def afr (lo hi:Nat) (w:World) (cs:List Value) (v:gy):Prop:=∃s x c,cs=[.string s,.int .i64 x,c]∧Es 2 ahh lo hi w c v.clock
def KEq (lo hi:Nat) (w:World) (cs:List Value) (e:qg):Prop:=∃l c s a,cs=[l,c,.string s,a]∧Es 1 aor lo hi w l e.lhs∧Es 3 aem lo hi w c e.code∧Es 1 aen lo hi w a e.args
def ahi (lo hi:Nat) (w:World) (cs:List Value) (n:ay):Prop:=∃s i o v e,cs=[.string s,i,o,v,e]∧Es 3 afr lo hi w i n.ins∧Es 3 afr lo hi w o n.outs∧Es 3 afr lo hi w v n.vars∧Es 4 KEq lo hi w e n.eqs
theorem Rn:Ui ahh:=fun _ _ _ _ _ _ _ _ hl hk ⟨x,y,h⟩=>by
 subst h
 obtain⟨a',b',rfl,h1,h2⟩:=azo hl hk
 obtain⟨y1,rfl⟩:=h1.str
 obtain⟨y2,rfl⟩:=h2.boo
 exact⟨_,_,rfl⟩
theorem Ia:Ui afr:=fun _ _ _ _ _ _ _ hm hl hk ⟨s,x,c,h,g1⟩=>by
 subst h
 obtain⟨a1,a2,a3,rfl,h1,h2,h3⟩:=aqt hl hk
 obtain⟨y1,rfl⟩:=h1.str
 obtain⟨y2,rfl⟩:=h2.int
 exact⟨_,_,_,rfl,g1.same Rn hm h3⟩
theorem P5:Ui KEq:=fun _ _ _ _ _ _ _ hm hl hk ⟨l,c,s,a,h,g1,g2,g3⟩=>by
 subst h
 obtain⟨a1,a2,a3,a4,rfl,h1,h2,h3,h4⟩:=azp hl hk
 obtain⟨y1,rfl⟩:=h3.str
 exact⟨_,_,_,_,rfl,g1.same U0 hm h1,g2.same Jt hm h2,g3.same Uj hm h4⟩
theorem Ib:Ui ahi:=fun _ _ _ _ _ _ _ hm hl hk ⟨s,i,o,v,e,h,g1,g2,g3,g4⟩=>by
 subst h
 obtain⟨a1,a2,a3,a4,a5,rfl,h1,h2,h3,h4,h5⟩:=azq hl hk
 obtain⟨y1,rfl⟩:=h1.str
 exact⟨_,_,_,_,_,rfl,g1.same Ia hm h2,g2.same Ia hm h3,g3.same Ia hm h4,g4.same P5 hm h5⟩
theorem aua {lo:Nat} {w:World} (cs:List Value) (x:cu) (h:jm lo w cs x):ahh lo w.heap.size w cs x:=⟨_,_,h.1⟩
theorem afs {lo:Nat} {w:World} (hf:Yh lo w.heap.size w) (cs:List Value) (x:gy) (h:RVar lo w cs x):afr lo w.heap.size w cs x:=by
 obtain⟨c,h1,_,_,g1⟩:=h
 exact⟨_,_,_,h1,Es.of hf aua g1⟩
theorem azr {lo:Nat} {w:World} (hf:Yh lo w.heap.size w) (cs:List Value) (x:qg) (h:Dt lo w cs x):KEq lo w.heap.size w cs x:=by
 obtain⟨l,c,a,h1,_,g1,g2,g3⟩:=h
 exact⟨_,_,_,_,h1,Es.of hf axb g1,Es.of hf aj0 g2,Es.of hf (aqv hf) g3⟩
theorem aub {lo:Nat} {w:World} (hf:Yh lo w.heap.size w) (cs:List Value) (x:ay) (h:o7 lo w cs x):ahi lo w.heap.size w cs x:=by
 obtain⟨i,o,v,e,h1,_,g1,g2,g3,g4⟩:=h
 exact⟨_,_,_,_,_,h1,Es.of hf (afs hf) g1,Es.of hf (afs hf) g2,Es.of hf (afs hf) g3,Es.of hf (azr hf) g4⟩
def Pj (_:cu):Nat:=2
def Kw (v:gy):Nat:=2+uf Pj v.clock v.clock.length
def Zz (e:qg):Nat:=1+uf mStr e.lhs e.lhs.length+uf Ju e.code e.code.length+uf J6 e.args e.args.length
def Pm (n:ay):Nat:=1+uf Kw n.ins n.ins.length+uf Kw n.outs n.outs.length+uf Kw n.vars n.vars.length+uf Zz n.eqs n.eqs.length
theorem auc (xs:List cu):uf Pj xs xs.length<=8*Bc Y9 xs:=Jv _ _ _ (fun x=>by unfold Pj;omega) xs
theorem aft (xs:List gy):uf Kw xs xs.length<=8*Bc Xo xs:=Jv _ _ _ (fun x=>by have:=auc x.clock;unfold Kw Xo;omega) xs
theorem azs (xs:List qg):uf Zz xs xs.length<=8*Bc wEq xs:=Jv _ _ _ (fun x=>by
 have h1:=axc x.lhs
 have h2:=aj1 x.code
 have h3:=aqw x.args
 unfold Zz wEq
 omega) xs
theorem aud (xs:List ay):uf Pm xs xs.length<=8*Bc Pg xs:=Jv _ _ _ (fun x=>by
 have h1:=aft x.ins
 have h2:=aft x.outs
 have h3:=aft x.vars
 have h4:=azs x.eqs
 unfold Pm Pg
 omega) xs
set_option maxHeartbeats 1000000 in
theorem aj6 (xs:List cu) (v:Value) (K:Int) (k r lo hi:Nat) (w:World) (hK:K=(k:Int)) (hr:k+uf Pj xs xs.length=r) (hrb:r<=1000000000) (hv:Es 2 ahh lo hi w v xs) (hhi:hi<=w.heap.size) :
  Calls Tryz.prog 56 #[v,.int .i64 K] w (Wj lo hi w r):=by
 subst hK
 obtain⟨a,cap,rfl,hn,hx⟩:=hv
 unfold Len at hn
 have HX:=hide hx
 have Jk:=hide (fun q hq=>Wi Pj xs q hq)
 have Ru:=hide hhi
 have HR:=hide hr
 have Yi:=hide hrb
 clear hx hhi hr hrb
 go_enter Tryz.func56,Tryz.ntmps56
 go_wp2
 go_loopg [1,5] xs.length (fun g kk i wr=>∃(q kq:Nat),q<=xs.length∧g=xs.length-q∧i=.int .i64 q∧kk=.int .i64 (kq:Int)∧Hid (k+uf Pj xs q=kq)∧Hid (Mk lo hi w wr))
 case atStart=>exact⟨0,k,Nat.zero_le _,by omega,rfl,rfl,by rw[D8];rfl,Mk.refl _ _ _⟩
 case round =>
  obtain⟨q,kq,hq,hg,rfl,rfl,G9,Ef⟩:=hrel
  have HG:=hide hg
  clear hg
  by_cases hlt:q<xs.length
  ·obtain⟨b,o,rfl,hel⟩:=uh HX q hlt
   have hel:=hel.stays Rn (uh Ef)
   have hst:k+uf Pj xs (q+1)=kq+Pj xs[q]:=by
    rw[Dk _ _ _ hlt,←uh G9]
    omega
   have hkb:kq+Pj xs[q]<=1000000000:=by
    have h1:=uh Jk (q+1) (by omega)
    have h2:=uh HR
    have h3:=uh Yi
    omega
   generalize xs[q]=x at hel hst hkb
   have em:Pj x=2:=rfl
   rw[em] at hst hkb
   have HST:=hide hst
   have H6:=hide hel
   have hh0:hi<=wr.heap.size:=Nat.le_trans (uh Ru) (uh Ef).size
   have R0:=hide (Mk.refl lo hi wr)
   clear hst hel em
   obtain⟨hlo,Ap,cs,hcs,hc,⟨s0,s1,rfl⟩⟩:=(uh H6).stays Rn (uh R0)
   clear hc hcs
   go_wp2_with fail
   refine(Kq _ (kq+0) _ (by omega) (by omega)).mono ?_
   rintro e w1 ⟨rfl,hb⟩
   have seg:Mk lo hi wr w1:=Mk.then (Mk.refl lo hi wr) hb hh0
   have R1:=hide ((uh R0).trans seg)
   have hh1:hi<=w1.heap.size:=Nat.le_trans hh0 seg.size
   clear hb seg
   clear hlo Ap
   obtain⟨hlo,Ap,cs,hcs,hc,⟨s0,s1,rfl⟩⟩:=(uh H6).stays Rn (uh R1)
   have c0:=(hc 0 (by simp)).1
   have f0:=(hc 0 (by simp)).2
   have c1:=(hc 1 (by simp)).1
   have f1:=(hc 1 (by simp)).2
   simp only[Nat.mul_one,Nat.add_zero,List.getElem_cons_zero,List.getElem_cons_succ] at c0 f0 c1 f1
   clear hc hcs
   go_wp2
   go_roundg (xs.length-(q+1))
   case measure=>have:=uh HG;omega
   case rel=>exact⟨q+1,kq+2,by omega,rfl,by go_num,by go_num,(by refine hide ?_;have:=uh HST;omega),(by refine hide ?_;exact(uh Ef).trans ((uh R1).trans (((Mk.refl lo hi w1).setCell hlo Ap c0 (Kind2.strs _ _)).setCell hlo Ap (by rw[Dv _ _ _ _ _ (Or.inr (by simp))];exact c1) (Kind2.bools _ _))))⟩
  ·have e:q=xs.length:=by omega
   have HE:Hid (kq=r):=by
    refine hide ?_
    rw[←uh G9,←uh HR,e]
   clear e
   go_wp2
   go_ret
   exact⟨(by rw[uh HE];rfl),uh Ef⟩
set_option maxHeartbeats 1000000 in
theorem Xq (xs:List gy) (v:Value) (K:Int) (k r lo hi:Nat) (w:World) (hK:K=(k:Int)) (hr:k+uf Kw xs xs.length=r) (hrb:r<=1000000000) (hv:Es 3 afr lo hi w v xs) (hhi:hi<=w.heap.size) :
  Calls Tryz.prog 33 #[v,.int .i64 K] w (Wj lo hi w r):=by
 subst hK
 obtain⟨a,cap,rfl,hn,hx⟩:=hv
 unfold Len at hn
 have HX:=hide hx
 have Jk:=hide (fun q hq=>Wi Kw xs q hq)
 have Ru:=hide hhi
 have HR:=hide hr
 have Yi:=hide hrb
 clear hx hhi hr hrb
 go_enter Tryz.func33,Tryz.ntmps33
 go_wp2
 go_loopg [1,5] xs.length (fun g kk i wr=>∃(q kq:Nat),q<=xs.length∧g=xs.length-q∧i=.int .i64 q∧kk=.int .i64 (kq:Int)∧Hid (k+uf Kw xs q=kq)∧Hid (Mk lo hi w wr))
 case atStart=>exact⟨0,k,Nat.zero_le _,by omega,rfl,rfl,by rw[D8];rfl,Mk.refl _ _ _⟩
 case round =>
  obtain⟨q,kq,hq,hg,rfl,rfl,G9,Ef⟩:=hrel
  have HG:=hide hg
  clear hg
  by_cases hlt:q<xs.length
  ·obtain⟨b,o,rfl,hel⟩:=uh HX q hlt
   have hel:=hel.stays Ia (uh Ef)
   have hst:k+uf Kw xs (q+1)=kq+Kw xs[q]:=by
    rw[Dk _ _ _ hlt,←uh G9]
    omega
   have hkb:kq+Kw xs[q]<=1000000000:=by
    have h1:=uh Jk (q+1) (by omega)
    have h2:=uh HR
    have h3:=uh Yi
    omega
   generalize xs[q]=x at hel hst hkb
   have em:Kw x=2+uf Pj x.clock x.clock.length:=rfl
   rw[em] at hst hkb
   have HST:=hide hst
   have H6:=hide hel
   have hh0:hi<=wr.heap.size:=Nat.le_trans (uh Ru) (uh Ef).size
   have R0:=hide (Mk.refl lo hi wr)
   clear hst hel em
   obtain⟨hlo,Ap,cs,hcs,hc,⟨s0,s1,v2,rfl,g2⟩⟩:=(uh H6).stays Ia (uh R0)
   obtain⟨sa2,Uu,rfl⟩:=g2.shape
   have G2:=hide g2
   clear g2
   clear hc hcs
   go_wp2_with fail
   refine(Kq _ (kq+0) _ (by omega) (by omega)).mono ?_
   rintro e w1 ⟨rfl,hb⟩
   have seg:Mk lo hi wr w1:=Mk.then (Mk.refl lo hi wr) hb hh0
   have R1:=hide ((uh R0).trans seg)
   have hh1:hi<=w1.heap.size:=Nat.le_trans hh0 seg.size
   clear hb seg
   clear G2
   clear hlo Ap
   obtain⟨hlo,Ap,cs,hcs,hc,⟨s0,s1,v2,rfl,g2⟩⟩:=(uh H6).stays Ia (uh R1)
   have c0:=(hc 0 (by simp)).1
   have f0:=(hc 0 (by simp)).2
   have c1:=(hc 1 (by simp)).1
   have f1:=(hc 1 (by simp)).2
   have c2:=(hc 2 (by simp)).1
   have f2:=(hc 2 (by simp)).2
   simp only[Nat.mul_one,Nat.add_zero,List.getElem_cons_zero,List.getElem_cons_succ] at c0 f0 c1 f1 c2 f2
   obtain⟨sa2,Uu,rfl⟩:=g2.shape
   have G2:=hide g2
   clear g2
   clear hc hcs
   obtain⟨r2,hr2⟩:∃r,kq+2+uf Pj x.clock (x.clock).length=r:=⟨_,rfl⟩
   have aj7:r2<=1000000000:=by omega
   have HR2:=hide hr2
   clear hr2
   go_wp2_with fail
   refine(aj6 _ _ _ (kq+2) r2 lo hi _ (by omega) (uh HR2) aj7 ((uh G2).stays Rn (((Mk.refl lo hi w1).setCell hlo Ap c0 (Kind2.strs _ _)).setCell hlo Ap (by rw[Dv _ _ _ _ _ (Or.inr (by simp))];exact c1) (Kind2.ints _ _))) (Nat.le_trans hh1 (Mk.size (((Mk.refl lo hi w1).setCell hlo Ap c0 (Kind2.strs _ _)).setCell hlo Ap (by rw[Dv _ _ _ _ _ (Or.inr (by simp))];exact c1) (Kind2.ints _ _))))).mono ?_
   rintro e w2 ⟨rfl,hm⟩
   have seg:Mk lo hi w1 w2:=Mk.trans (((Mk.refl lo hi w1).setCell hlo Ap c0 (Kind2.strs _ _)).setCell hlo Ap (by rw[Dv _ _ _ _ _ (Or.inr (by simp))];exact c1) (Kind2.ints _ _)) hm
   have R2:=hide ((uh R1).trans seg)
   have hh2:hi<=w2.heap.size:=Nat.le_trans hh1 seg.size
   clear hm seg
   clear c0 f0 c1 f1 c2 f2
   clear G2
   clear hlo Ap
   go_wp2
   go_roundg (xs.length-(q+1))
   case measure=>have:=uh HG;omega
   case rel=>exact⟨q+1,r2+0,by omega,rfl,by go_num,by go_num,(by refine hide ?_;have:=uh HST;have:=uh HR2;omega),(by refine hide ?_;exact(uh Ef).trans ((uh R2).trans (Mk.refl lo hi w2)))⟩
  ·have e:q=xs.length:=by omega
   have HE:Hid (kq=r):=by
    refine hide ?_
    rw[←uh G9,←uh HR,e]
   clear e
   go_wp2
   go_ret
   exact⟨(by rw[uh HE];rfl),uh Ef⟩
set_option maxHeartbeats 1000000 in
theorem adp (xs:List qg) (v:Value) (K:Int) (k r lo hi:Nat) (w:World) (hK:K=(k:Int)) (hr:k+uf Zz xs xs.length=r) (hrb:r<=1000000000) (hv:Es 4 KEq lo hi w v xs) (hhi:hi<=w.heap.size) :
  Calls Tryz.prog 34 #[v,.int .i64 K] w (Wj lo hi w r):=by
 subst hK
 obtain⟨a,cap,rfl,hn,hx⟩:=hv
 unfold Len at hn
 have HX:=hide hx
 have Jk:=hide (fun q hq=>Wi Zz xs q hq)
 have Ru:=hide hhi
 have HR:=hide hr
 have Yi:=hide hrb
 clear hx hhi hr hrb
 go_enter Tryz.func34,Tryz.ntmps34
 go_wp2
 go_loopg [1,5] xs.length (fun g kk i wr=>∃(q kq:Nat),q<=xs.length∧g=xs.length-q∧i=.int .i64 q∧kk=.int .i64 (kq:Int)∧Hid (k+uf Zz xs q=kq)∧Hid (Mk lo hi w wr))
 case atStart=>exact⟨0,k,Nat.zero_le _,by omega,rfl,rfl,by rw[D8];rfl,Mk.refl _ _ _⟩
 case round =>
  obtain⟨q,kq,hq,hg,rfl,rfl,G9,Ef⟩:=hrel
  have HG:=hide hg
  clear hg
  by_cases hlt:q<xs.length
  ·obtain⟨b,o,rfl,hel⟩:=uh HX q hlt
   have hel:=hel.stays P5 (uh Ef)
   have hst:k+uf Zz xs (q+1)=kq+Zz xs[q]:=by
    rw[Dk _ _ _ hlt,←uh G9]
    omega
   have hkb:kq+Zz xs[q]<=1000000000:=by
    have h1:=uh Jk (q+1) (by omega)
    have h2:=uh HR
    have h3:=uh Yi
    omega
   generalize xs[q]=x at hel hst hkb
   have em:Zz x=1+uf mStr x.lhs x.lhs.length+uf Ju x.code x.code.length+uf J6 x.args x.args.length:=rfl
   rw[em] at hst hkb
   have HST:=hide hst
   have H6:=hide hel
   have hh0:hi<=wr.heap.size:=Nat.le_trans (uh Ru) (uh Ef).size
   have R0:=hide (Mk.refl lo hi wr)
   clear hst hel em
   obtain⟨hlo,Ap,cs,hcs,hc,⟨v0,v1,s2,v3,rfl,g0,g1,g3⟩⟩:=(uh H6).stays P5 (uh R0)
   have c0:=(hc 0 (by simp)).1
   have f0:=(hc 0 (by simp)).2
   simp only[Nat.mul_one,Nat.add_zero,List.getElem_cons_zero,List.getElem_cons_succ] at c0 f0
   obtain⟨sa0,sc0,rfl⟩:=g0.shape
   have G0:=hide g0
   clear g0
   obtain⟨sa1,sc1,rfl⟩:=g1.shape
   have G1:=hide g1
   clear g1
   obtain⟨sa3,U9,rfl⟩:=g3.shape
   have G3:=hide g3
   clear g3
   clear hc hcs
   obtain⟨r1,hr1⟩:∃r,kq+0+uf mStr x.lhs (x.lhs).length=r:=⟨_,rfl⟩
   have at7:r1<=1000000000:=by omega
   have HR1:=hide hr1
   clear hr1
   go_wp2_with fail
   refine(afo _ _ _ (kq+0) r1 lo hi _ (by omega) (uh HR1) at7 ((uh G0).stays U0 (Mk.refl lo hi wr)) (Nat.le_trans hh0 (Mk.size (Mk.refl lo hi wr)))).mono ?_
   rintro e w1 ⟨rfl,hm⟩
   have seg:Mk lo hi wr w1:=Mk.trans (Mk.refl lo hi wr) hm
   have R1:=hide ((uh R0).trans seg)
   have hh1:hi<=w1.heap.size:=Nat.le_trans hh0 seg.size
   clear hm seg
   clear c0 f0
   clear G0 G1 G3
   clear hlo Ap
   obtain⟨hlo,Ap,cs,hcs,hc,⟨v0,v1,s2,v3,rfl,g0,g1,g3⟩⟩:=(uh H6).stays P5 (uh R1)
   have c1:=(hc 1 (by simp)).1
   have f1:=(hc 1 (by simp)).2
   simp only[Nat.mul_one,Nat.add_zero,List.getElem_cons_zero,List.getElem_cons_succ] at c1 f1
   obtain⟨sa0,sc0,rfl⟩:=g0.shape
   have G0:=hide g0
   clear g0
   obtain⟨sa1,sc1,rfl⟩:=g1.shape
   have G1:=hide g1
   clear g1
   obtain⟨sa3,U9,rfl⟩:=g3.shape
   have G3:=hide g3
   clear g3
   clear hc hcs
   obtain⟨r2,hr2⟩:∃r,r1+0+uf Ju x.code (x.code).length=r:=⟨_,rfl⟩
   have aj7:r2<=1000000000:=by have:=uh HR1;omega
   have HR2:=hide hr2
   clear hr2
   go_wp2_with fail
   refine(aa9 _ _ _ (r1+0) r2 lo hi _ (by omega) (uh HR2) aj7 ((uh G1).stays Jt (Mk.refl lo hi w1)) (Nat.le_trans hh1 (Mk.size (Mk.refl lo hi w1)))).mono ?_
   rintro e w2 ⟨rfl,hm⟩
   have seg:Mk lo hi w1 w2:=Mk.trans (Mk.refl lo hi w1) hm
   have R2:=hide ((uh R1).trans seg)
   have hh2:hi<=w2.heap.size:=Nat.le_trans hh1 seg.size
   clear hm seg
   clear c1 f1
   clear G0 G1 G3
   clear hlo Ap
   obtain⟨hlo,Ap,cs,hcs,hc,⟨v0,v1,s2,v3,rfl,g0,g1,g3⟩⟩:=(uh H6).stays P5 (uh R2)
   have c2:=(hc 2 (by simp)).1
   have f2:=(hc 2 (by simp)).2
   have c3:=(hc 3 (by simp)).1
   have f3:=(hc 3 (by simp)).2
   simp only[Nat.mul_one,Nat.add_zero,List.getElem_cons_zero,List.getElem_cons_succ] at c2 f2 c3 f3
   obtain⟨sa0,sc0,rfl⟩:=g0.shape
   have G0:=hide g0
   clear g0
   obtain⟨sa1,sc1,rfl⟩:=g1.shape
   have G1:=hide g1
   clear g1
   obtain⟨sa3,U9,rfl⟩:=g3.shape
   have G3:=hide g3
   clear g3
   clear hc hcs
   go_wp2_with fail
   refine(Kq _ (r2+0) _ (by omega) (by omega)).mono ?_
   rintro e w3 ⟨rfl,hb⟩
   have seg:Mk lo hi w2 w3:=Mk.then (Mk.refl lo hi w2) hb hh2
   have R3:=hide ((uh R2).trans seg)
   have hh3:hi<=w3.heap.size:=Nat.le_trans hh2 seg.size
   clear hb seg
   clear c2 f2 c3 f3
   clear G0 G1 G3
   clear hlo Ap
   obtain⟨hlo,Ap,cs,hcs,hc,⟨v0,v1,s2,v3,rfl,g0,g1,g3⟩⟩:=(uh H6).stays P5 (uh R3)
   have c2:=(hc 2 (by simp)).1
   have f2:=(hc 2 (by simp)).2
   have c3:=(hc 3 (by simp)).1
   have f3:=(hc 3 (by simp)).2
   simp only[Nat.mul_one,Nat.add_zero,List.getElem_cons_zero,List.getElem_cons_succ] at c2 f2 c3 f3
   obtain⟨sa0,sc0,rfl⟩:=g0.shape
   have G0:=hide g0
   clear g0
   obtain⟨sa1,sc1,rfl⟩:=g1.shape
   have G1:=hide g1
   clear g1
   obtain⟨sa3,U9,rfl⟩:=g3.shape
   have G3:=hide g3
   clear g3
   clear hc hcs
   obtain⟨r4,hr4⟩:∃r,r2+1+uf J6 x.args (x.args).length=r:=⟨_,rfl⟩
   have aue:r4<=1000000000:=by have:=uh HR1;have:=uh HR2;omega
   have HR4:=hide hr4
   clear hr4
   go_wp2_with fail
   refine(aha _ _ _ (r2+1) r4 lo hi _ (by omega) (uh HR4) aue ((uh G3).stays Uj ((Mk.refl lo hi w3).setCell hlo Ap c2 (Kind2.strs _ _))) (Nat.le_trans hh3 (Mk.size ((Mk.refl lo hi w3).setCell hlo Ap c2 (Kind2.strs _ _))))).mono ?_
   rintro e w4 ⟨rfl,hm⟩
   have seg:Mk lo hi w3 w4:=Mk.trans ((Mk.refl lo hi w3).setCell hlo Ap c2 (Kind2.strs _ _)) hm
   have R4:=hide ((uh R3).trans seg)
   have hh4:hi<=w4.heap.size:=Nat.le_trans hh3 seg.size
   clear hm seg
   clear c2 f2 c3 f3
   clear G0 G1 G3
   clear hlo Ap
   go_wp2
   go_roundg (xs.length-(q+1))
   case measure=>have:=uh HG;omega
   case rel=>exact⟨q+1,r4+0,by omega,rfl,by go_num,by go_num,(by refine hide ?_;have:=uh HST;have:=uh HR1;have:=uh HR2;have:=uh HR4;omega),(by refine hide ?_;exact(uh Ef).trans ((uh R4).trans (Mk.refl lo hi w4)))⟩
  ·have e:q=xs.length:=by omega
   have HE:Hid (kq=r):=by
    refine hide ?_
    rw[←uh G9,←uh HR,e]
   clear e
   go_wp2
   go_ret
   exact⟨(by rw[uh HE];rfl),uh Ef⟩
set_option maxHeartbeats 1000000 in
theorem aj8 (xs:List ay) (v:Value) (K:Int) (k r lo hi:Nat) (w:World) (hK:K=(k:Int)) (hr:k+uf Pm xs xs.length=r) (hrb:r<=1000000000) (hv:Es 5 ahi lo hi w v xs) (hhi:hi<=w.heap.size) :
  Calls Tryz.prog 21 #[v,.int .i64 K] w (Wj lo hi w r):=by
 subst hK
 obtain⟨a,cap,rfl,hn,hx⟩:=hv
 unfold Len at hn
 have HX:=hide hx
 have Jk:=hide (fun q hq=>Wi Pm xs q hq)
 have Ru:=hide hhi
 have HR:=hide hr
 have Yi:=hide hrb
 clear hx hhi hr hrb
 go_enter Tryz.func21,Tryz.ntmps21
 go_wp2
 go_loopg [1,5] xs.length (fun g kk i wr=>∃(q kq:Nat),q<=xs.length∧g=xs.length-q∧i=.int .i64 q∧kk=.int .i64 (kq:Int)∧Hid (k+uf Pm xs q=kq)∧Hid (Mk lo hi w wr))
 case atStart=>exact⟨0,k,Nat.zero_le _,by omega,rfl,rfl,by rw[D8];rfl,Mk.refl _ _ _⟩
 case round =>
  obtain⟨q,kq,hq,hg,rfl,rfl,G9,Ef⟩:=hrel
  have HG:=hide hg
  clear hg
  by_cases hlt:q<xs.length
  ·obtain⟨b,o,rfl,hel⟩:=uh HX q hlt
   have hel:=hel.stays Ib (uh Ef)
   have hst:k+uf Pm xs (q+1)=kq+Pm xs[q]:=by
    rw[Dk _ _ _ hlt,←uh G9]
    omega
   have hkb:kq+Pm xs[q]<=1000000000:=by
    have h1:=uh Jk (q+1) (by omega)
    have h2:=uh HR
    have h3:=uh Yi
    omega
   generalize xs[q]=x at hel hst hkb
   have em:Pm x=1+uf Kw x.ins x.ins.length+uf Kw x.outs x.outs.length+uf Kw x.vars x.vars.length+uf Zz x.eqs x.eqs.length:=rfl
   rw[em] at hst hkb
   have HST:=hide hst
   have H6:=hide hel
   have hh0:hi<=wr.heap.size:=Nat.le_trans (uh Ru) (uh Ef).size
   have R0:=hide (Mk.refl lo hi wr)
   clear hst hel em
   obtain⟨hlo,Ap,cs,hcs,hc,⟨s0,v1,v2,v3,v4,rfl,g1,g2,g3,g4⟩⟩:=(uh H6).stays Ib (uh R0)
   obtain⟨sa1,sc1,rfl⟩:=g1.shape
   have G1:=hide g1
   clear g1
   obtain⟨sa2,Uu,rfl⟩:=g2.shape
   have G2:=hide g2
   clear g2
   obtain⟨sa3,U9,rfl⟩:=g3.shape
   have G3:=hide g3
   clear g3
   obtain⟨sa4,sc4,rfl⟩:=g4.shape
   have G4:=hide g4
   clear g4
   clear hc hcs
   go_wp2_with fail
   refine(Kq _ (kq+0) _ (by omega) (by omega)).mono ?_
   rintro e w1 ⟨rfl,hb⟩
   have seg:Mk lo hi wr w1:=Mk.then (Mk.refl lo hi wr) hb hh0
   have R1:=hide ((uh R0).trans seg)
   have hh1:hi<=w1.heap.size:=Nat.le_trans hh0 seg.size
   clear hb seg
   clear G1 G2 G3 G4
   clear hlo Ap
   obtain⟨hlo,Ap,cs,hcs,hc,⟨s0,v1,v2,v3,v4,rfl,g1,g2,g3,g4⟩⟩:=(uh H6).stays Ib (uh R1)
   have c0:=(hc 0 (by simp)).1
   have f0:=(hc 0 (by simp)).2
   have c1:=(hc 1 (by simp)).1
   have f1:=(hc 1 (by simp)).2
   simp only[Nat.mul_one,Nat.add_zero,List.getElem_cons_zero,List.getElem_cons_succ] at c0 f0 c1 f1
   obtain⟨sa1,sc1,rfl⟩:=g1.shape
   have G1:=hide g1
   clear g1
   obtain⟨sa2,Uu,rfl⟩:=g2.shape
   have G2:=hide g2
   clear g2
   obtain⟨sa3,U9,rfl⟩:=g3.shape
   have G3:=hide g3
   clear g3
   obtain⟨sa4,sc4,rfl⟩:=g4.shape
   have G4:=hide g4
   clear g4
   clear hc hcs
   obtain⟨r2,hr2⟩:∃r,kq+1+uf Kw x.ins (x.ins).length=r:=⟨_,rfl⟩
   have aj7:r2<=1000000000:=by omega
   have HR2:=hide hr2
   clear hr2
   go_wp2_with fail
   refine(Xq _ _ _ (kq+1) r2 lo hi _ (by omega) (uh HR2) aj7 ((uh G1).stays Ia ((Mk.refl lo hi w1).setCell hlo Ap c0 (Kind2.strs _ _))) (Nat.le_trans hh1 (Mk.size ((Mk.refl lo hi w1).setCell hlo Ap c0 (Kind2.strs _ _))))).mono ?_
   rintro e w2 ⟨rfl,hm⟩
   have seg:Mk lo hi w1 w2:=Mk.trans ((Mk.refl lo hi w1).setCell hlo Ap c0 (Kind2.strs _ _)) hm
   have R2:=hide ((uh R1).trans seg)
   have hh2:hi<=w2.heap.size:=Nat.le_trans hh1 seg.size
   clear hm seg
   clear c0 f0 c1 f1
   clear G1 G2 G3 G4
   clear hlo Ap
   obtain⟨hlo,Ap,cs,hcs,hc,⟨s0,v1,v2,v3,v4,rfl,g1,g2,g3,g4⟩⟩:=(uh H6).stays Ib (uh R2)
   have c2:=(hc 2 (by simp)).1
   have f2:=(hc 2 (by simp)).2
   simp only[Nat.mul_one,Nat.add_zero,List.getElem_cons_zero,List.getElem_cons_succ] at c2 f2
   obtain⟨sa1,sc1,rfl⟩:=g1.shape
   have G1:=hide g1
   clear g1
   obtain⟨sa2,Uu,rfl⟩:=g2.shape
   have G2:=hide g2
   clear g2
   obtain⟨sa3,U9,rfl⟩:=g3.shape
   have G3:=hide g3
   clear g3
   obtain⟨sa4,sc4,rfl⟩:=g4.shape
   have G4:=hide g4
   clear g4
   clear hc hcs
   obtain⟨r3,hr3⟩:∃r,r2+0+uf Kw x.outs (x.outs).length=r:=⟨_,rfl⟩
   have a3f:r3<=1000000000:=by have:=uh HR2;omega
   have HR3:=hide hr3
   clear hr3
   go_wp2_with fail
   refine(Xq _ _ _ (r2+0) r3 lo hi _ (by omega) (uh HR3) a3f ((uh G2).stays Ia (Mk.refl lo hi w2)) (Nat.le_trans hh2 (Mk.size (Mk.refl lo hi w2)))).mono ?_
   rintro e w3 ⟨rfl,hm⟩
   have seg:Mk lo hi w2 w3:=Mk.trans (Mk.refl lo hi w2) hm
   have R3:=hide ((uh R2).trans seg)
   have hh3:hi<=w3.heap.size:=Nat.le_trans hh2 seg.size
   clear hm seg
   clear c2 f2
   clear G1 G2 G3 G4
   clear hlo Ap
   obtain⟨hlo,Ap,cs,hcs,hc,⟨s0,v1,v2,v3,v4,rfl,g1,g2,g3,g4⟩⟩:=(uh H6).stays Ib (uh R3)
   have c3:=(hc 3 (by simp)).1
   have f3:=(hc 3 (by simp)).2
   simp only[Nat.mul_one,Nat.add_zero,List.getElem_cons_zero,List.getElem_cons_succ] at c3 f3
   obtain⟨sa1,sc1,rfl⟩:=g1.shape
   have G1:=hide g1
   clear g1
   obtain⟨sa2,Uu,rfl⟩:=g2.shape
   have G2:=hide g2
   clear g2
   obtain⟨sa3,U9,rfl⟩:=g3.shape
   have G3:=hide g3
   clear g3
   obtain⟨sa4,sc4,rfl⟩:=g4.shape
   have G4:=hide g4
   clear g4
   clear hc hcs
   obtain⟨r4,hr4⟩:∃r,r3+0+uf Kw x.vars (x.vars).length=r:=⟨_,rfl⟩
   have aue:r4<=1000000000:=by have:=uh HR2;have:=uh HR3;omega
   have HR4:=hide hr4
   clear hr4
   go_wp2_with fail
   refine(Xq _ _ _ (r3+0) r4 lo hi _ (by omega) (uh HR4) aue ((uh G3).stays Ia (Mk.refl lo hi w3)) (Nat.le_trans hh3 (Mk.size (Mk.refl lo hi w3)))).mono ?_
   rintro e w4 ⟨rfl,hm⟩
   have seg:Mk lo hi w3 w4:=Mk.trans (Mk.refl lo hi w3) hm
   have R4:=hide ((uh R3).trans seg)
   have hh4:hi<=w4.heap.size:=Nat.le_trans hh3 seg.size
   clear hm seg
   clear c3 f3
   clear G1 G2 G3 G4
   clear hlo Ap
   obtain⟨hlo,Ap,cs,hcs,hc,⟨s0,v1,v2,v3,v4,rfl,g1,g2,g3,g4⟩⟩:=(uh H6).stays Ib (uh R4)
   have c4:=(hc 4 (by simp)).1
   have f4:=(hc 4 (by simp)).2
   simp only[Nat.mul_one,Nat.add_zero,List.getElem_cons_zero,List.getElem_cons_succ] at c4 f4
   obtain⟨sa1,sc1,rfl⟩:=g1.shape
   have G1:=hide g1
   clear g1
   obtain⟨sa2,Uu,rfl⟩:=g2.shape
   have G2:=hide g2
   clear g2
   obtain⟨sa3,U9,rfl⟩:=g3.shape
   have G3:=hide g3
   clear g3
   obtain⟨sa4,sc4,rfl⟩:=g4.shape
   have G4:=hide g4
   clear g4
   clear hc hcs
   obtain⟨r5,hr5⟩:∃r,r4+0+uf Zz x.eqs (x.eqs).length=r:=⟨_,rfl⟩
   have adq:r5<=1000000000:=by have:=uh HR2;have:=uh HR3;have:=uh HR4;omega
   have Us:=hide hr5
   clear hr5
   go_wp2_with fail
   refine(adp _ _ _ (r4+0) r5 lo hi _ (by omega) (uh Us) adq ((uh G4).stays P5 (Mk.refl lo hi w4)) (Nat.le_trans hh4 (Mk.size (Mk.refl lo hi w4)))).mono ?_
   rintro e w5 ⟨rfl,hm⟩
   have seg:Mk lo hi w4 w5:=Mk.trans (Mk.refl lo hi w4) hm
   have R5:=hide ((uh R4).trans seg)
   have hh5:hi<=w5.heap.size:=Nat.le_trans hh4 seg.size
   clear hm seg
   clear c4 f4
   clear G1 G2 G3 G4
   clear hlo Ap
   go_wp2
   go_roundg (xs.length-(q+1))
   case measure=>have:=uh HG;omega
   case rel=>exact⟨q+1,r5+0,by omega,rfl,by go_num,by go_num,(by refine hide ?_;have:=uh HST;have:=uh HR2;have:=uh HR3;have:=uh HR4;have:=uh Us;omega),(by refine hide ?_;exact(uh Ef).trans ((uh R5).trans (Mk.refl lo hi w5)))⟩
  ·have e:q=xs.length:=by omega
   have HE:Hid (kq=r):=by
    refine hide ?_
    rw[←uh G9,←uh HR,e]
   clear e
   go_wp2
   go_ret
   exact⟨(by rw[uh HE];rfl),uh Ef⟩
set_option maxHeartbeats 1000000 in
theorem afu (ns:List ay) (v:Value) (lo hi:Nat) (w:World) (hv:Es 5 ahi lo hi w v ns) (hhi:hi<=w.heap.size) (hb:uf Pm ns ns.length<=100000000) :
  Calls Tryz.prog 10 #[.agg #[v],.int .i64 1] w (fun e w'=>∃r:Nat,e=.returned (.int .i64 (r:Int))∧Mk lo hi w w'):=by
 obtain⟨a,cap,rfl⟩:=hv.shape
 have hA:Below w.heap.size w (w.alloc (.cells #[.slice a ns.length cap] 30)):=(Below.refl _ _).alloc (Nat.le_refl _) _
 have hM:Mk lo hi w (w.alloc (.cells #[.slice a ns.length cap] 30)):=Mk.of_below hA hhi
 have HC:=hide (aj8 ns _ _ 1 _ lo hi _ rfl rfl (by omega) (hv.stays Ib hM) (Nat.le_trans hhi hM.size))
 have HM:=hide hM
 clear hv hhi hb hA hM
 generalize 1+uf Pm ns ns.length=r at *
 go_enter Tryz.func10,Tryz.ntmps10
 go_wp2_with fail
 refine(uh HC).mono ?_
 rintro e w1 ⟨rfl,hm⟩
 have H1:=hide ((uh HM).trans hm)
 clear hm
 go_wp2
 go_ret
 exact⟨r,rfl,uh H1⟩
theorem Qn.below {v:Value} {w w':World} {B:Nat} (h:Qn v w w') (hb:∀b,v.ownBlock=some b->B<=b) (hB:B<=w.heap.size):Below B w w':=by
 obtain⟨h1,h2,h3,h4,h5⟩:=h
 exact⟨h1,h2,h3,h4,fun k hk=>h5 k (by omega) (fun e=>by have:=hb k e;omega)⟩
theorem ado.same {w w':World} {v:Value} {n:Nat} (h:ado w v n) (hs:∀g,v.ownBlock=some g->g<w.heap.size->w'.heap[g]?=w.heap[g]?):ado w' v n:=by
 obtain⟨a,cap,rfl,hn,hr⟩:=h
 refine⟨a,cap,rfl,hn,fun h0=>?_⟩
 obtain⟨g,N,hN,rfl,hrow⟩:=hr h0
 have hlt:=hrow.lt
 obtain⟨c,t,h1,h2⟩:=hrow
 exact⟨g,N,hN,rfl,c,t,(hs g rfl hlt).trans h1,h2⟩
theorem Mk.kept {lo hi B:Nat} {w w':World} (h:Mk lo hi w w') (hB:hi<=B):Kept B w.heap.size w w':=⟨h.size,fun k h1 h2=>h.out k h2 (Or.inr (by omega))⟩
set_option maxHeartbeats 400000 in
theorem abb (xs:List Int) (v u:Value) (w:World) (hv:bf 1 8 Oo 0 w v xs) (hu:bf 1 8 Oo 0 w u xs) :
  Calls Tryz.prog 8 #[v,u] w (F6 w):=by
 obtain⟨a,cap,rfl,_,hn,hx⟩:=hv
 obtain⟨a2,cap2,rfl,_,_,hy⟩:=hu
 unfold Len at hn
 have HX:=hide hx
 have HY:=hide hy
 clear hx hy
 go_enter Tryz.func8,Tryz.ntmps8
 go_wp2
 go_loopg [5] xs.length (fun g i wr=>∃(k:Nat),k<=xs.length∧g=xs.length-k∧i=.int .i64 k∧Below w.heap.size w wr)
 case atStart=>exact⟨0,Nat.zero_le _,by omega,rfl,Below.refl _ _⟩
 case round =>
  obtain⟨k,hk,hg,rfl,hbl⟩:=hrel
  have HG:=hide hg
  clear hg
  by_cases hlt:k<xs.length
  ·obtain⟨b,o,cs,rfl,_,hb,hcs,hc,hR⟩:=uh HX k hlt
   have hc:∀j (hj:j<cs.length),wr.cell? ⟨b,o+k*1+j,none⟩=some cs[j]:=fun j hj=>by rw[hbl.cell (p:=⟨b,_,none⟩) hb];exact hc j hj
   obtain⟨b2,o2,cs2,rfl,_,hb2,hcs2,hc2,hR2⟩:=uh HY k hlt
   have hc2:∀j (hj:j<cs2.length),wr.cell? ⟨b2,o2+k*1+j,none⟩=some cs2[j]:=fun j hj=>by rw[hbl.cell (p:=⟨b2,_,none⟩) hb2];exact hc2 j hj
   have hR:=Qk.stays _ _ _ _ _ hbl.drew hR
   have hR2:=Qk.stays _ _ _ _ _ hbl.drew hR2
   obtain⟨rfl,hsn⟩:=hR
   obtain⟨rfl,auf⟩:=hR2
   have c0:=hc 0 (by simp)
   have d0:=hc2 0 (by simp)
   simp only[Nat.mul_one,Nat.add_zero,List.getElem_cons_zero,List.getElem_cons_succ] at c0 d0
   clear hc hcs hc2 hcs2
   have hlt':(k:Int)<(xs.length:Int):=by omega
   go_wp2_with fail
   generalize xs[k]=s at *
   go_quiet (fail)
   go_wp2
   go_roundg (xs.length-(k+1))
   case measure=>have:=uh HG;omega
   case rel=>exact⟨k+1,by omega,rfl,by go_num,below_drewN hbl _⟩
  ·go_wp2
   go_ret
   exact⟨rfl,hbl⟩
theorem azt (f:ay->Nat) (ns:List ay) (n:ay) (h:n∈ns):f n<=(ns.map f).sum:=by
 induction ns with
 | nil=>cases h
 | cons x xs ih =>
  simp only[List.map_cons,List.sum_cons]
  rcases List.mem_cons.1 h with rfl|h
  ·omega
  ·have:=ih h
   omega
theorem aos (ns:List ay) (n:ay) (h:n∈ns):n.ins.length+n.outs.length+n.vars.length<=Bc Pg ns:=by
 have h1:=azt Pg ns n h
 have h2:n.ins.length+n.outs.length+n.vars.length<=Pg n:=by
  simp only[Pg,Bc]
  omega
 unfold Bc
 omega
def abd (xs:List Int) (w:World) (e:Ending) (w':World):Prop:=∃v,e=.returned v∧bf 1 8 Oo w.heap.size w' v xs∧ado w' v xs.length∧(∀b,v.ownBlock=some b->w.heap.size<=b)∧Below w.heap.size w w'
theorem aot (ns:List ay) (k:Int):(Ic ns k).length<=1000000:=by
 unfold Ic
 split
 ·rename_i h
  cases hq:ns[k.toNat]? with
  | none=>simp
  | some x =>
   simp only
   rw[Jw]
   obtain⟨hsh,_⟩:=Zd h.1
   have hm:=List.mem_of_getElem? hq
   unfold Ar at hsh
   simp only[Bool.and_eq_true] at hsh
   have:=((yg x).1 (List.all_eq_true.1 hsh.2 _ hm)).1.2.2.2
   omega
 ·simp
set_option maxHeartbeats 4000000 in
theorem alm (ns:List ay) (nd:Int) (v:Value) (w:World) (h1:bf 5 112 o7 0 w v ns) (azu:∀v w,bf 5 112 o7 0 w v ns->Calls Tryz.prog 7 #[.agg #[v],.int .i64 nd] w (abd (Ic ns nd) w)) :
  Calls Tryz.prog 3 #[.agg #[v],.int .i64 nd] w (Ans (.bool true) w):=by
 obtain⟨b0,c0,rfl⟩:=h1.shape
 have H1:=hide h1
 clear h1
 have B0:=hide ((Below.refl w.heap.size w).alloc (Nat.le_refl _) (.cells #[.slice b0 ns.length c0] 24))
 go_enter Tryz.func3,Tryz.ntmps3
 go_wp2_with fail
 refine(ajt ns _ _ _ ?_ ?_ ?_).mono ?_
 ·exact(uh H1).stays jk (uh B0)
 ·omega
 ·omega
 rintro e w1 ⟨r1,rfl,hr|⟨p1,q1⟩,hb1⟩
 ·subst hr
  go_wp2
  go_ret
  exact⟨rfl,(uh B0).trans (hb1.mono (uh B0).size)⟩
 have hsm:∀n,n∈ns->n.ins.length+n.outs.length+n.vars.length<=1048576:=fun n hn=>by
  have:=aos ns n hn
  omega
 have HMC:Hid (uf Pm ns ns.length<=100000000):=by
  have:=aud ns
  refine hide ?_
  omega
 have Qs:Hid (∃st:List Int,st.length<=1000000∧(∀v w,bf 5 112 o7 0 w v ns->Calls Tryz.prog 5 #[.agg #[v],.int .i64 nd] w (Qo st w))∧∀v w,bf 5 112 o7 0 w v ns->Calls Tryz.prog 7 #[.agg #[v],.int .i64 nd] w (abd st w)) :=
  hide ⟨Ic ns nd,aot ns nd,fun v w h=>aj9 ns v nd w h hsm,azu⟩
 obtain⟨st,hst,hsp,him⟩:=uh Qs
 have HST:=hide hst
 have a3g:=hide hsp
 have azv:=hide him
 clear hst hsp him Qs hsm azu
 have Gq:=hide (Vy hb1)
 have B1:Hid (Below w.heap.size w w1):=(uh B0).trans (hb1.mono (uh B0).size)
 have k1:w1.cell? ⟨w.heap.size,0,none⟩=some (.slice b0 ns.length c0):=by rw[ou (B:=0) (uh Gq) 0];rfl
 clear hb1
 go_wp2_with fail
 refine(Wn ns _ _ ((uh H1).stays jk (uh B1))).mono ?_
 rintro e w2 ⟨cs2,rfl,⟨vx,rfl,hS2⟩,hb2⟩
 have HS2:=hide (hS2.lower Fj (Nat.zero_le _))
 have B2:Hid (Below w.heap.size w w2):=(uh B1).trans (hb2.mono (uh B1).size)
 have Jo:Hid (Below (w.heap.size+1) _ w2):=(uh Gq).trans (hb2.mono (by have:=(uh Gq).size;simp at this;omega))
 clear hS2 hb2 k1
 go_wp2_with fail
 refine(uh a3g _ _ (uh HS2)).mono ?_
 rintro e w3 ⟨rv,rfl,hRV,hb3⟩
 obtain⟨ra,rc,rfl⟩:=hRV.shape
 have HRV:=hide hRV
 have B3:Hid (Below w.heap.size w w3):=(uh B2).trans (hb3.mono (uh B2).size)
 have Y8:Hid (Below (w.heap.size+1) _ w3):=(uh Jo).trans (hb3.mono (by have:=(uh Jo).size;simp at this;omega))
 have k3:w3.cell? ⟨w.heap.size,0,none⟩=some (.slice b0 ns.length c0):=by rw[ou (B:=0) (uh Y8) 0];rfl
 have hz3:w.heap.size<w3.heap.size:=by have:=(uh Y8).size;simp at this;omega
 have HK3:=hide k3
 clear hb3 hRV
 go_wp2_with fail
 refine(Z4 ns _ _ ((uh H1).stays jk (uh B3))).mono ?_
 rintro e w4 ⟨cs4,rfl,⟨vy,rfl,hS4⟩,hb4⟩
 obtain⟨by4,cy4,rfl⟩:=hS4.shape
 have HMA:=hide (Es.of hb4.aqu (aub hb4.aqu) hS4)
 have Rw:=hide (hS4.lower Fj (Nat.zero_le _))
 have H34:=hide hb4.below
 have BY:=hide ((Below.refl w4.heap.size w4).alloc (Nat.le_refl _) (.cells #[.slice by4 ns.length cy4] 30))
 have hz4:w3.heap.size<=w4.heap.size:=hb4.below.size
 clear hS4 hb4 k3
 go_wp2_with fail
 refine(uh azv _ _ ((uh Rw).stays jk (uh BY))).mono ?_
 rintro e w5 ⟨gv,rfl,hG5,hI5,hO5,hb5⟩
 obtain⟨ga,gc,rfl⟩:=hG5.shape
 have azw:=hide (Vy hb5)
 have H45:Hid (Below w4.heap.size w4 w5):=(uh BY).trans (hb5.mono (uh BY).size)
 have H35:Hid (Below w3.heap.size w3 w5):=(uh H34).trans ((uh H45).mono hz4)
 have HG5:Hid (bf 1 8 Oo (w4.heap.size+1) w5 (.slice ga st.length gc) st):=hG5.lower O7 (by simp)
 have HI5:=hide hI5
 have P7:Hid (∀b,(Value.slice ga st.length gc).ownBlock=some b->w4.heap.size+1<=b):=fun b hb=>by have:=hO5 b hb;simpa using this
 have HS5:=hide ((uh Rw).stays jk (uh H45))
 have j5:w5.cell? ⟨w4.heap.size,0,none⟩=some (.slice by4 ns.length cy4):=by rw[ou (B:=0) (uh azw) 0];rfl
 have hz5:w4.heap.size<w5.heap.size:=by have:=(uh azw).size;simp at this;omega
 clear hb5 hG5 hI5 hO5
 have HE5:=hide (abb st _ _ w5 ((uh HG5).lower O7 (Nat.zero_le _)) ((uh HRV).stays Qk (uh H35)))
 go_wp2_with fail
 refine(uh HE5).mono ?_
 rintro e w6 ⟨rfl,hb6⟩
 have H56:=hide hb6
 have H36:Hid (Below w3.heap.size w3 w6):=(uh H35).trans (hb6.mono (uh H35).size)
 have H46:Hid (Below w4.heap.size w4 w6):=(uh H45).trans (hb6.mono (uh H45).size)
 have j6:w6.cell? ⟨w4.heap.size,0,none⟩=some (.slice by4 ns.length cy4):=(hb6.cell (p:=⟨w4.heap.size,0,none⟩) hz5).trans j5
 have k6:w6.cell? ⟨w.heap.size,0,none⟩=some (.slice b0 ns.length c0):=((uh H36).cell (p:=⟨w.heap.size,0,none⟩) hz3).trans (uh HK3)
 have hz6:w4.heap.size<w6.heap.size:=Nat.lt_of_lt_of_le hz5 hb6.size
 have B6:Hid (Below w.heap.size w w6):=(uh B3).trans ((uh H36).mono (by omega))
 have HS6:=hide ((uh HS5).stays jk hb6)
 clear hb6 j5
 go_wp2_with fail
 have HTP:=hide (Wn ns _ w6.drew ((uh H1).stays jk (uh B6).drew))
 go_region_with (first|(go_at_call 6;refine(uh HTP).mono ?_;rintro e w7 ⟨cs7,rfl,⟨vz,rfl,hS7⟩,hb7⟩;have j7:w7.cell? ⟨w4.heap.size,0,none⟩=some (.slice by4 ns.length cy4):=(hb7.cell (p:=⟨w4.heap.size,0,none⟩) hz6).trans j6;have G8:=hide (Below.trans (Below.drew (Below.refl _ w6)) hb7);have HE7:=hide (akb ns _ _ w7 ((uh HS6).stays jk (Below.trans (Below.drew (Below.refl _ w6)) hb7)) (hS7.lower Fj (Nat.zero_le _)));have hz7:w4.heap.size<w7.heap.size:=Nat.lt_of_lt_of_le hz6 hb7.size;clear hS7 hb7)|(go_at_call 9;refine(uh HE7).mono ?_;rintro e w8 ⟨rfl,hb8⟩))
 all_goals
  have H68:=hide (Below.trans (uh G8) (hb8.mono (uh G8).size))
  have j8:w8.cell? ⟨w4.heap.size,0,none⟩=some (.slice by4 ns.length cy4):=(hb8.cell (p:=⟨w4.heap.size,0,none⟩) hz7).trans j7
  have H48:Hid (Below w4.heap.size w4 w8):=(uh H46).trans ((uh H68).mono (uh H46).size)
  have H38:Hid (Below w3.heap.size w3 w8):=(uh H36).trans ((uh H68).mono (uh H36).size)
  have H58:Hid (Below w5.heap.size w5 w8):=(uh H56).trans ((uh H68).mono (uh H56).size)
  have HM8:=hide (afu ns _ w3.heap.size w4.heap.size w8 ((uh HMA).stays Ib (Mk.of_below (uh H48) (Nat.le_refl _))) (uh H48).size (uh HMC))
  clear hb8 j7 HE7 HTP G8 j6 k6
  go_wp2_with fail
  refine(uh HM8).mono ?_
  rintro e w9 ⟨mk,rfl,Xz⟩
  have H39:Hid (Below w3.heap.size w3 w9):=(uh H38).trans (Xz.below (uh H38).size)
  have azx:Hid (Kept (w4.heap.size+1) w5.heap.size w5 w9):=(Kept.of_below (uh H58)).trans (Xz.kept (Nat.le_succ _)) (uh H58).size
  have HG9:=hide ((uh HG5).kept Qk (uh azx))
  have HI9:=hide ((uh HI5).same (w':=w9) (fun g hg hlt=>(uh azx).2 g (uh P7 g hg) hlt))
  have V5:=hide (abb st _ _ w9 ((uh HG9).lower O7 (Nat.zero_le _)) ((uh HRV).stays Qk (uh H39)))
  have m0:decide ((mk:Int)<0)=false:=decide_eq_false (by omega)
  clear Xz j8
  go_wp2_with fail
  refine(uh V5).mono ?_
  rintro e wA ⟨rfl,hbA⟩
  have H3A:Hid (Below w3.heap.size w3 wA):=(uh H39).trans (hbA.mono (uh H39).size)
  have HIA:=hide ((uh HI9).same (w':=wA) (fun g hg hlt=>hbA.block g hlt))
  obtain⟨r,hr⟩:∃r,1+st.length=r:=⟨_,rfl⟩
  have HMX:=hide (aj2 _ st.length r wA (uh HIA) hr)
  have HR:=hide hr
  clear hbA hr
  go_wp2_with fail
  refine(uh HMX).mono ?_
  rintro e wB ⟨rfl,hMK,hOT⟩
  have H3B:Hid (Below w3.heap.size w3 wB):=(uh H3A).trans (hOT.below (fun b hb=>by have:=uh P7 b hb;omega) (uh H3A).size)
  have HHX:=hide (aj3 _ st.length r wB hMK (uh HR))
  clear hMK hOT
  go_wp2_with fail
  refine(uh HHX).mono ?_
  rintro e wC ⟨rfl,hbC⟩
  have H3C:Hid (Below w3.heap.size w3 wC):=(uh H3B).trans (hbC.mono (uh H3B).size)
  have BC:Hid (Below w.heap.size w wC):=(uh B3).trans ((uh H3C).mono (by omega))
  have kC:wC.cell? ⟨w.heap.size,0,none⟩=some (.slice b0 ns.length c0):=((uh H3C).cell (p:=⟨w.heap.size,0,none⟩) hz3).trans (uh HK3)
  have a3h:=hide (Wn ns _ wC ((uh H1).stays jk (uh BC)))
  have m1:decide ((r:Int)<0)=false:=decide_eq_false (by omega)
  have m2:((r:Int) != (r:Int))=false:=by simp
  clear hbC
  go_wp2_with fail
  refine(uh a3h).mono ?_
  rintro e wD ⟨csD,rfl,⟨vh,rfl,hSD⟩,hbD⟩
  have H3D:Hid (Below w3.heap.size w3 wD):=(uh H3C).trans (hbD.mono (uh H3C).size)
  have a3i:=hide (uh azv _ wD (hSD.lower Fj (Nat.zero_le _)))
  clear hSD hbD kC
  go_wp2_with fail
  refine(uh a3i).mono ?_
  rintro e wE ⟨hv,rfl,hGE,_,_,hbE⟩
  obtain⟨ha,hc,rfl⟩:=hGE.shape
  have H3E:Hid (Below w3.heap.size w3 wE):=(uh H3D).trans (hbE.mono (uh H3D).size)
  have HEE:=hide (abb st _ _ wE (hGE.lower O7 (Nat.zero_le _)) ((uh HRV).stays Qk (uh H3E)))
  clear hGE hbE
  go_wp2_with fail
  refine(uh HEE).mono ?_
  rintro e wF ⟨rfl,hbF⟩
  have H3F:Hid (Below w3.heap.size w3 wF):=(uh H3E).trans (hbF.mono (uh H3E).size)
  have BF:Hid (Below w.heap.size w wF):=(uh B3).trans ((uh H3F).mono (by omega))
  clear hbF
  go_wp2
  go_ret
  exact⟨rfl,uh BF⟩
end Go.Proofs.YtflcnhfakcgkeaaGreat
