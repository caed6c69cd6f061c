import Derived.Test.YtfeejeflmcapoaaGreatDoorPS1
import Derived.Test.YtfeejeflmcapoaaGreatDoorEvI
import Derived.Test.YtfeejeflmcapoaaGreatDoorImplFresh
import Derived.Test.YtfeejeflmcapoaaGreatDoorRG1
set_option linter.unusedSimpArgs false
set_option linter.unusedVariables false
set_option maxHeartbeats 4000000
namespace Go.Proofs.YtfeejeflmcapoaaGreatDoor
open Go.RowKit
theorem a2v (p:dh) (h:0<p.size):p.extract 1 p.size=Ko p:=by
 rw[ext_eq p 1 p.size h (gq _),Qg (by rw[Dh,Ez];omega)];rfl
theorem Ib (p q:dh) (l:List UInt8) (h:bL q=l):(p.toList == l)=decide (p=q):=by
 rw[←zk,←h,ByteArray.toList_eq q];rfl
theorem a2w (p:dh):(p.toList == [116,114,117,101])=decide (p=N9):=Ib p N9 _ rfl
theorem ayc (p:dh):(p.toList == [102,97,108,115,101])=decide (p=J5):=Ib p J5 _ rfl
theorem ayd {p:dh} {j:Nat} (hj:j<17) (hn:∀i,i<j->Dq i≠p) (h:Dq j=p):Jg p=⟨(j:Int)+4,0,E0⟩:=by
 unfold Jg
 have e:(List.range 17).find? (fun i=>decide (Dq i=p))=some j:=by
  rw[List.find?_range_eq_some];exact⟨jf h,uw.2 hj,fun i hi=>by simpa using hn i hi⟩
 rw[e]
theorem Yx {p:dh} (hn:∀i,i<17->Dq i≠p):Jg p=if p=N9 then ⟨2,1,E0⟩ else if p=J5 then ⟨2,0,E0⟩ else if (bL p).head?=some 46 then ⟨3,0,Ko p⟩ else if (bL p).head?=some 64 then ⟨25,Bo (Ko p),E0⟩ else ⟨1,Bo p,E0⟩:=by
 unfold Jg;rw[Us p hn]
def ItP (t:ku) (w:bf) (e:Ending) (w':bf):Prop:=e=.returned (.agg #[.int .i64 t.op,.int .i64 t.val,.string t.name])∧Below w.heap.size w w'
theorem axk (p:dh) (w:bf) (hs:p.size<=1048576):Calls Tryz.prog 51 #[.string p] w (ItP (Jg p) w):=by
 obtain⟨PO,Gv⟩:∃PO:Ending->bf->Prop,PO=ItP (Jg p) w:=⟨_,rfl⟩;rw[←Gv];have Dn:=hide Gv;clear Gv;have HST:Hid (jc (w.alloc (.cells #[.int .i64 0,.int .i64 0,.string ⟨#[]⟩] 83)) w.heap.size 83 #[.int .i64 0,.int .i64 0,.string ⟨#[]⟩]∧Below w.heap.size w (w.alloc (.cells #[.int .i64 0,.int .i64 0,.string ⟨#[]⟩] 83))):=hide ⟨og _ _ _,(gy _ _).alloc (gq _) _⟩;go_enter Tryz.func51,Tryz.ntmps51;go_wp2
 go_loopg [3] 17 (fun gh ov wr=>∃(j:Nat),j<=17∧gh=17-j∧ov=.int .i64 ((j:Int)+4)∧Hid (∀i,i<j->Dq i≠p)∧Hid (jc wr w.heap.size 83 #[.int .i64 0,.int .i64 0,.string ⟨#[]⟩])∧Hid (Below w.heap.size w wr))
 case atStart=>exact⟨0,by omega,by omega,rfl,hide (fun i hi=>absurd hi (yt _)),hide (uh HST).1,hide (uh HST).2⟩
 case round =>
  obtain⟨j,hj,hg,rfl,HN,HX,HB⟩:=hrel;have HG:=hide hg;clear hg HST;have c0:=(uh HX).cell (i:=0) (v:=.int .i64 0) rfl;have c1:=(uh HX).cell (i:=1) (v:=.int .i64 0) rfl;have c2:=(uh HX).cell (i:=2) (v:=.string ⟨#[]⟩) rfl;have z0:=(uh HX).free 0;have z1:=(uh HX).free 1;have z2:=(uh HX).free 2
  by_cases hlt:j<17
  ·have hjI:(j:Int)+4<=20:=by omega
   have HPT:=hide (amd ⟨(j:Int)+4,0,E0⟩ wr ⟨fun h9=>by simp only at h9;omega,fun h9=>by simp only at h9;omega⟩ (show E0.size<=1048576 by decide));go_wp2_with fail;refine(uh HPT).mono ?_;rintro e w1 ⟨rfl,hb1⟩;have hx1:=(uh HX).below hb1 (uh HX).lt;have hB1:Below w.heap.size w w1:=(uh HB).trans (hb1.mono (uh HB).size);have d0:=hx1.cell (i:=0) (v:=.int .i64 0) rfl;have d1:=hx1.cell (i:=1) (v:=.int .i64 0) rfl;have d2:=hx1.cell (i:=2) (v:=.string ⟨#[]⟩) rfl;have y0:=hx1.free 0;have y1:=hx1.free 1;have y2:=hx1.free 2
   by_cases he:Dq j=p
   ·have q1:((Dq j).toList == p.toList)=true:=by rw[zk];exact jf he
    have HE:=hide (ayd hlt (uh HN) he);have hb3:=((hB1.setCell (p:=⟨w.heap.size,0,none⟩) (gq _) (.int .i64 ((j:Int)+4))).setCell (p:=⟨w.heap.size,1,none⟩) (gq _) (.int .i64 0)).setCell (p:=⟨w.heap.size,2,none⟩) (gq _) (.string ⟨#[]⟩);have hbx:=((hx1.set 0 (.int .i64 ((j:Int)+4))).set 1 (.int .i64 0)).set 2 (.string ⟨#[]⟩)
    have qc:Hid (PO (.returned (.agg #[.int .i64 ((j:Int)+4),.int .i64 0,.string ⟨#[]⟩])) (((w1.setCell ⟨w.heap.size,0,none⟩ (.int .i64 ((j:Int)+4))).setCell ⟨w.heap.size,1,none⟩ (.int .i64 0)).setCell ⟨w.heap.size,2,none⟩ (.string ⟨#[]⟩))):=hide (by
     rw[uh Dn];refine⟨?_,hb3⟩;rw[uh HE];rfl)
    have f0:=hbx.cell (i:=0) (v:=.int .i64 ((j:Int)+4)) rfl;have f1:=hbx.cell (i:=1) (v:=.int .i64 0) rfl;have f2:=hbx.cell (i:=2) (v:=.string ⟨#[]⟩) rfl;have Om:=hide (And.intro f0 (And.intro f1 f2));have hsg:partT ⟨(j:Int)+4,0,E0⟩=Dq j:=rfl;rw[hsg];clear hb3 hbx f0 f1 f2 he hsg hb1 hx1 hB1 c0 c1 c2 z0 z1 z2;go_wp2;obtain⟨f0,f1,f2⟩:=uh Om;exact bodyPost_ret (v:=.agg #[.int .i64 ((j:Int)+4),.int .i64 0,.string ⟨#[]⟩]) (by simp[results,Tryz.results51,go_sem,f0,f1,f2]) rfl (uh qc)
   ·have q1:((Dq j).toList == p.toList)=false:=by rw[zk];exact iw he
    have hsg:partT ⟨(j:Int)+4,0,E0⟩=Dq j:=rfl;rw[hsg]
    have HNN:Hid (∀i,i<j+1->Dq i≠p):=hide (fun i hi=>by
     by_cases c:i<j
     ·exact uh HN i c
     ·have:i=j:=by omega
      rw[this];exact he)
    have Ak:=hide hx1;have HB1:=hide hB1;clear he hsg hb1 hx1 hB1 c0 c1 c2 z0 z1 z2 d0 d1 d2 y0 y1 y2;go_wp2
    go_roundg (17-(j+1))
    case measure=>have:=uh HG;omega
    case rel=>exact⟨j+1,by omega,rfl,by go_num,HNN,Ak,HB1⟩
  ·have e17:j=17:=by omega
   have alg:Hid (∀i,i<17->Dq i≠p):=hide (by have h9:=uh HN;rw[e17] at h9;exact h9);have hjI:¬(j:Int)+4<=20:=by omega
   have t1:=a2w p;have t2:=ayc p;clear e17
   by_cases h1:p=N9
   ·rw[jf h1] at t1
    have HE:Hid (Jg p=⟨2,1,⟨#[]⟩⟩):=hide (by rw[Yx (uh alg)];rw[gu h1];rfl);have hbx:=(((uh HX).set 0 (.int .i64 2)).set 1 (.int .i64 1)).set 2 (.string ⟨#[]⟩)
    have qc:Hid (PO (.returned (.agg #[(.int .i64 2),(.int .i64 1),(.string ⟨#[]⟩)])) (((wr.setCell ⟨w.heap.size,0,none⟩ (.int .i64 2)).setCell ⟨w.heap.size,1,none⟩ (.int .i64 1)).setCell ⟨w.heap.size,2,none⟩ (.string ⟨#[]⟩))):=hide (by
     rw[uh Dn];refine⟨by rw[uh HE],?_⟩;exact(((uh HB).setCell (p:=⟨w.heap.size,0,none⟩) (gq _) (.int .i64 2)).setCell (p:=⟨w.heap.size,1,none⟩) (gq _) (.int .i64 1)).setCell (p:=⟨w.heap.size,2,none⟩) (gq _) (.string ⟨#[]⟩))
    have Om:=hide (And.intro (hbx.cell (i:=0) (v:=(.int .i64 2)) rfl) (And.intro (hbx.cell (i:=1) (v:=(.int .i64 1)) rfl) (hbx.cell (i:=2) (v:=(.string ⟨#[]⟩)) rfl)));clear hbx;clear h1 t2;go_wp2;obtain⟨f0,f1,f2⟩:=uh Om;exact bodyPost_ret (v:=.agg #[(.int .i64 2),(.int .i64 1),(.string ⟨#[]⟩)]) (by simp[results,Tryz.results51,go_sem,f0,f1,f2]) rfl (uh qc)
   rw[iw h1] at t1
   by_cases h2:p=J5
   ·rw[jf h2] at t2
    have HE:Hid (Jg p=⟨2,0,⟨#[]⟩⟩):=hide (by rw[Yx (uh alg)];rw[ay h1,gu h2];rfl);have hbx:=(((uh HX).set 0 (.int .i64 2)).set 1 (.int .i64 0)).set 2 (.string ⟨#[]⟩)
    have qc:Hid (PO (.returned (.agg #[(.int .i64 2),(.int .i64 0),(.string ⟨#[]⟩)])) (((wr.setCell ⟨w.heap.size,0,none⟩ (.int .i64 2)).setCell ⟨w.heap.size,1,none⟩ (.int .i64 0)).setCell ⟨w.heap.size,2,none⟩ (.string ⟨#[]⟩))):=hide (by
     rw[uh Dn];refine⟨by rw[uh HE],?_⟩;exact(((uh HB).setCell (p:=⟨w.heap.size,0,none⟩) (gq _) (.int .i64 2)).setCell (p:=⟨w.heap.size,1,none⟩) (gq _) (.int .i64 0)).setCell (p:=⟨w.heap.size,2,none⟩) (gq _) (.string ⟨#[]⟩))
    have Om:=hide (And.intro (hbx.cell (i:=0) (v:=(.int .i64 2)) rfl) (And.intro (hbx.cell (i:=1) (v:=(.int .i64 0)) rfl) (hbx.cell (i:=2) (v:=(.string ⟨#[]⟩)) rfl)));clear hbx;clear h1 h2;go_wp2;obtain⟨f0,f1,f2⟩:=uh Om;exact bodyPost_ret (v:=.agg #[(.int .i64 2),(.int .i64 0),(.string ⟨#[]⟩)]) (by simp[results,Tryz.results51,go_sem,f0,f1,f2]) rfl (uh qc)
   rw[iw h2] at t2
   by_cases h0:p.size=0
   ·have q0:¬(0:Int)<(p.size:Int):=by omega
    have q1:decide ((0:Int)<(p.size:Int))=false:=iw q0;have hn:=aiu p h0;have HE:Hid (Jg p=⟨1,(Bo p),⟨#[]⟩⟩):=hide (by rw[Yx (uh alg)];rw[ay h1,ay h2,hn,ay (by simp),ay (by simp)];rfl);have hbx:=(((uh HX).set 0 (.int .i64 1)).set 1 (.int .i64 (Bo p))).set 2 (.string ⟨#[]⟩)
    have qc:Hid (PO (.returned (.agg #[(.int .i64 1),(.int .i64 (Bo p)),(.string ⟨#[]⟩)])) (((wr.setCell ⟨w.heap.size,0,none⟩ (.int .i64 1)).setCell ⟨w.heap.size,1,none⟩ (.int .i64 (Bo p))).setCell ⟨w.heap.size,2,none⟩ (.string ⟨#[]⟩))):=hide (by
     rw[uh Dn];refine⟨by rw[uh HE],?_⟩;exact(((uh HB).setCell (p:=⟨w.heap.size,0,none⟩) (gq _) (.int .i64 1)).setCell (p:=⟨w.heap.size,1,none⟩) (gq _) (.int .i64 (Bo p))).setCell (p:=⟨w.heap.size,2,none⟩) (gq _) (.string ⟨#[]⟩))
    have Om:=hide (And.intro (hbx.cell (i:=0) (v:=(.int .i64 1)) rfl) (And.intro (hbx.cell (i:=1) (v:=(.int .i64 (Bo p))) rfl) (hbx.cell (i:=2) (v:=(.string ⟨#[]⟩)) rfl)));clear hbx;clear h1 h2 hn h0;go_wp2_with fail;refine(aaj p _ hs).mono ?_;rintro e w' ⟨rfl,rfl⟩;go_wp2;obtain⟨f0,f1,f2⟩:=uh Om;exact bodyPost_ret (v:=.agg #[(.int .i64 1),(.int .i64 (Bo p)),(.string ⟨#[]⟩)]) (by simp[results,Tryz.results51,go_sem,f0,f1,f2]) rfl (uh qc)
   have q0:(0:Int)<(p.size:Int):=by omega
   have q1:decide ((0:Int)<(p.size:Int))=true:=jf q0;have hp:0<p.size:=by omega
   have hh:=arl p hp;have hbd:=aap p[0];have htl:=a2v p hp
   by_cases h46:p[0]=46
   ·have q2:(((p[0].toNat:Nat):Int) == 46)=true:=by rw[h46];rfl
    have HE:Hid (Jg p=⟨3,0,(p.extract 1 p.size)⟩):=hide (by rw[Yx (uh alg)];rw[ay h1,ay h2,hh,h46,gu rfl,htl]);have hbx:=(((uh HX).set 0 (.int .i64 3)).set 1 (.int .i64 0)).set 2 (.string (p.extract 1 p.size))
    have qc:Hid (PO (.returned (.agg #[(.int .i64 3),(.int .i64 0),(.string (p.extract 1 p.size))])) (((wr.setCell ⟨w.heap.size,0,none⟩ (.int .i64 3)).setCell ⟨w.heap.size,1,none⟩ (.int .i64 0)).setCell ⟨w.heap.size,2,none⟩ (.string (p.extract 1 p.size)))):=hide (by
     rw[uh Dn];refine⟨by rw[uh HE],?_⟩;exact(((uh HB).setCell (p:=⟨w.heap.size,0,none⟩) (gq _) (.int .i64 3)).setCell (p:=⟨w.heap.size,1,none⟩) (gq _) (.int .i64 0)).setCell (p:=⟨w.heap.size,2,none⟩) (gq _) (.string (p.extract 1 p.size)))
    have Om:=hide (And.intro (hbx.cell (i:=0) (v:=(.int .i64 3)) rfl) (And.intro (hbx.cell (i:=1) (v:=(.int .i64 0)) rfl) (hbx.cell (i:=2) (v:=(.string (p.extract 1 p.size))) rfl)));clear hbx;clear h1 h2 hh h46 htl h0;go_wp2;obtain⟨f0,f1,f2⟩:=uh Om;exact bodyPost_ret (v:=.agg #[(.int .i64 3),(.int .i64 0),(.string (p.extract 1 p.size))]) (by simp[results,Tryz.results51,go_sem,f0,f1,f2]) rfl (uh qc)
   have q2:(((p[0].toNat:Nat):Int) == 46)=false:=by
    rw[su];intro h9;exact h46 (UInt8.toNat_inj.1 (by rw[show (46:UInt8).toNat=46 from rfl];omega))
   by_cases h64:p[0]=64
   ·have q3:(((p[0].toNat:Nat):Int) == 64)=true:=by rw[h64];rfl
    have hts:(p.extract 1 p.size).size<=1048576:=by rw[ByteArray.size_extract];omega
    have HE:Hid (Jg p=⟨25,(Bo (p.extract 1 p.size)),⟨#[]⟩⟩):=hide (by rw[Yx (uh alg)];rw[ay h1,ay h2,hh,h64,ay (by decide),gu rfl,htl];rfl);have hbx:=(((uh HX).set 0 (.int .i64 25)).set 1 (.int .i64 (Bo (p.extract 1 p.size)))).set 2 (.string ⟨#[]⟩)
    have qc:Hid (PO (.returned (.agg #[(.int .i64 25),(.int .i64 (Bo (p.extract 1 p.size))),(.string ⟨#[]⟩)])) (((wr.setCell ⟨w.heap.size,0,none⟩ (.int .i64 25)).setCell ⟨w.heap.size,1,none⟩ (.int .i64 (Bo (p.extract 1 p.size)))).setCell ⟨w.heap.size,2,none⟩ (.string ⟨#[]⟩))):=hide (by
     rw[uh Dn];refine⟨by rw[uh HE],?_⟩;exact(((uh HB).setCell (p:=⟨w.heap.size,0,none⟩) (gq _) (.int .i64 25)).setCell (p:=⟨w.heap.size,1,none⟩) (gq _) (.int .i64 (Bo (p.extract 1 p.size)))).setCell (p:=⟨w.heap.size,2,none⟩) (gq _) (.string ⟨#[]⟩))
    have Om:=hide (And.intro (hbx.cell (i:=0) (v:=(.int .i64 25)) rfl) (And.intro (hbx.cell (i:=1) (v:=(.int .i64 (Bo (p.extract 1 p.size)))) rfl) (hbx.cell (i:=2) (v:=(.string ⟨#[]⟩)) rfl)));clear hbx;clear h1 h2 hh h64 h46 htl h0;go_wp2_with fail;refine(aaj (p.extract 1 p.size) _ hts).mono ?_;rintro e w' ⟨rfl,rfl⟩;go_wp2;obtain⟨f0,f1,f2⟩:=uh Om;exact bodyPost_ret (v:=.agg #[(.int .i64 25),(.int .i64 (Bo (p.extract 1 p.size))),(.string ⟨#[]⟩)]) (by simp[results,Tryz.results51,go_sem,f0,f1,f2]) rfl (uh qc)
   have q3:(((p[0].toNat:Nat):Int) == 64)=false:=by
    rw[su];intro h9;exact h64 (UInt8.toNat_inj.1 (by rw[show (64:UInt8).toNat=64 from rfl];omega))
   have HE:Hid (Jg p=⟨1,(Bo p),⟨#[]⟩⟩):=hide (by rw[Yx (uh alg)];rw[ay h1,ay h2,hh,ay (fun h9=>h46 (G9 h9)),ay (fun h9=>h64 (G9 h9))];rfl);have hbx:=(((uh HX).set 0 (.int .i64 1)).set 1 (.int .i64 (Bo p))).set 2 (.string ⟨#[]⟩)
   have qc:Hid (PO (.returned (.agg #[(.int .i64 1),(.int .i64 (Bo p)),(.string ⟨#[]⟩)])) (((wr.setCell ⟨w.heap.size,0,none⟩ (.int .i64 1)).setCell ⟨w.heap.size,1,none⟩ (.int .i64 (Bo p))).setCell ⟨w.heap.size,2,none⟩ (.string ⟨#[]⟩))):=hide (by
    rw[uh Dn];refine⟨by rw[uh HE],?_⟩;exact(((uh HB).setCell (p:=⟨w.heap.size,0,none⟩) (gq _) (.int .i64 1)).setCell (p:=⟨w.heap.size,1,none⟩) (gq _) (.int .i64 (Bo p))).setCell (p:=⟨w.heap.size,2,none⟩) (gq _) (.string ⟨#[]⟩))
   have Om:=hide (And.intro (hbx.cell (i:=0) (v:=(.int .i64 1)) rfl) (And.intro (hbx.cell (i:=1) (v:=(.int .i64 (Bo p))) rfl) (hbx.cell (i:=2) (v:=(.string ⟨#[]⟩)) rfl)));clear hbx;clear h1 h2 hh h64 h46 htl h0;go_wp2_with fail;refine(aaj p _ hs).mono ?_;rintro e w' ⟨rfl,rfl⟩;go_wp2;obtain⟨f0,f1,f2⟩:=uh Om;exact bodyPost_ret (v:=.agg #[(.int .i64 1),(.int .i64 (Bo p)),(.string ⟨#[]⟩)]) (by simp[results,Tryz.results51,go_sem,f0,f1,f2]) rfl (uh qc)
theorem iy.Bz {α:Type} {sz qy lo:Nat} {R:Nat->bf->List Value->α->Prop} {w:bf} {v:Value} {xs:List α} (h:iy sz qy R lo w v xs):xs.length<=140737488355328:=by
 obtain⟨_,_,_,_,h,_⟩:=h;exact h
def Vp (k:dw) (t:ku):Bool:=!(decide (20<t.op)&&t.op != 25)&&(t.op != 3||inB (varsOf k) t.name)&&(t.op != 25||decide (0<=t.val∧t.val<(k.eu.length:Int)))
def Tn (k:dw) (code:List ku):Bool:=scM 6000 code&&code.all (Vp k)
def Ju:List Int->Nat->Int->Int->Int × Int
 | [],_,_,_=>(-1,-1)
 | kd::r,j,d,o =>
  if kd=4 then Ju r (j+1) (d+1) o
  else if kd=5 then (if d=1 then (if 0<=o then (-1,-1) else Ju r (j+1) d (j:Int)) else Ju r (j+1) d o)
  else if kd=6 then (if d-1=0 then (o,(j:Int)) else Ju r (j+1) (d-1) o)
  else Ju r (j+1) d o
def uj (ks:List Int) (i:Nat):Int × Int:=Ju (ks.drop i) i 0 (-1)
theorem alh {a b:Int} {p:Int × Int} (h:p=(a,b)):Ending.returned (.tuple #[.int .i64 a,.int .i64 b])=.returned (.tuple #[.int .i64 p.1,.int .i64 p.2]):=by rw[h]
theorem avq (ks:List Int):∀(j:Nat) (d o:Int),0<=(Ju ks j d o).2->((j:Int)<=(Ju ks j d o).2∧(Ju ks j d o).2<(j:Int)+ks.length)∧((Ju ks j d o).1=o∨((j:Int)<=(Ju ks j d o).1∧(Ju ks j d o).1<(Ju ks j d o).2)):=by
 induction ks with
 | nil=>intro j d o h;simp[Ju] at h
 | cons kd r ih =>
  intro j d o h;unfold Ju at h ⊢;simp only[uf]
  split at h<;>rename_i h4
  ·rw[gu h4]
   have:=ih (j+1) (d+1) o h;omega
  ·rw[ay h4]
   split at h<;>rename_i h5
   ·rw[gu h5]
    split at h<;>rename_i hd
    ·rw[gu hd]
     split at h<;>rename_i ho
     ·simp at h
     ·rw[ay ho]
      have:=ih (j+1) d (j:Int) h;omega
    ·rw[ay hd]
     have:=ih (j+1) d o h;omega
   ·rw[ay h5]
    split at h<;>rename_i h6
    ·rw[gu h6]
     split at h<;>rename_i hd
     ·rw[gu hd]
      exact⟨⟨Int.le_refl _,by omega⟩,Or.inl rfl⟩
     ·rw[ay hd]
      have:=ih (j+1) (d-1) o h;omega
    ·rw[ay h6]
     have:=ih (j+1) d o h;omega
theorem ah0 (ks:List Int) (i:Nat) (hi:i<ks.length) (h4:ks[i]=4) (h1:0<=(uj ks i).1) (h2:0<=(uj ks i).2):(i:Int)+1<=(uj ks i).1∧(uj ks i).1<(uj ks i).2∧(uj ks i).2<ks.length:=by
 unfold uj at *;rw[List.drop_eq_getElem_cons hi,h4] at h1 h2 ⊢;unfold Ju at h1 h2 ⊢;rw[gu rfl] at h1 h2 ⊢;have:=avq (ks.drop (i+1)) (i+1) (0+1) (-1) h2;rw[Dh] at this;omega
def jl (body:List lu):List Int:=body.map (·.kind)
theorem a2x (ks:List Int) (j:Nat) (hj:j<ks.length) (d o:Int):Ju (ks.drop j) j d o=(if ks[j]=4 then Ju (ks.drop (j+1)) (j+1) (d+1) o
  else if ks[j]=5 then (if d=1 then (if 0<=o then (-1,-1) else Ju (ks.drop (j+1)) (j+1) d (j:Int)) else Ju (ks.drop (j+1)) (j+1) d o)
  else if ks[j]=6 then (if d-1=0 then (o,(j:Int)) else Ju (ks.drop (j+1)) (j+1) (d-1) o)
  else Ju (ks.drop (j+1)) (j+1) d o):=by
 rw[List.drop_eq_getElem_cons hj];rfl
theorem X5 (body:List lu) (j:Nat) (hj:j<body.length):(jl body)[j]'(by unfold jl;simpa using hj)=body[j].kind:=by
 unfold jl;simp
theorem aeo (body:List lu) (v:Value) (i:Nat) (w:bf) (hv:iy 6 104 Zu 0 w v body) (hi:i<=body.length) :
  Calls Tryz.prog 85 #[v,.int .i64 (i:Int)] w fun e w'=>e=.returned (.tuple #[.int .i64 (uj (jl body) i).1,.int .i64 (uj (jl body) i).2])∧w'=w:=by
 obtain⟨a,cap,rfl,_,hn,hx⟩:=hv;unfold Len at hn;have HX:=hide hx;have hkl:(jl body).length=body.length:=by unfold jl;simp
 have HR:Hid (uj (jl body) i=Ju ((jl body).drop i) i 0 (-1)):=rfl;generalize uj (jl body) i=R at *
 have HST:=hide (fun j (hj:j<body.length) d o=>by
  have h:=a2x (jl body) j (by rw[hkl];exact hj) d o;rw[X5 body j hj] at h;exact h)
 have bex:Hid (∀d o,Ju ((jl body).drop body.length) body.length d o=(-1,-1)):=fun d o=>by
  rw[List.drop_of_length_le (by rw[hkl];exact gq _)];rfl
 generalize jl body=ks at *;clear hx hkl;go_enter Tryz.func85,Tryz.ntmps85;go_wp2
 go_loopg [6,7,8] (body.length-i) (fun g dv ov jv wr=>∃(j:Nat) (d o:Int),j<=body.length∧g=body.length-j∧jv=.int .i64 j∧dv=.int .i64 d∧ov=.int .i64 o ∧ -(j:Int)<=d∧d<=j ∧ -1<=o∧o<=j∧R=Ju (ks.drop j) j d o∧wr=w)
 case atStart=>exact⟨i,0,-1,hi,by omega,rfl,rfl,rfl,by omega,by omega,by omega,by omega,uh HR,rfl⟩
 case round =>
  obtain⟨j,d,o,hj,hg,rfl,rfl,rfl,hd1,hd2,ho1,ho2,hR,Qm⟩:=hrel;obtain rfl:=Qm.symm;have HG:=hide hg;have HRR:=hide hR;clear hg hR
  by_cases hlt:j<body.length
  ·obtain⟨b,o5,cs,Fv,_,hb,hcs,hc,⟨q1,q2,q3,rfl,_⟩⟩:=uh HX j hlt
   subst Fv;have r0:=hc 0 (by simp);simp only[jh,ny] at r0;have HS:=hide ((uh HRR).trans (uh HST j hlt d o));have hlt':(j:Int)<(body.length:Int):=by omega
   clear hc hcs;generalize body[j].kind=kd at *
   by_cases h4:kd=4
   ·have y4:(kd == 4)=true:=by simp[h4]
    have hS:=uh HS;rw[gu h4] at hS;have HS2:=hide hS;clear hS HS h4;go_wp2
    go_roundg (body.length-(j+1))
    case measure=>have:=uh HG;omega
    case rel=>exact⟨j+1,d+1,o,by omega,rfl,by go_num,rfl,rfl,by omega,by omega,by omega,by omega,uh HS2,rfl⟩
   have y4:(kd == 4)=false:=by simp[h4]
   have hS:=uh HS;rw[ay h4] at hS;clear HS h4
   by_cases h5:kd=5
   ·have y5:(kd == 5)=true:=by simp[h5]
    rw[gu h5] at hS;clear h5
    by_cases h1:d=1
    ·have e1:(d == 1)=true:=by simp[h1]
     rw[gu h1] at hS
     by_cases h0:0<=o
     ·have e2:decide (0<=o)=true:=jf h0
      rw[gu h0] at hS;have HS2:=hide hS;clear hS h1;go_wp2
      go_ret2
      exact⟨alh (uh HS2),rfl⟩
     ·have e2:decide (0<=o)=false:=iw h0
      rw[ay h0] at hS;have HS2:=hide hS;clear hS h1;go_wp2
      go_roundg (body.length-(j+1))
      case measure=>have:=uh HG;omega
      case rel=>exact⟨j+1,d,(j:Int),by omega,rfl,by go_num,rfl,rfl,by omega,by omega,by omega,by omega,uh HS2,rfl⟩
    ·have e1:(d == 1)=false:=by simp[h1]
     rw[ay h1] at hS;have HS2:=hide hS;clear hS h1;go_wp2
     go_roundg (body.length-(j+1))
     case measure=>have:=uh HG;omega
     case rel=>exact⟨j+1,d,o,by omega,rfl,by go_num,rfl,rfl,by omega,by omega,by omega,by omega,uh HS2,rfl⟩
   have y5:(kd == 5)=false:=by simp[h5]
   rw[ay h5] at hS;clear h5
   by_cases h6:kd=6
   ·have y6:(kd == 6)=true:=by simp[h6]
    rw[gu h6] at hS;clear h6
    by_cases h1:d-1=0
    ·have e1:(d-1 == 0)=true:=by simp[h1]
     rw[gu h1] at hS;have HS2:=hide hS;clear hS h1;go_wp2
     go_ret2
     exact⟨alh (uh HS2),rfl⟩
    ·have e1:(d-1 == 0)=false:=by simp[h1]
     rw[ay h1] at hS;have HS2:=hide hS;clear hS h1;go_wp2
     go_roundg (body.length-(j+1))
     case measure=>have:=uh HG;omega
     case rel=>exact⟨j+1,d-1,o,by omega,rfl,by go_num,rfl,rfl,by omega,by omega,by omega,by omega,uh HS2,rfl⟩
   ·have y6:(kd == 6)=false:=by simp[h6]
    rw[ay h6] at hS;have HS2:=hide hS;clear hS h6;go_wp2
    go_roundg (body.length-(j+1))
    case measure=>have:=uh HG;omega
    case rel=>exact⟨j+1,d,o,by omega,rfl,by go_num,rfl,rfl,by omega,by omega,by omega,by omega,uh HS2,rfl⟩
  ·have e:j=body.length:=by omega
   subst e;have HE:=hide ((uh HRR).trans (uh bex d o));go_wp2
   go_ret2
   exact⟨alh (uh HE),rfl⟩
def vw {α:Type} (ks:List α) (p q:Nat):List α:=(ks.drop p).take (q-p)
theorem Ru {α:Type} (ks:List α) (p q:Nat) (h1:p<=q) (h2:q<=ks.length):(vw ks p q).length=q-p:=by
 unfold vw;rw[Nq,Dh];omega
theorem aem {α β:Type} (f:α->β) (ks:List α) (p q:Nat):(vw ks p q).map f=vw (ks.map f) p q:=by
 unfold vw;rw[List.map_take,List.map_drop]
theorem iy.sub {α:Type} {sz qy:Nat} {R:Nat->bf->List Value->α->Prop} {w:bf} {b o n c:Nat} {xs:List α} (h:iy sz qy R 0 w (.slice (some ⟨b,o,none⟩) n c) xs) (p q:Nat) (hp:p<=q) (hq:q<=xs.length) :
  iy sz qy R 0 w (.slice (some ⟨b,o+p*sz,none⟩) (q-p) (c-p)) (vw xs p q):=by
 obtain⟨a',c',hv,⟨h1,h2⟩,h3,hx⟩:=h;simp only[qw] at hv;obtain⟨rfl,_,rfl⟩:=hv;have hl:=Ru xs p q hp hq;have hm:(q-p)*qy<=xs.length*qy:=Nat.mul_le_mul_right _ (by omega);refine⟨_,c-p,by rw[hl],⟨by rw[hl];unfold Len at *;omega,by omega⟩,by rw[hl];unfold Len at *;omega,fun i hi=>?_⟩;obtain⟨b',o',cs,r1,r2,r3,r4,r5,r6⟩:=hx (p+i) (by omega);simp only[uo,Addr.mk.injEq] at r1;obtain⟨rfl,rfl,_⟩:=r1;refine⟨b,o+p*sz,cs,rfl,r2,r3,r4,fun j hj=>?_,?_⟩
 ·rw[←r5 j hj]
  congr 2;rw[Nat.add_mul];omega
 ·have e:(vw xs p q)[i]=xs[p+i]:=by simp[vw]
  rw[e];exact r6
def Sz (rec:List Int->Int->Bool) (ks:List Int) (depth:Int):Nat->Nat->Bool
 | 0,_=>true
 | f+1,i=>match ks[i]? with
  | none=>true
  | some kd =>
   if kd=5∨kd=6 then false
   else if kd=4 then
    (if (uj ks i).1<0∨(uj ks i).2<0 then false
    else if ((i:Int)+1<(uj ks i).1∨(uj ks i).1+1<(uj ks i).2)∧20<depth+1 then false
    else if rec (vw ks (i+1) (uj ks i).1.toNat) (depth+1)=false then false
    else if rec (vw ks ((uj ks i).1.toNat+1) (uj ks i).2.toNat) (depth+1)=false then false
    else Sz rec ks depth f ((uj ks i).2.toNat+1))
   else Sz rec ks depth f (i+1)
def Eu:Nat->List Int->Int->Bool
 | 0,_,_=>true
 | f+1,ks,d=>Sz (Eu f) ks d (ks.length+1) 0
theorem Y1 (rec:List Int->Int->Bool) (ks:List Int) (depth:Int) (f i:Nat) (hi:i<ks.length):Sz rec ks depth (f+1) i=(if ks[i]=5∨ks[i]=6 then false
   else if ks[i]=4 then
    (if (uj ks i).1<0∨(uj ks i).2<0 then false
    else if ((i:Int)+1<(uj ks i).1∨(uj ks i).1+1<(uj ks i).2)∧20<depth+1 then false
    else if rec (vw ks (i+1) (uj ks i).1.toNat) (depth+1)=false then false
    else if rec (vw ks ((uj ks i).1.toNat+1) (uj ks i).2.toNat) (depth+1)=false then false
    else Sz rec ks depth f ((uj ks i).2.toNat+1))
   else Sz rec ks depth f (i+1)):=by
 rw[Sz,jy hi]
theorem als (rec:List Int->Int->Bool) (ks:List Int) (depth:Int) (f:Nat):Sz rec ks depth f ks.length=true:=by
 cases f with
 | zero=>rfl
 | succ f =>
  rw[Sz,List.getElem?_eq_none (gq _)]
set_option maxRecDepth 20000 in
theorem ap5:∀(f:Nat) (body:List lu) (v:Value) (depth:Int) (w:bf),iy 6 104 Zu 0 w v body->body.length<f->0<=depth->depth+body.length<=281474976710656 ->
  Calls Tryz.prog 84 #[v,.int .i64 depth] w fun e w'=>e=.returned (.bool (Eu f (jl body) depth))∧w'=w:=by
 intro f
 induction f with
 | zero=>intro body v depth w _ h;omega
 | succ f ih =>
  intro body v depth w hv hlf hd0 hd1;have HPT:=hide (fun i (hi:i<=body.length)=>aeo body v i w hv hi);have HV:=hide hv;obtain⟨a,cap,rfl,⟨_,hcap⟩,hn,hx⟩:=hv;unfold Len at hn;have HX:=hide hx;have hkl:(jl body).length=body.length:=by unfold jl;simp
  have HR:Hid (Eu (f+1) (jl body) depth=Sz (Eu f) (jl body) depth (body.length+1) 0):=by
   show Eu (f+1) (jl body) depth=_;rw[Eu,hkl]
  have HK:=hide (fun j (hj:j<body.length)=>X5 body j hj)
  have HST:=hide (fun g i (hi:i<body.length)=>by
   have h:=Y1 (Eu f) (jl body) depth g i (by rw[hkl];exact hi);rw[uh HK i hi] at h;exact h)
  have Xa:Hid (∀g,Sz (Eu f) (jl body) depth g body.length=true):=fun g=>by
   have:=als (Eu f) (jl body) depth g;rw[hkl] at this;exact this
  have HPB:=hide (fun i (hi:i<body.length) (h4:body[i].kind=4) h1 h2=>by
   have h:=ah0 (jl body) i (by rw[hkl];exact hi) (by rw[uh HK i hi];exact h4) h1 h2;rw[hkl] at h;exact h)
  have HIH:Hid (∀p q b o,a=some ⟨b,o,none⟩->p<=q->q<=body.length->0<p->Calls Tryz.prog 84 #[.slice (some ⟨b,o+p*6,none⟩) (q-p) (cap-p),.int .i64 (depth+1)] w fun e w'=>e=.returned (.bool (Eu f (vw (jl body) p q) (depth+1)))∧w'=w):=fun p q b o ha hp hq h0=>by
   subst ha;have hs:=(uh HV).sub p q hp hq;have hl:=Ru body p q hp hq;have h:=ih (vw body p q) _ (depth+1) w hs (by omega) (by omega) (by omega);have e:jl (vw body p q)=vw (jl body) p q:=aem _ _ _ _;rw[e] at h;exact h
  clear hx hkl ih HV HK;generalize Eu (f+1) (jl body) depth=R at *;generalize jl body=ks at *;go_enter Tryz.func84,Tryz.ntmps84;go_wp2
  go_loopg [5] (body.length) (fun g iv wr=>∃(i fu:Nat),i<=body.length∧g=body.length-i∧iv=.int .i64 i∧body.length<fu+i∧R=Sz (Eu f) ks depth fu i∧wr=w)
  case atStart=>exact⟨0,body.length+1,jg _,by omega,rfl,by omega,uh HR,rfl⟩
  case round =>
   obtain⟨i,fu,hi,hg,rfl,hfu,hR,Qm⟩:=hrel;obtain rfl:=Qm.symm;have HG:=hide hg;have HRR:=hide hR;clear hg hR
   by_cases hlt:i<body.length
   ·obtain⟨b,o,cs,Fv,_,hb,hcs,hc,⟨q1,q2,q3,rfl,_⟩⟩:=uh HX i hlt
    have HAB:=hide Fv;have r0:=hc 0 (by simp);simp only[jh,ny] at r0;obtain⟨Sl,rfl⟩:∃Sl,fu=Sl+1:=⟨fu-1,by omega⟩;have HS:=hide ((uh HRR).trans (uh HST Sl i hlt));have afw:=hide (uh HPB i hlt);have Nw:=hide (uh HPT i hi);have HI2:=hide (fun p q=>uh HIH p q b o (uh HAB));subst Fv;have hlt':(i:Int)<(body.length:Int):=by omega
    clear hc hcs HRR;generalize body[i].kind=kd at *
    by_cases Y2:kd=5∨kd=6
    ·have hS:=uh HS
     rw[gu Y2] at hS;have HF:=hide hS;clear hS HS afw Nw HI2;rcases Y2 with rfl|rfl
     all_goals
      go_wp2;go_ret;exact⟨by rw[uh HF];rfl,rfl⟩
    have y5:(kd == 5)=false:=by rw[su];omega
    have y6:(kd == 6)=false:=by rw[su];omega
    have hS:=uh HS;rw[ay Y2] at hS
    by_cases h4:kd=4
    case neg =>
     rw[ay h4] at hS;have HF:=hide hS;have y4:(kd == 4)=false:=by rw[su];omega
     clear hS HS Y2 h4 afw Nw HI2;go_wp2
     go_roundg (body.length-(i+1))
     case measure=>have:=uh HG;omega
     case rel=>exact⟨i+1,Sl,by omega,rfl,by go_num,by omega,uh HF,rfl⟩
    rw[gu h4] at hS;have y4:(kd == 4)=true:=by simp[h4]
    have afx:=hide (uh afw h4);have zf:=hide hS;clear hS HS afw Y2 h4;generalize uj ks i=pp at *;obtain⟨po,pe⟩:=pp;simp only at zf afx Nw
    by_cases hneg:po<0∨pe<0
    ·have hS:=uh zf
     rw[gu hneg] at hS;have HF:=hide hS;clear hS zf afx HI2
     by_cases hp0:po<0
     ·have e1:decide (po<0)=true:=jf hp0
      go_wp2_with fail;refine(uh Nw).mono ?_;rintro e w9 ⟨rfl,h9⟩;obtain rfl:=h9.symm;go_wp2;go_ret;exact⟨by rw[uh HF];rfl,rfl⟩
     ·have e1:decide (po<0)=false:=iw hp0
      have e2:decide (pe<0)=true:=jf (by omega);go_wp2_with fail;refine(uh Nw).mono ?_;rintro e w9 ⟨rfl,h9⟩;obtain rfl:=h9.symm;go_wp2;go_ret;exact⟨by rw[uh HF];rfl,rfl⟩
    have hpb:=uh afx (by omega) (by omega);obtain⟨pn,rfl⟩:=H8 (show 0<=po by omega);obtain⟨en,rfl⟩:=H8 (show 0<=pe by omega);have hS:=uh zf;rw[ay hneg] at hS;simp only[En] at hS;have e1:decide ((pn:Int)<0)=false:=by rw[Nl];omega
    have e2:decide ((en:Int)<0)=false:=by rw[Nl];omega
    have Aw:=hide (uh HI2 (i+1) pn (by omega) (by omega) (by omega));have HC2:=hide (uh HI2 (pn+1) en (by omega) (by omega) (by omega));have g1:(0:Int)<=(i:Int)+1:=by omega
    have g2:(i:Int)+1<=(pn:Int):=by omega
    have g3:(pn:Int)<=(cap:Int):=by omega
    have g4:(0:Int)<=(pn:Int)+1:=by omega
    have g5:(pn:Int)+1<=(en:Int):=by omega
    have g6:(en:Int)<=(cap:Int):=by omega
    have hnb:i+1<=pn∧pn+1<=en∧en<body.length:=by omega
    clear afx HI2 hneg zf hpb;generalize Eu f (vw ks (i+1) pn) (depth+1)=v1 at *;generalize Eu f (vw ks (pn+1) en) (depth+1)=v2 at *
    by_cases hin1:(i:Int)+1<(pn:Int)
    ·have i1:decide ((i:Int)+1<(pn:Int))=true:=jf hin1
     by_cases hdd:20<depth+1
     ·have f1:decide (20<depth+1)=true:=jf hdd
      rw[gu ⟨Or.inl hin1,hdd⟩] at hS;have HF:=hide hS;clear hS Aw HC2;go_wp2_with fail;refine(uh Nw).mono ?_;rintro e w9 ⟨rfl,h9⟩;obtain rfl:=h9.symm;go_wp2;go_ret;exact⟨by rw[uh HF];rfl,rfl⟩
     ·have f1:decide (20<depth+1)=false:=iw hdd
      rw[ay (fun h=>hdd h.2)] at hS
      cases v1
      ·rw[gu rfl] at hS
       have HF:=hide hS;clear hS HC2;go_wp2_with fail;refine(uh Nw).mono ?_;rintro e w9 ⟨rfl,h9⟩;obtain rfl:=h9.symm;go_wp2_with fail;refine(uh Aw).mono ?_;rintro e w8 ⟨rfl,h8⟩;obtain rfl:=h8.symm;go_wp2;go_ret;exact⟨by rw[uh HF];rfl,rfl⟩
      rw[ay (by simp)] at hS
      cases v2
      ·rw[gu rfl] at hS
       have HF:=hide hS;clear hS;go_wp2_with fail;refine(uh Nw).mono ?_;rintro e w9 ⟨rfl,h9⟩;obtain rfl:=h9.symm;go_wp2_with fail;refine(uh Aw).mono ?_;rintro e w8 ⟨rfl,h8⟩;obtain rfl:=h8.symm;go_wp2_with fail;refine(uh HC2).mono ?_;rintro e w7 ⟨rfl,h7⟩;obtain rfl:=h7.symm;go_wp2;go_ret;exact⟨by rw[uh HF];rfl,rfl⟩
      ·rw[ay (by simp)] at hS
       have HF:=hide hS;clear hS;go_wp2_with fail;refine(uh Nw).mono ?_;rintro e w9 ⟨rfl,h9⟩;obtain rfl:=h9.symm;go_wp2_with fail;refine(uh Aw).mono ?_;rintro e w8 ⟨rfl,h8⟩;obtain rfl:=h8.symm;go_wp2_with fail;refine(uh HC2).mono ?_;rintro e w7 ⟨rfl,h7⟩;obtain rfl:=h7.symm;go_wp2
       go_roundg (body.length-(en+1))
       case measure=>have:=uh HG;omega
       case rel=>exact⟨en+1,Sl,by omega,rfl,by go_num,by omega,uh HF,rfl⟩
    have i1:decide ((i:Int)+1<(pn:Int))=false:=iw hin1
    by_cases hin2:(pn:Int)+1<(en:Int)
    ·have i2:decide ((pn:Int)+1<(en:Int))=true:=jf hin2
     by_cases hdd:20<depth+1
     ·have f1:decide (20<depth+1)=true:=jf hdd
      rw[gu ⟨Or.inr hin2,hdd⟩] at hS;have HF:=hide hS;clear hS Aw HC2;go_wp2_with fail;refine(uh Nw).mono ?_;rintro e w9 ⟨rfl,h9⟩;obtain rfl:=h9.symm;go_wp2;go_ret;exact⟨by rw[uh HF];rfl,rfl⟩
     ·have f1:decide (20<depth+1)=false:=iw hdd
      rw[ay (fun h=>hdd h.2)] at hS
      cases v1
      ·rw[gu rfl] at hS
       have HF:=hide hS;clear hS HC2;go_wp2_with fail;refine(uh Nw).mono ?_;rintro e w9 ⟨rfl,h9⟩;obtain rfl:=h9.symm;go_wp2_with fail;refine(uh Aw).mono ?_;rintro e w8 ⟨rfl,h8⟩;obtain rfl:=h8.symm;go_wp2;go_ret;exact⟨by rw[uh HF];rfl,rfl⟩
      rw[ay (by simp)] at hS
      cases v2
      ·rw[gu rfl] at hS
       have HF:=hide hS;clear hS;go_wp2_with fail;refine(uh Nw).mono ?_;rintro e w9 ⟨rfl,h9⟩;obtain rfl:=h9.symm;go_wp2_with fail;refine(uh Aw).mono ?_;rintro e w8 ⟨rfl,h8⟩;obtain rfl:=h8.symm;go_wp2_with fail;refine(uh HC2).mono ?_;rintro e w7 ⟨rfl,h7⟩;obtain rfl:=h7.symm;go_wp2;go_ret;exact⟨by rw[uh HF];rfl,rfl⟩
      ·rw[ay (by simp)] at hS
       have HF:=hide hS;clear hS;go_wp2_with fail;refine(uh Nw).mono ?_;rintro e w9 ⟨rfl,h9⟩;obtain rfl:=h9.symm;go_wp2_with fail;refine(uh Aw).mono ?_;rintro e w8 ⟨rfl,h8⟩;obtain rfl:=h8.symm;go_wp2_with fail;refine(uh HC2).mono ?_;rintro e w7 ⟨rfl,h7⟩;obtain rfl:=h7.symm;go_wp2
       go_roundg (body.length-(en+1))
       case measure=>have:=uh HG;omega
       case rel=>exact⟨en+1,Sl,by omega,rfl,by go_num,by omega,uh HF,rfl⟩
    ·have i2:decide ((pn:Int)+1<(en:Int))=false:=iw hin2
     rw[ay (by rintro⟨h|h,_⟩;exact hin1 h;exact hin2 h)] at hS
     cases v1
     ·rw[gu rfl] at hS
      have HF:=hide hS;clear hS HC2;go_wp2_with fail;refine(uh Nw).mono ?_;rintro e w9 ⟨rfl,h9⟩;obtain rfl:=h9.symm;go_wp2_with fail;refine(uh Aw).mono ?_;rintro e w8 ⟨rfl,h8⟩;obtain rfl:=h8.symm;go_wp2;go_ret;exact⟨by rw[uh HF];rfl,rfl⟩
     rw[ay (by simp)] at hS
     cases v2
     ·rw[gu rfl] at hS
      have HF:=hide hS;clear hS;go_wp2_with fail;refine(uh Nw).mono ?_;rintro e w9 ⟨rfl,h9⟩;obtain rfl:=h9.symm;go_wp2_with fail;refine(uh Aw).mono ?_;rintro e w8 ⟨rfl,h8⟩;obtain rfl:=h8.symm;go_wp2_with fail;refine(uh HC2).mono ?_;rintro e w7 ⟨rfl,h7⟩;obtain rfl:=h7.symm;go_wp2;go_ret;exact⟨by rw[uh HF];rfl,rfl⟩
     ·rw[ay (by simp)] at hS
      have HF:=hide hS;clear hS;go_wp2_with fail;refine(uh Nw).mono ?_;rintro e w9 ⟨rfl,h9⟩;obtain rfl:=h9.symm;go_wp2_with fail;refine(uh Aw).mono ?_;rintro e w8 ⟨rfl,h8⟩;obtain rfl:=h8.symm;go_wp2_with fail;refine(uh HC2).mono ?_;rintro e w7 ⟨rfl,h7⟩;obtain rfl:=h7.symm;go_wp2
      go_roundg (body.length-(en+1))
      case measure=>have:=uh HG;omega
      case rel=>exact⟨en+1,Sl,by omega,rfl,by go_num,by omega,uh HF,rfl⟩
   ·have e:i=body.length:=by omega
    subst e;have HE:=hide ((uh HRR).trans (uh Xa fu));go_wp2;go_ret;exact⟨by rw[uh HE];rfl,rfl⟩
end Go.Proofs.YtfeejeflmcapoaaGreatDoor
