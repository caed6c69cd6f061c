import Derived.Test.YtfeejeflmcapoaaGreatDoorPS1
import Derived.Test.YtfeejeflmcapoaaGreatDoorEvI
import Derived.Test.YtfeejeflmcapoaaGreatDoorImplFresh
import Derived.Test.YtfeejeflmcapoaaGreatDoorRG1
set_option linter.unusedSimpArgs false
set_option linter.unusedVariables false
set_option maxHeartbeats 4000000
set_option maxRecDepth 20000
namespace Go.Proofs.YtfeejeflmcapoaaGreatDoor
open Go.RowKit
theorem a2j (p:dh) (h:0<p.size):p.extract 1 p.size=J7 p:=by
 rw[ext_eq p 1 p.size h (gu _),P8 (by rw[Cc,Ep];omega)];rfl
theorem Hw (p q:dh) (l:List UInt8) (h:bL q=l):(p.toList==l)=decide (p=q):=by
 rw[←zi,←h,ByteArray.toList_eq q];rfl
theorem a2k (p:dh):(p.toList==[116,114,117,101])=decide (p=N7):=Hw p N7 _ rfl
theorem ax3 (p:dh):(p.toList==[102,97,108,115,101])=decide (p=Jw):=Hw p Jw _ rfl
theorem ax4 {p:dh} {j:Nat} (hj:j<17) (hn:∀i,i<j->Dh i≠p) (h:Dh j=p):Jf p=⟨(j:Int)+4,0,E0⟩:=by
 unfold Jf
 have e:(List.range 17).find? (fun i=>decide (Dh i=p))=some j:=by
  rw[List.find?_range_eq_some];exact⟨jf h,uz.2 hj,fun i hi=>by simpa using hn i hi⟩
 rw[e]
theorem Yu {p:dh} (hn:∀i,i<17->Dh i≠p):Jf p=if p=N7 then ⟨2,1,E0⟩ else if p=Jw then ⟨2,0,E0⟩ else if (bL p).head?=some 46 then ⟨3,0,J7 p⟩ else if (bL p).head?=some 64 then ⟨25,Bd (J7 p),E0⟩ else ⟨1,Bd p,E0⟩:=by
 unfold Jf;rw[Um p hn]
def ItP (t:l9) (w:cu) (e:Ending) (w':cu):Prop:=e=.returned (.agg #[.int .i64 t.op,.int .i64 t.val,.string t.name])/\Below w.heap.size w w'
theorem axe (p:dh) (w:cu) (hs:p.size<=1048576):Calls Tryz.prog 51 #[.string p] w (ItP (Jf p) w):=by
 obtain⟨PO,Gn⟩:=o8 (ItP (Jf p) w);rw[←Gn];have Dc:=ak Gn;clear Gn;have HST:Hid (jd (w.alloc (.cells #[.int .i64 0,.int .i64 0,.string ⟨#[]⟩] 83)) w.heap.size 83 #[.int .i64 0,.int .i64 0,.string ⟨#[]⟩]/\Below w.heap.size w (w.alloc (.cells #[.int .i64 0,.int .i64 0,.string ⟨#[]⟩] 83))):=ak ⟨oh _ _ _,(iq _ _).alloc (gu _) _⟩;go_enter Tryz.func51,Tryz.ntmps51;go_wp2
 go_loopg [3] 17 (fun gh ov wr=>∃(j:Nat),j<=17/\gh=17-j/\ov=.int .i64 ((j:Int)+4)/\Hid (∀i,i<j->Dh i≠p)/\Hid (jd wr w.heap.size 83 #[.int .i64 0,.int .i64 0,.string ⟨#[]⟩])/\Hid (Below w.heap.size w wr))
 case atStart=>exact⟨0,by omega,by omega,rfl,ak (fun i hi=>absurd hi (yu _)),ak (uh HST).1,ak (uh HST).2⟩
 case round =>
  obtain⟨j,hj,hg,rfl,HN,HX,HB⟩:=hrel;have HG:=ak hg;clear hg HST;have c0:=(uh HX).cell (i:=0) (v:=.int .i64 0) rfl;have c1:=(uh HX).cell (i:=1) (v:=.int .i64 0) rfl;have c2:=(uh HX).cell (i:=2) (v:=.string ⟨#[]⟩) rfl;have z0:=(uh HX).free 0;have z1:=(uh HX).free 1;have z2:=(uh HX).free 2
  by_cases hlt:j<17
  ·have hjI:(j:Int)+4<=20:=by omega
   have HPT:=ak (al8 ⟨(j:Int)+4,0,E0⟩ wr ⟨fun h9=>by simp only at h9;omega,fun h9=>by simp only at h9;omega⟩ (show E0.size<=1048576 by decide));go_wp2_with fail;refine(uh HPT).mono ?_;rintro e w1 ⟨rfl,hb1⟩;have hx1:=(uh HX).below hb1 (uh HX).lt;have hB1:Below w.heap.size w w1:=(uh HB).trans (hb1.mono (uh HB).size);have d0:=hx1.cell (i:=0) (v:=.int .i64 0) rfl;have d1:=hx1.cell (i:=1) (v:=.int .i64 0) rfl;have d2:=hx1.cell (i:=2) (v:=.string ⟨#[]⟩) rfl;have y0:=hx1.free 0;have y1:=hx1.free 1;have y2:=hx1.free 2
   by_cases he:Dh j=p
   ·have q1:((Dh j).toList==p.toList)=true:=by rw[zi];exact jf he
    have HE:=ak (ax4 hlt (uh HN) he);have hb3:=((hB1.setCell (p:=⟨w.heap.size,0,none⟩) (gu _) (.int .i64 ((j:Int)+4))).setCell (p:=⟨w.heap.size,1,none⟩) (gu _) (.int .i64 0)).setCell (p:=⟨w.heap.size,2,none⟩) (gu _) (.string ⟨#[]⟩);have hbx:=((hx1.set 0 (.int .i64 ((j:Int)+4))).set 1 (.int .i64 0)).set 2 (.string ⟨#[]⟩)
    have qx:Hid (PO (.returned (.agg #[.int .i64 ((j:Int)+4),.int .i64 0,.string ⟨#[]⟩])) (((w1.setCell ⟨w.heap.size,0,none⟩ (.int .i64 ((j:Int)+4))).setCell ⟨w.heap.size,1,none⟩ (.int .i64 0)).setCell ⟨w.heap.size,2,none⟩ (.string ⟨#[]⟩))):=ak (by
     rw[uh Dc];refine⟨?_,hb3⟩;rw[uh HE];rfl)
    have f0:=hbx.cell (i:=0) (v:=.int .i64 ((j:Int)+4)) rfl;have f1:=hbx.cell (i:=1) (v:=.int .i64 0) rfl;have f2:=hbx.cell (i:=2) (v:=.string ⟨#[]⟩) rfl;have Oi:=ak (And.intro f0 (And.intro f1 f2));have hsg:partT ⟨(j:Int)+4,0,E0⟩=Dh j:=rfl;rw[hsg];clear hb3 hbx f0 f1 f2 he hsg hb1 hx1 hB1 c0 c1 c2 z0 z1 z2;go_wp2;obtain⟨f0,f1,f2⟩:=uh Oi;exact bodyPost_ret (v:=.agg #[.int .i64 ((j:Int)+4),.int .i64 0,.string ⟨#[]⟩]) (by simp[results,Tryz.results51,go_sem,f0,f1,f2]) rfl (uh qx)
   ·have q1:((Dh j).toList==p.toList)=false:=by rw[zi];exact iy he
    have hsg:partT ⟨(j:Int)+4,0,E0⟩=Dh j:=rfl;rw[hsg]
    have HNN:Hid (∀i,i<j+1->Dh i≠p):=ak (fun i hi=>by
     by_cases c:i<j
     ·exact uh HN i c
     ·have:i=j:=by omega
      rw[this];exact he)
    have Ag:=ak hx1;have HB1:=ak hB1;clear he hsg hb1 hx1 hB1 c0 c1 c2 z0 z1 z2 d0 d1 d2 y0 y1 y2;go_wp2
    go_roundg (17-(j+1))
    case measure=>have:=uh HG;omega
    case rel=>exact⟨j+1,by omega,rfl,by go_num,HNN,Ag,HB1⟩
  ·have e17:j=17:=by omega
   have alc:Hid (∀i,i<17->Dh i≠p):=ak (by have h9:=uh HN;rw[e17] at h9;exact h9);have hjI:¬(j:Int)+4<=20:=by omega
   have t1:=a2k p;have t2:=ax3 p;clear e17
   by_cases h1:p=N7
   ·rw[jf h1] at t1
    have HE:Hid (Jf p=⟨2,1,⟨#[]⟩⟩):=ak (by rw[Yu (uh alc)];rw[gy h1];rfl);have hbx:=(((uh HX).set 0 (.int .i64 2)).set 1 (.int .i64 1)).set 2 (.string ⟨#[]⟩)
    have qx:Hid (PO (.returned (.agg #[(.int .i64 2),(.int .i64 1),(.string ⟨#[]⟩)])) (((wr.setCell ⟨w.heap.size,0,none⟩ (.int .i64 2)).setCell ⟨w.heap.size,1,none⟩ (.int .i64 1)).setCell ⟨w.heap.size,2,none⟩ (.string ⟨#[]⟩))):=ak (by
     rw[uh Dc];refine⟨by rw[uh HE],?_⟩;exact(((uh HB).setCell (p:=⟨w.heap.size,0,none⟩) (gu _) (.int .i64 2)).setCell (p:=⟨w.heap.size,1,none⟩) (gu _) (.int .i64 1)).setCell (p:=⟨w.heap.size,2,none⟩) (gu _) (.string ⟨#[]⟩))
    have Oi:=ak (And.intro (hbx.cell (i:=0) (v:=(.int .i64 2)) rfl) (And.intro (hbx.cell (i:=1) (v:=(.int .i64 1)) rfl) (hbx.cell (i:=2) (v:=(.string ⟨#[]⟩)) rfl)));clear hbx;clear h1 t2;go_wp2;obtain⟨f0,f1,f2⟩:=uh Oi;exact bodyPost_ret (v:=.agg #[(.int .i64 2),(.int .i64 1),(.string ⟨#[]⟩)]) (by simp[results,Tryz.results51,go_sem,f0,f1,f2]) rfl (uh qx)
   rw[iy h1] at t1
   by_cases h2:p=Jw
   ·rw[jf h2] at t2
    have HE:Hid (Jf p=⟨2,0,⟨#[]⟩⟩):=ak (by rw[Yu (uh alc)];rw[bf h1,gy h2];rfl);have hbx:=(((uh HX).set 0 (.int .i64 2)).set 1 (.int .i64 0)).set 2 (.string ⟨#[]⟩)
    have qx:Hid (PO (.returned (.agg #[(.int .i64 2),(.int .i64 0),(.string ⟨#[]⟩)])) (((wr.setCell ⟨w.heap.size,0,none⟩ (.int .i64 2)).setCell ⟨w.heap.size,1,none⟩ (.int .i64 0)).setCell ⟨w.heap.size,2,none⟩ (.string ⟨#[]⟩))):=ak (by
     rw[uh Dc];refine⟨by rw[uh HE],?_⟩;exact(((uh HB).setCell (p:=⟨w.heap.size,0,none⟩) (gu _) (.int .i64 2)).setCell (p:=⟨w.heap.size,1,none⟩) (gu _) (.int .i64 0)).setCell (p:=⟨w.heap.size,2,none⟩) (gu _) (.string ⟨#[]⟩))
    have Oi:=ak (And.intro (hbx.cell (i:=0) (v:=(.int .i64 2)) rfl) (And.intro (hbx.cell (i:=1) (v:=(.int .i64 0)) rfl) (hbx.cell (i:=2) (v:=(.string ⟨#[]⟩)) rfl)));clear hbx;clear h1 h2;go_wp2;obtain⟨f0,f1,f2⟩:=uh Oi;exact bodyPost_ret (v:=.agg #[(.int .i64 2),(.int .i64 0),(.string ⟨#[]⟩)]) (by simp[results,Tryz.results51,go_sem,f0,f1,f2]) rfl (uh qx)
   rw[iy h2] at t2
   by_cases h0:p.size=0
   ·have q0:¬(0:Int)<(p.size:Int):=by omega
    have q1:decide ((0:Int)<(p.size:Int))=false:=iy q0;have hn:=ais p h0;have HE:Hid (Jf p=⟨1,(Bd p),⟨#[]⟩⟩):=ak (by rw[Yu (uh alc)];rw[bf h1,bf h2,hn,bf (by simp),bf (by simp)];rfl);have hbx:=(((uh HX).set 0 (.int .i64 1)).set 1 (.int .i64 (Bd p))).set 2 (.string ⟨#[]⟩)
    have qx:Hid (PO (.returned (.agg #[(.int .i64 1),(.int .i64 (Bd p)),(.string ⟨#[]⟩)])) (((wr.setCell ⟨w.heap.size,0,none⟩ (.int .i64 1)).setCell ⟨w.heap.size,1,none⟩ (.int .i64 (Bd p))).setCell ⟨w.heap.size,2,none⟩ (.string ⟨#[]⟩))):=ak (by
     rw[uh Dc];refine⟨by rw[uh HE],?_⟩;exact(((uh HB).setCell (p:=⟨w.heap.size,0,none⟩) (gu _) (.int .i64 1)).setCell (p:=⟨w.heap.size,1,none⟩) (gu _) (.int .i64 (Bd p))).setCell (p:=⟨w.heap.size,2,none⟩) (gu _) (.string ⟨#[]⟩))
    have Oi:=ak (And.intro (hbx.cell (i:=0) (v:=(.int .i64 1)) rfl) (And.intro (hbx.cell (i:=1) (v:=(.int .i64 (Bd p))) rfl) (hbx.cell (i:=2) (v:=(.string ⟨#[]⟩)) rfl)));clear hbx;clear h1 h2 hn h0;go_wp2_with fail;refine(aae p _ hs).mono ?_;rintro e w' ⟨rfl,rfl⟩;go_wp2;obtain⟨f0,f1,f2⟩:=uh Oi;exact bodyPost_ret (v:=.agg #[(.int .i64 1),(.int .i64 (Bd p)),(.string ⟨#[]⟩)]) (by simp[results,Tryz.results51,go_sem,f0,f1,f2]) rfl (uh qx)
   have q0:(0:Int)<(p.size:Int):=by omega
   have q1:decide ((0:Int)<(p.size:Int))=true:=jf q0;have hp:0<p.size:=by omega
   have hh:=arf p hp;have hbd:=aal p[0];have htl:=a2j p hp
   by_cases h46:p[0]=46
   ·have q2:(((p[0].toNat:Nat):Int)==46)=true:=by rw[h46];rfl
    have HE:Hid (Jf p=⟨3,0,(p.extract 1 p.size)⟩):=ak (by rw[Yu (uh alc)];rw[bf h1,bf h2,hh,h46,gy rfl,htl]);have hbx:=(((uh HX).set 0 (.int .i64 3)).set 1 (.int .i64 0)).set 2 (.string (p.extract 1 p.size))
    have qx:Hid (PO (.returned (.agg #[(.int .i64 3),(.int .i64 0),(.string (p.extract 1 p.size))])) (((wr.setCell ⟨w.heap.size,0,none⟩ (.int .i64 3)).setCell ⟨w.heap.size,1,none⟩ (.int .i64 0)).setCell ⟨w.heap.size,2,none⟩ (.string (p.extract 1 p.size)))):=ak (by
     rw[uh Dc];refine⟨by rw[uh HE],?_⟩;exact(((uh HB).setCell (p:=⟨w.heap.size,0,none⟩) (gu _) (.int .i64 3)).setCell (p:=⟨w.heap.size,1,none⟩) (gu _) (.int .i64 0)).setCell (p:=⟨w.heap.size,2,none⟩) (gu _) (.string (p.extract 1 p.size)))
    have Oi:=ak (And.intro (hbx.cell (i:=0) (v:=(.int .i64 3)) rfl) (And.intro (hbx.cell (i:=1) (v:=(.int .i64 0)) rfl) (hbx.cell (i:=2) (v:=(.string (p.extract 1 p.size))) rfl)));clear hbx;clear h1 h2 hh h46 htl h0;go_wp2;obtain⟨f0,f1,f2⟩:=uh Oi;exact bodyPost_ret (v:=.agg #[(.int .i64 3),(.int .i64 0),(.string (p.extract 1 p.size))]) (by simp[results,Tryz.results51,go_sem,f0,f1,f2]) rfl (uh qx)
   have q2:(((p[0].toNat:Nat):Int)==46)=false:=by
    rw[su];intro h9;exact h46 (UInt8.toNat_inj.1 (by rw[show (46:UInt8).toNat=46 from rfl];omega))
   by_cases h64:p[0]=64
   ·have q3:(((p[0].toNat:Nat):Int)==64)=true:=by rw[h64];rfl
    have hts:(p.extract 1 p.size).size<=1048576:=by rw[ByteArray.size_extract];omega
    have HE:Hid (Jf p=⟨25,(Bd (p.extract 1 p.size)),⟨#[]⟩⟩):=ak (by rw[Yu (uh alc)];rw[bf h1,bf h2,hh,h64,bf (by decide),gy rfl,htl];rfl);have hbx:=(((uh HX).set 0 (.int .i64 25)).set 1 (.int .i64 (Bd (p.extract 1 p.size)))).set 2 (.string ⟨#[]⟩)
    have qx:Hid (PO (.returned (.agg #[(.int .i64 25),(.int .i64 (Bd (p.extract 1 p.size))),(.string ⟨#[]⟩)])) (((wr.setCell ⟨w.heap.size,0,none⟩ (.int .i64 25)).setCell ⟨w.heap.size,1,none⟩ (.int .i64 (Bd (p.extract 1 p.size)))).setCell ⟨w.heap.size,2,none⟩ (.string ⟨#[]⟩))):=ak (by
     rw[uh Dc];refine⟨by rw[uh HE],?_⟩;exact(((uh HB).setCell (p:=⟨w.heap.size,0,none⟩) (gu _) (.int .i64 25)).setCell (p:=⟨w.heap.size,1,none⟩) (gu _) (.int .i64 (Bd (p.extract 1 p.size)))).setCell (p:=⟨w.heap.size,2,none⟩) (gu _) (.string ⟨#[]⟩))
    have Oi:=ak (And.intro (hbx.cell (i:=0) (v:=(.int .i64 25)) rfl) (And.intro (hbx.cell (i:=1) (v:=(.int .i64 (Bd (p.extract 1 p.size)))) rfl) (hbx.cell (i:=2) (v:=(.string ⟨#[]⟩)) rfl)));clear hbx;clear h1 h2 hh h64 h46 htl h0;go_wp2_with fail;refine(aae (p.extract 1 p.size) _ hts).mono ?_;rintro e w' ⟨rfl,rfl⟩;go_wp2;obtain⟨f0,f1,f2⟩:=uh Oi;exact bodyPost_ret (v:=.agg #[(.int .i64 25),(.int .i64 (Bd (p.extract 1 p.size))),(.string ⟨#[]⟩)]) (by simp[results,Tryz.results51,go_sem,f0,f1,f2]) rfl (uh qx)
   have q3:(((p[0].toNat:Nat):Int)==64)=false:=by
    rw[su];intro h9;exact h64 (UInt8.toNat_inj.1 (by rw[show (64:UInt8).toNat=64 from rfl];omega))
   have HE:Hid (Jf p=⟨1,(Bd p),⟨#[]⟩⟩):=ak (by rw[Yu (uh alc)];rw[bf h1,bf h2,hh,bf (fun h9=>h46 (Gv h9)),bf (fun h9=>h64 (Gv h9))];rfl);have hbx:=(((uh HX).set 0 (.int .i64 1)).set 1 (.int .i64 (Bd p))).set 2 (.string ⟨#[]⟩)
   have qx:Hid (PO (.returned (.agg #[(.int .i64 1),(.int .i64 (Bd p)),(.string ⟨#[]⟩)])) (((wr.setCell ⟨w.heap.size,0,none⟩ (.int .i64 1)).setCell ⟨w.heap.size,1,none⟩ (.int .i64 (Bd p))).setCell ⟨w.heap.size,2,none⟩ (.string ⟨#[]⟩))):=ak (by
    rw[uh Dc];refine⟨by rw[uh HE],?_⟩;exact(((uh HB).setCell (p:=⟨w.heap.size,0,none⟩) (gu _) (.int .i64 1)).setCell (p:=⟨w.heap.size,1,none⟩) (gu _) (.int .i64 (Bd p))).setCell (p:=⟨w.heap.size,2,none⟩) (gu _) (.string ⟨#[]⟩))
   have Oi:=ak (And.intro (hbx.cell (i:=0) (v:=(.int .i64 1)) rfl) (And.intro (hbx.cell (i:=1) (v:=(.int .i64 (Bd p))) rfl) (hbx.cell (i:=2) (v:=(.string ⟨#[]⟩)) rfl)));clear hbx;clear h1 h2 hh h64 h46 htl h0;go_wp2_with fail;refine(aae p _ hs).mono ?_;rintro e w' ⟨rfl,rfl⟩;go_wp2;obtain⟨f0,f1,f2⟩:=uh Oi;exact bodyPost_ret (v:=.agg #[(.int .i64 1),(.int .i64 (Bd p)),(.string ⟨#[]⟩)]) (by simp[results,Tryz.results51,go_sem,f0,f1,f2]) rfl (uh qx)
theorem jc.Bh {α:Type} {sz uf lo:Nat} {R:Nat->cu->List Value->α->Prop} {w:cu} {v:Value} {xs:List α} (h:jc sz uf R lo w v xs):xs.length<=140737488355328:=by
 obtain⟨_,_,_,_,h,_⟩:=h;exact h
def Vk (k:dw) (t:l9):Bool:=!(decide (20<t.op)&&t.op != 25)&&(t.op != 3||inB (varsOf k) t.name)&&(t.op != 25||decide (0<=t.val/\t.val<(k.gq.length:Int)))
def S9 (k:dw) (code:List l9):Bool:=scM 6000 code&&code.all (Vk k)
def Jq:List Int->Nat->Int->Int->Int×Int
 | [],_,_,_=>(-1,-1)
 | kd::r,j,d,o =>
  if kd=4 then Jq r (j+1) (d+1) o
  else if kd=5 then (if d=1 then (if 0<=o then (-1,-1) else Jq r (j+1) d (j:Int)) else Jq r (j+1) d o)
  else if kd=6 then (if d-1=0 then (o,(j:Int)) else Jq r (j+1) (d-1) o)
  else Jq r (j+1) d o
def uo (ks:List Int) (i:Nat):Int×Int:=Jq (ks.drop i) i 0 (-1)
theorem ald {a b:Int} {p:Int×Int} (h:p=(a,b)):Ending.returned (.tuple #[.int .i64 a,.int .i64 b])=.returned (.tuple #[.int .i64 p.1,.int .i64 p.2]):=by rw[h]
theorem avn (ks:List Int):∀(j:Nat) (d o:Int),0<=(Jq ks j d o).2->((j:Int)<=(Jq ks j d o).2/\(Jq ks j d o).2<(j:Int)+ks.length)/\((Jq ks j d o).1=o\/((j:Int)<=(Jq ks j d o).1/\(Jq ks j d o).1<(Jq ks j d o).2)):=by
 induction ks with
 | nil=>intro j d o h;simp[Jq] at h
 | cons kd r ih =>
  intro j d o h;unfold Jq at h ⊢;simp only[ug]
  split at h<;>rename_i h4
  ·rw[gy h4]
   have:=ih (j+1) (d+1) o h;omega
  ·rw[bf h4]
   split at h<;>rename_i h5
   ·rw[gy h5]
    split at h<;>rename_i hd
    ·rw[gy hd]
     split at h<;>rename_i ho
     ·simp at h
     ·rw[bf ho]
      have:=ih (j+1) d (j:Int) h;omega
    ·rw[bf hd]
     have:=ih (j+1) d o h;omega
   ·rw[bf h5]
    split at h<;>rename_i h6
    ·rw[gy h6]
     split at h<;>rename_i hd
     ·rw[gy hd]
      exact⟨⟨Int.le_refl _,by omega⟩,Or.inl rfl⟩
     ·rw[bf hd]
      have:=ih (j+1) (d-1) o h;omega
    ·rw[bf h6]
     have:=ih (j+1) d o h;omega
theorem ahy (ks:List Int) (i:Nat) (hi:i<ks.length) (h4:ks[i]=4) (h1:0<=(uo ks i).1) (h2:0<=(uo ks i).2):(i:Int)+1<=(uo ks i).1/\(uo ks i).1<(uo ks i).2/\(uo ks i).2<ks.length:=by
 unfold uo at *;rw[List.drop_eq_getElem_cons hi,h4] at h1 h2 ⊢;unfold Jq at h1 h2 ⊢;rw[gy rfl] at h1 h2 ⊢;have:=avn (ks.drop (i+1)) (i+1) (0+1) (-1) h2;rw[Cc] at this;omega
def jm (body:List lu):List Int:=body.map (·.kind)
theorem a2l (ks:List Int) (j:Nat) (hj:j<ks.length) (d o:Int):Jq (ks.drop j) j d o=(if ks[j]=4 then Jq (ks.drop (j+1)) (j+1) (d+1) o
  else if ks[j]=5 then (if d=1 then (if 0<=o then (-1,-1) else Jq (ks.drop (j+1)) (j+1) d (j:Int)) else Jq (ks.drop (j+1)) (j+1) d o)
  else if ks[j]=6 then (if d-1=0 then (o,(j:Int)) else Jq (ks.drop (j+1)) (j+1) (d-1) o)
  else Jq (ks.drop (j+1)) (j+1) d o):=by
 rw[List.drop_eq_getElem_cons hj];rfl
theorem Xy (body:List lu) (j:Nat) (hj:j<body.length):(jm body)[j]'(by unfold jm;simpa using hj)=body[j].kind:=by
 unfold jm;simp
theorem aem (body:List lu) (v:Value) (i:Nat) (w:cu) (hv:jc 6 104 Zq 0 w v body) (hi:i<=body.length) :
  Calls Tryz.prog 85 #[v,.int .i64 (i:Int)] w fun e w'=>e=.returned (.tuple #[.int .i64 (uo (jm body) i).1,.int .i64 (uo (jm body) i).2])/\w'=w:=by
 obtain⟨a,cap,rfl,_,hn,hx⟩:=hv;unfold Len at hn;have HX:=ak hx;have hkl:(jm body).length=body.length:=by unfold jm;simp
 have HR:Hid (uo (jm body) i=Jq ((jm body).drop i) i 0 (-1)):=rfl;generalize uo (jm body) i=R at *
 have HST:=ak (fun j (hj:j<body.length) d o=>by
  have h:=a2l (jm body) j (by rw[hkl];exact hj) d o;rw[Xy body j hj] at h;exact h)
 have bd8:Hid (∀d o,Jq ((jm body).drop body.length) body.length d o=(-1,-1)):=fun d o=>by
  rw[List.drop_of_length_le (by rw[hkl];exact gu _)];rfl
 generalize jm body=ks at *;clear hx hkl;go_enter Tryz.func85,Tryz.ntmps85;go_wp2
 go_loopg [6,7,8] (body.length-i) (fun g dv ov jv wr=>∃(j:Nat) (d o:Int),j<=body.length/\g=body.length-j/\jv=.int .i64 j/\dv=.int .i64 d/\ov=.int .i64 o /\ -(j:Int)<=d/\d<=j /\ -1<=o/\o<=j/\R=Jq (ks.drop j) j d o/\wr=w)
 case atStart=>exact⟨i,0,-1,hi,by omega,rfl,rfl,rfl,by omega,by omega,by omega,by omega,uh HR,rfl⟩
 case round =>
  obtain⟨j,d,o,hj,hg,rfl,rfl,rfl,hd1,hd2,ho1,ho2,hR,Qe⟩:=hrel;obtain rfl:=Qe.symm;have HG:=ak hg;have HRR:=ak hR;clear hg hR
  by_cases hlt:j<body.length
  ·obtain⟨b,o5,cs,Fe,_,hb,hcs,hc,⟨q1,q2,q3,rfl,_⟩⟩:=uh HX j hlt
   subst Fe;have r0:=hc 0 (by simp);simp only[ji,og] at r0;have HS:=ak ((uh HRR).trans (uh HST j hlt d o));have hlt':(j:Int)<(body.length:Int):=by omega
   clear hc hcs;generalize body[j].kind=kd at *
   by_cases h4:kd=4
   ·have y4:(kd==4)=true:=by simp[h4]
    have hS:=uh HS;rw[gy h4] at hS;have HS2:=ak hS;clear hS HS h4;go_wp2
    go_roundg (body.length-(j+1))
    case measure=>have:=uh HG;omega
    case rel=>exact⟨j+1,d+1,o,by omega,rfl,by go_num,rfl,rfl,by omega,by omega,by omega,by omega,uh HS2,rfl⟩
   have y4:(kd==4)=false:=by simp[h4]
   have hS:=uh HS;rw[bf h4] at hS;clear HS h4
   by_cases h5:kd=5
   ·have y5:(kd==5)=true:=by simp[h5]
    rw[gy h5] at hS;clear h5
    by_cases h1:d=1
    ·have e1:(d==1)=true:=by simp[h1]
     rw[gy h1] at hS
     by_cases h0:0<=o
     ·have e2:decide (0<=o)=true:=jf h0
      rw[gy h0] at hS;have HS2:=ak hS;clear hS h1;go_wp2
      go_ret2
      exact⟨ald (uh HS2),rfl⟩
     ·have e2:decide (0<=o)=false:=iy h0
      rw[bf h0] at hS;have HS2:=ak hS;clear hS h1;go_wp2
      go_roundg (body.length-(j+1))
      case measure=>have:=uh HG;omega
      case rel=>exact⟨j+1,d,(j:Int),by omega,rfl,by go_num,rfl,rfl,by omega,by omega,by omega,by omega,uh HS2,rfl⟩
    ·have e1:(d==1)=false:=by simp[h1]
     rw[bf h1] at hS;have HS2:=ak hS;clear hS h1;go_wp2
     go_roundg (body.length-(j+1))
     case measure=>have:=uh HG;omega
     case rel=>exact⟨j+1,d,o,by omega,rfl,by go_num,rfl,rfl,by omega,by omega,by omega,by omega,uh HS2,rfl⟩
   have y5:(kd==5)=false:=by simp[h5]
   rw[bf h5] at hS;clear h5
   by_cases h6:kd=6
   ·have y6:(kd==6)=true:=by simp[h6]
    rw[gy h6] at hS;clear h6
    by_cases h1:d-1=0
    ·have e1:(d-1==0)=true:=by simp[h1]
     rw[gy h1] at hS;have HS2:=ak hS;clear hS h1;go_wp2
     go_ret2
     exact⟨ald (uh HS2),rfl⟩
    ·have e1:(d-1==0)=false:=by simp[h1]
     rw[bf h1] at hS;have HS2:=ak hS;clear hS h1;go_wp2
     go_roundg (body.length-(j+1))
     case measure=>have:=uh HG;omega
     case rel=>exact⟨j+1,d-1,o,by omega,rfl,by go_num,rfl,rfl,by omega,by omega,by omega,by omega,uh HS2,rfl⟩
   ·have y6:(kd==6)=false:=by simp[h6]
    rw[bf h6] at hS;have HS2:=ak hS;clear hS h6;go_wp2
    go_roundg (body.length-(j+1))
    case measure=>have:=uh HG;omega
    case rel=>exact⟨j+1,d,o,by omega,rfl,by go_num,rfl,rfl,by omega,by omega,by omega,by omega,uh HS2,rfl⟩
  ·have e:j=body.length:=by omega
   subst e;have HE:=ak ((uh HRR).trans (uh bd8 d o));go_wp2
   go_ret2
   exact⟨ald (uh HE),rfl⟩
def wz {α:Type} (ks:List α) (p q:Nat):List α:=(ks.drop p).take (q-p)
theorem Rj {α:Type} (ks:List α) (p q:Nat) (h1:p<=q) (h2:q<=ks.length):(wz ks p q).length=q-p:=by
 unfold wz;rw[Nk,Cc];omega
theorem aek {α β:Type} (f:α->β) (ks:List α) (p q:Nat):(wz ks p q).map f=wz (ks.map f) p q:=by
 unfold wz;rw[List.map_take,List.map_drop]
theorem jc.sub {α:Type} {sz uf:Nat} {R:Nat->cu->List Value->α->Prop} {w:cu} {b o n c:Nat} {xs:List α} (h:jc sz uf R 0 w (.slice (some ⟨b,o,none⟩) n c) xs) (p q:Nat) (hp:p<=q) (hq:q<=xs.length) :
  jc sz uf R 0 w (.slice (some ⟨b,o+p*sz,none⟩) (q-p) (c-p)) (wz xs p q):=by
 obtain⟨a',c',hv,⟨h1,h2⟩,h3,hx⟩:=h;simp only[qw] at hv;obtain⟨rfl,_,rfl⟩:=hv;have hl:=Rj xs p q hp hq;have hm:(q-p)*uf<=xs.length*uf:=Nat.mul_le_mul_right _ (by omega);refine⟨_,c-p,by rw[hl],⟨by rw[hl];unfold Len at *;omega,by omega⟩,by rw[hl];unfold Len at *;omega,fun i hi=>?_⟩;obtain⟨b',o',cs,r1,r2,r3,r4,r5,r6⟩:=hx (p+i) (by omega);simp only[uw,Addr.mk.injEq] at r1;obtain⟨rfl,rfl,_⟩:=r1;refine⟨b,o+p*sz,cs,rfl,r2,r3,r4,fun j hj=>?_,?_⟩
 ·rw[←r5 j hj]
  congr 2;rw[Nat.add_mul];omega
 ·have e:(wz xs p q)[i]=xs[p+i]:=by simp[wz]
  rw[e];exact r6
def Rz (rec:List Int->Int->Bool) (ks:List Int) (depth:Int):Nat->Nat->Bool
 | 0,_=>true
 | f+1,i=>match ks[i]? with
  | none=>true
  | some kd =>
   if kd=5\/kd=6 then false
   else if kd=4 then
    (if (uo ks i).1<0\/(uo ks i).2<0 then false
    else if ((i:Int)+1<(uo ks i).1\/(uo ks i).1+1<(uo ks i).2)/\20<depth+1 then false
    else if rec (wz ks (i+1) (uo ks i).1.toNat) (depth+1)=false then false
    else if rec (wz ks ((uo ks i).1.toNat+1) (uo ks i).2.toNat) (depth+1)=false then false
    else Rz rec ks depth f ((uo ks i).2.toNat+1))
   else Rz rec ks depth f (i+1)
def Em:Nat->List Int->Int->Bool
 | 0,_,_=>true
 | f+1,ks,d=>Rz (Em f) ks d (ks.length+1) 0
theorem Yz (rec:List Int->Int->Bool) (ks:List Int) (depth:Int) (f i:Nat) (hi:i<ks.length):Rz rec ks depth (f+1) i=(if ks[i]=5\/ks[i]=6 then false
   else if ks[i]=4 then
    (if (uo ks i).1<0\/(uo ks i).2<0 then false
    else if ((i:Int)+1<(uo ks i).1\/(uo ks i).1+1<(uo ks i).2)/\20<depth+1 then false
    else if rec (wz ks (i+1) (uo ks i).1.toNat) (depth+1)=false then false
    else if rec (wz ks ((uo ks i).1.toNat+1) (uo ks i).2.toNat) (depth+1)=false then false
    else Rz rec ks depth f ((uo ks i).2.toNat+1))
   else Rz rec ks depth f (i+1)):=by
 rw[Rz,jy hi]
theorem alr (rec:List Int->Int->Bool) (ks:List Int) (depth:Int) (f:Nat):Rz rec ks depth f ks.length=true:=by
 cases f with
 | zero=>rfl
 | succ f =>
  rw[Rz,List.getElem?_eq_none (gu _)]
theorem ap4:∀(f:Nat) (body:List lu) (v:Value) (depth:Int) (w:cu),jc 6 104 Zq 0 w v body->body.length<f->0<=depth->depth+body.length<=281474976710656 ->
  Calls Tryz.prog 84 #[v,.int .i64 depth] w fun e w'=>e=.returned (.bool (Em f (jm body) depth))/\w'=w:=by
 intro f
 induction f with
 | zero=>intro body v depth w _ h;omega
 | succ f ih =>
  intro body v depth w hv hlf hd0 hd1;have HPT:=ak (fun i (hi:i<=body.length)=>aem body v i w hv hi);have HV:=ak hv;obtain⟨a,cap,rfl,⟨_,hcap⟩,hn,hx⟩:=hv;unfold Len at hn;have HX:=ak hx;have hkl:(jm body).length=body.length:=by unfold jm;simp
  have HR:Hid (Em (f+1) (jm body) depth=Rz (Em f) (jm body) depth (body.length+1) 0):=by
   show Em (f+1) (jm body) depth=_;rw[Em,hkl]
  have HK:=ak (fun j (hj:j<body.length)=>Xy body j hj)
  have HST:=ak (fun g i (hi:i<body.length)=>by
   have h:=Yz (Em f) (jm body) depth g i (by rw[hkl];exact hi);rw[uh HK i hi] at h;exact h)
  have Wv:Hid (∀g,Rz (Em f) (jm body) depth g body.length=true):=fun g=>by
   have:=alr (Em f) (jm body) depth g;rw[hkl] at this;exact this
  have HPB:=ak (fun i (hi:i<body.length) (h4:body[i].kind=4) h1 h2=>by
   have h:=ahy (jm body) i (by rw[hkl];exact hi) (by rw[uh HK i hi];exact h4) h1 h2;rw[hkl] at h;exact h)
  have HIH:Hid (∀p q b o,a=some ⟨b,o,none⟩->p<=q->q<=body.length->0<p->Calls Tryz.prog 84 #[.slice (some ⟨b,o+p*6,none⟩) (q-p) (cap-p),.int .i64 (depth+1)] w fun e w'=>e=.returned (.bool (Em f (wz (jm body) p q) (depth+1)))/\w'=w):=fun p q b o ha hp hq h0=>by
   subst ha;have hs:=(uh HV).sub p q hp hq;have hl:=Rj body p q hp hq;have h:=ih (wz body p q) _ (depth+1) w hs (by omega) (by omega) (by omega);have e:jm (wz body p q)=wz (jm body) p q:=aek _ _ _ _;rw[e] at h;exact h
  clear hx hkl ih HV HK;generalize Em (f+1) (jm body) depth=R at *;generalize jm body=ks at *;go_enter Tryz.func84,Tryz.ntmps84;go_wp2
  go_loopg [5] (body.length) (fun g iv wr=>∃(i fu:Nat),i<=body.length/\g=body.length-i/\iv=.int .i64 i/\body.length<fu+i/\R=Rz (Em f) ks depth fu i/\wr=w)
  case atStart=>exact⟨0,body.length+1,jg _,by omega,rfl,by omega,uh HR,rfl⟩
  case round =>
   obtain⟨i,fu,hi,hg,rfl,hfu,hR,Qe⟩:=hrel;obtain rfl:=Qe.symm;have HG:=ak hg;have HRR:=ak hR;clear hg hR
   by_cases hlt:i<body.length
   ·obtain⟨b,o,cs,Fe,_,hb,hcs,hc,⟨q1,q2,q3,rfl,_⟩⟩:=uh HX i hlt
    have HAB:=ak Fe;have r0:=hc 0 (by simp);simp only[ji,og] at r0;obtain⟨Ru,rfl⟩:∃Ru,fu=Ru+1:=⟨fu-1,by omega⟩;have HS:=ak ((uh HRR).trans (uh HST Ru i hlt));have afu:=ak (uh HPB i hlt);have Ns:=ak (uh HPT i hi);have HI2:=ak (fun p q=>uh HIH p q b o (uh HAB));subst Fe;have hlt':(i:Int)<(body.length:Int):=by omega
    clear hc hcs HRR;generalize body[i].kind=kd at *
    by_cases Y0:kd=5\/kd=6
    ·have hS:=uh HS
     rw[gy Y0] at hS;have HF:=ak hS;clear hS HS afu Ns HI2;rcases Y0 with rfl|rfl
     all_goals
      go_wp2;go_ret;exact⟨by rw[uh HF];rfl,rfl⟩
    have y5:(kd==5)=false:=by rw[su];omega
    have y6:(kd==6)=false:=by rw[su];omega
    have hS:=uh HS;rw[bf Y0] at hS
    by_cases h4:kd=4
    case neg =>
     rw[bf h4] at hS;have HF:=ak hS;have y4:(kd==4)=false:=by rw[su];omega
     clear hS HS Y0 h4 afu Ns HI2;go_wp2
     go_roundg (body.length-(i+1))
     case measure=>have:=uh HG;omega
     case rel=>exact⟨i+1,Ru,by omega,rfl,by go_num,by omega,uh HF,rfl⟩
    rw[gy h4] at hS;have y4:(kd==4)=true:=by simp[h4]
    have afv:=ak (uh afu h4);have Ac:=ak hS;clear hS HS afu Y0 h4;generalize uo ks i=pp at *;obtain⟨po,pe⟩:=pp;simp only at Ac afv Ns
    by_cases hneg:po<0\/pe<0
    ·have hS:=uh Ac
     rw[gy hneg] at hS;have HF:=ak hS;clear hS Ac afv HI2
     by_cases hp0:po<0
     ·have e1:decide (po<0)=true:=jf hp0
      go_wp2_with fail;refine(uh Ns).mono ?_;rintro e w9 ⟨rfl,h9⟩;obtain rfl:=h9.symm;go_wp2;go_ret;exact⟨by rw[uh HF];rfl,rfl⟩
     ·have e1:decide (po<0)=false:=iy hp0
      have e2:decide (pe<0)=true:=jf (by omega);go_wp2_with fail;refine(uh Ns).mono ?_;rintro e w9 ⟨rfl,h9⟩;obtain rfl:=h9.symm;go_wp2;go_ret;exact⟨by rw[uh HF];rfl,rfl⟩
    have hpb:=uh afv (by omega) (by omega);obtain⟨pn,rfl⟩:=Ht (show 0<=po by omega);obtain⟨en,rfl⟩:=Ht (show 0<=pe by omega);have hS:=uh Ac;rw[bf hneg] at hS;simp only[Ed] at hS;have e1:decide ((pn:Int)<0)=false:=by rw[Nh];omega
    have e2:decide ((en:Int)<0)=false:=by rw[Nh];omega
    have Ap:=ak (uh HI2 (i+1) pn (by omega) (by omega) (by omega));have HC2:=ak (uh HI2 (pn+1) en (by omega) (by omega) (by omega));have g1:(0:Int)<=(i:Int)+1:=by omega
    have g2:(i:Int)+1<=(pn:Int):=by omega
    have g3:(pn:Int)<=(cap:Int):=by omega
    have g4:(0:Int)<=(pn:Int)+1:=by omega
    have g5:(pn:Int)+1<=(en:Int):=by omega
    have g6:(en:Int)<=(cap:Int):=by omega
    have hnb:i+1<=pn/\pn+1<=en/\en<body.length:=by omega
    clear afv HI2 hneg Ac hpb;generalize Em f (wz ks (i+1) pn) (depth+1)=v1 at *;generalize Em f (wz ks (pn+1) en) (depth+1)=v2 at *
    by_cases hin1:(i:Int)+1<(pn:Int)
    ·have i1:decide ((i:Int)+1<(pn:Int))=true:=jf hin1
     by_cases hdd:20<depth+1
     ·have f1:decide (20<depth+1)=true:=jf hdd
      rw[gy ⟨Or.inl hin1,hdd⟩] at hS;have HF:=ak hS;clear hS Ap HC2;go_wp2_with fail;refine(uh Ns).mono ?_;rintro e w9 ⟨rfl,h9⟩;obtain rfl:=h9.symm;go_wp2;go_ret;exact⟨by rw[uh HF];rfl,rfl⟩
     ·have f1:decide (20<depth+1)=false:=iy hdd
      rw[bf (fun h=>hdd h.2)] at hS
      cases v1
      ·rw[gy rfl] at hS
       have HF:=ak hS;clear hS HC2;go_wp2_with fail;refine(uh Ns).mono ?_;rintro e w9 ⟨rfl,h9⟩;obtain rfl:=h9.symm;go_wp2_with fail;refine(uh Ap).mono ?_;rintro e w8 ⟨rfl,h8⟩;obtain rfl:=h8.symm;go_wp2;go_ret;exact⟨by rw[uh HF];rfl,rfl⟩
      rw[bf (by simp)] at hS
      cases v2
      ·rw[gy rfl] at hS
       have HF:=ak hS;clear hS;go_wp2_with fail;refine(uh Ns).mono ?_;rintro e w9 ⟨rfl,h9⟩;obtain rfl:=h9.symm;go_wp2_with fail;refine(uh Ap).mono ?_;rintro e w8 ⟨rfl,h8⟩;obtain rfl:=h8.symm;go_wp2_with fail;refine(uh HC2).mono ?_;rintro e w7 ⟨rfl,h7⟩;obtain rfl:=h7.symm;go_wp2;go_ret;exact⟨by rw[uh HF];rfl,rfl⟩
      ·rw[bf (by simp)] at hS
       have HF:=ak hS;clear hS;go_wp2_with fail;refine(uh Ns).mono ?_;rintro e w9 ⟨rfl,h9⟩;obtain rfl:=h9.symm;go_wp2_with fail;refine(uh Ap).mono ?_;rintro e w8 ⟨rfl,h8⟩;obtain rfl:=h8.symm;go_wp2_with fail;refine(uh HC2).mono ?_;rintro e w7 ⟨rfl,h7⟩;obtain rfl:=h7.symm;go_wp2
       go_roundg (body.length-(en+1))
       case measure=>have:=uh HG;omega
       case rel=>exact⟨en+1,Ru,by omega,rfl,by go_num,by omega,uh HF,rfl⟩
    have i1:decide ((i:Int)+1<(pn:Int))=false:=iy hin1
    by_cases hin2:(pn:Int)+1<(en:Int)
    ·have i2:decide ((pn:Int)+1<(en:Int))=true:=jf hin2
     by_cases hdd:20<depth+1
     ·have f1:decide (20<depth+1)=true:=jf hdd
      rw[gy ⟨Or.inr hin2,hdd⟩] at hS;have HF:=ak hS;clear hS Ap HC2;go_wp2_with fail;refine(uh Ns).mono ?_;rintro e w9 ⟨rfl,h9⟩;obtain rfl:=h9.symm;go_wp2;go_ret;exact⟨by rw[uh HF];rfl,rfl⟩
     ·have f1:decide (20<depth+1)=false:=iy hdd
      rw[bf (fun h=>hdd h.2)] at hS
      cases v1
      ·rw[gy rfl] at hS
       have HF:=ak hS;clear hS HC2;go_wp2_with fail;refine(uh Ns).mono ?_;rintro e w9 ⟨rfl,h9⟩;obtain rfl:=h9.symm;go_wp2_with fail;refine(uh Ap).mono ?_;rintro e w8 ⟨rfl,h8⟩;obtain rfl:=h8.symm;go_wp2;go_ret;exact⟨by rw[uh HF];rfl,rfl⟩
      rw[bf (by simp)] at hS
      cases v2
      ·rw[gy rfl] at hS
       have HF:=ak hS;clear hS;go_wp2_with fail;refine(uh Ns).mono ?_;rintro e w9 ⟨rfl,h9⟩;obtain rfl:=h9.symm;go_wp2_with fail;refine(uh Ap).mono ?_;rintro e w8 ⟨rfl,h8⟩;obtain rfl:=h8.symm;go_wp2_with fail;refine(uh HC2).mono ?_;rintro e w7 ⟨rfl,h7⟩;obtain rfl:=h7.symm;go_wp2;go_ret;exact⟨by rw[uh HF];rfl,rfl⟩
      ·rw[bf (by simp)] at hS
       have HF:=ak hS;clear hS;go_wp2_with fail;refine(uh Ns).mono ?_;rintro e w9 ⟨rfl,h9⟩;obtain rfl:=h9.symm;go_wp2_with fail;refine(uh Ap).mono ?_;rintro e w8 ⟨rfl,h8⟩;obtain rfl:=h8.symm;go_wp2_with fail;refine(uh HC2).mono ?_;rintro e w7 ⟨rfl,h7⟩;obtain rfl:=h7.symm;go_wp2
       go_roundg (body.length-(en+1))
       case measure=>have:=uh HG;omega
       case rel=>exact⟨en+1,Ru,by omega,rfl,by go_num,by omega,uh HF,rfl⟩
    ·have i2:decide ((pn:Int)+1<(en:Int))=false:=iy hin2
     rw[bf (by rintro⟨h|h,_⟩;exact hin1 h;exact hin2 h)] at hS
     cases v1
     ·rw[gy rfl] at hS
      have HF:=ak hS;clear hS HC2;go_wp2_with fail;refine(uh Ns).mono ?_;rintro e w9 ⟨rfl,h9⟩;obtain rfl:=h9.symm;go_wp2_with fail;refine(uh Ap).mono ?_;rintro e w8 ⟨rfl,h8⟩;obtain rfl:=h8.symm;go_wp2;go_ret;exact⟨by rw[uh HF];rfl,rfl⟩
     rw[bf (by simp)] at hS
     cases v2
     ·rw[gy rfl] at hS
      have HF:=ak hS;clear hS;go_wp2_with fail;refine(uh Ns).mono ?_;rintro e w9 ⟨rfl,h9⟩;obtain rfl:=h9.symm;go_wp2_with fail;refine(uh Ap).mono ?_;rintro e w8 ⟨rfl,h8⟩;obtain rfl:=h8.symm;go_wp2_with fail;refine(uh HC2).mono ?_;rintro e w7 ⟨rfl,h7⟩;obtain rfl:=h7.symm;go_wp2;go_ret;exact⟨by rw[uh HF];rfl,rfl⟩
     ·rw[bf (by simp)] at hS
      have HF:=ak hS;clear hS;go_wp2_with fail;refine(uh Ns).mono ?_;rintro e w9 ⟨rfl,h9⟩;obtain rfl:=h9.symm;go_wp2_with fail;refine(uh Ap).mono ?_;rintro e w8 ⟨rfl,h8⟩;obtain rfl:=h8.symm;go_wp2_with fail;refine(uh HC2).mono ?_;rintro e w7 ⟨rfl,h7⟩;obtain rfl:=h7.symm;go_wp2
      go_roundg (body.length-(en+1))
      case measure=>have:=uh HG;omega
      case rel=>exact⟨en+1,Ru,by omega,rfl,by go_num,by omega,uh HF,rfl⟩
   ·have e:i=body.length:=by omega
    subst e;have HE:=ak ((uh HRR).trans (uh Wv fu));go_wp2;go_ret;exact⟨by rw[uh HE];rfl,rfl⟩
end Go.Proofs.YtfeejeflmcapoaaGreatDoor
