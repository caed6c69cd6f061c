import Derived.Deep.RegionHeld3
import Derived.Test.YtfeejeflmcapoaaGreatDoorRT1
import Derived.Test.YtfeejeflmcapoaaGreatDoorRT2
import Derived.Test.YtfeejeflmcapoaaGreatDoorMXA
import Derived.Test.YtfeejeflmcapoaaGreatDoorRRd
set_option linter.unusedSimpArgs false
set_option linter.unusedVariables false
set_option maxHeartbeats 8000000
namespace Go.Proofs.YtfeejeflmcapoaaGreatDoor
open Go.RowKit
theorem afj (xs:List dh) (v:Value) (l:Lf) (K:Int) (k r lo hi:Nat) (w w0:cu) (hbw:Below w.heap.size w w0) (hK:K=(k:Int)) (hr:k+l.length=r) (hrb:r<=1000000000) (hv:Lc 1 ae0 lo hi w v xs l) (hH:Held k l w) (hhi:hi<=w.heap.size) :
  Calls Tryz.prog 47 #[v,.int .i64 K] w0 (fun e w'=>e=.returned (.int .i64 (r:Int))/\Hid (Below w.heap.size w w')):=by
 subst hK;obtain⟨a,cap,lss,rfl,hn,hls,hfl,hx⟩:=hv;unfold Len at hn;have HX:=ak hx;have Ib:=ak hfl;have Eo:=ak hls;have Hy:=ak hhi;have HR:=ak hr;have Jb:=ak hrb;have HHD:=ak hH;have Bc:=ak hbw;clear hx hhi hr hrb hfl hls hH hbw;go_enter Tryz.func47,Tryz.ntmps47;go_wp2
 go_loopg [1,5] xs.length (fun g kk i wr=>∃(q kq:Nat),q<=xs.length/\g=xs.length-q/\i=.int .i64 q/\kk=.int .i64 (kq:Int)/\Hid (k+(lss.take q).flatten.length=kq)/\Hid (Below w.heap.size w wr))
 case atStart=>exact⟨0,k,jg _,by omega,rfl,rfl,by simp[Hid],Bc⟩
 case round =>
  obtain⟨q,kq,hq,hg,rfl,rfl,Dp,Ae⟩:=hrel;have HG:=ak hg;clear hg
  by_cases hlt:q<xs.length
  ·have hlq:q<lss.length:=by rw[uh Eo];exact hlt
   obtain⟨b,o,rfl,hel⟩:=uh HX q hlt hlq
   have hst:k+(lss.take (q+1)).flatten.length=kq+lss[q].length:=by
    rw[Dt _ _ hlq,jh,←uh Dp];omega
   have hkb:kq+lss[q].length<=1000000000:=by
    have h1:=Oz lss (q+1);have h2:=uh HR;have h3:=uh Jb;rw[uh Ib] at h2;omega
   have HH:Held kq lss[q] w:=by
    have h1:=uh HHD;rw[uh Ib] at h1;exact aac h1 hlq (uh Dp)
   generalize lss[q]=lq at hel hst hkb HH;generalize xs[q]=x at hel;obtain⟨hlo,zh,cs,hcs,hc,⟨s0,rfl⟩,hll⟩:=hel;have hlen:lq.length=1:=by simp[hll]<;>omega
   rw[hlen] at hst hkb;rw[hll] at HH;have HST:=ak hst;clear hst hll hlen;have HA:=HH
   have Xp:Hid (∀w',Below w.heap.size w w'->w'.cell? ⟨b,o+q,none⟩=some (.string (Gy (kq+0)))):=by
    refine ak (fun w' hb=>(hb.cell (p:=⟨b,_,none⟩) (qg zh (uh Hy))).trans ?_);have h9:=HA 0 (by simp);simp only[og,ou,mkV,jr,ji] at h9;simpa using h9
   clear HH hc hcs zh hlo HA;have c0:=uh Xp wr (uh Ae)
   have HT1:Hid (Calls Tryz.prog 41 #[.int .i64 ((kq:Int))] wr.drew fun e w'=>e=.returned (.string (Gy (kq+0)))/\Hid (Below w.heap.size w w')/\w'.cell? ⟨b,o+q,none⟩=some (.string (Gy (kq+0)))):=by
    refine ak ((Ls _ (kq+0) _ (by omega) (by omega)).mono ?_);rintro e w' ⟨rfl,hb⟩;have yx:Below w.heap.size w w':=(uh Ae).drew.trans (hb.mono (uh Ae).size);exact⟨rfl,yx,uh Xp w' yx⟩
   go_wp2_with fail
   go_region_held3 (fun w'=>w'.cell? ⟨b,o+q,none⟩=some (.string (Gy (kq+0)))) (go_keep) (first|(go_at_call 41;refine(uh HT1).mono ?_;rintro e w1 ⟨rfl,HB1,d0⟩))
   clear d0;clear c0;go_wp2
   go_roundg (xs.length-(q+1))
   case measure=>have:=uh HG;omega
   case rel=>exact⟨q+1,kq+1,by omega,rfl,by go_num,by go_num,(by refine ak ?_;have:=uh HST;omega),HB1⟩
  ·have e:q=xs.length:=by omega
   have Ld:lss.length<=q:=by rw[uh Eo];omega
   have hfa:=Md lss q Ld;rw[hfa,←uh Ib] at Dp
   have HE:Hid (kq=r):=by
    refine ak ?_;rw[←uh Dp,←uh HR]
   clear e Ld hfa;go_wp2;go_ret;exact⟨(by rw[uh HE];rfl),Ae⟩
theorem ajt (xs:List Int) (v:Value) (l:Lf) (K:Int) (k r lo hi:Nat) (w w0:cu) (hbw:Below w.heap.size w w0) (hK:K=(k:Int)) (hr:k+l.length=r) (hrb:r<=1000000000) (hv:Lc 1 ae1 lo hi w v xs l) (hH:Held k l w) (hhi:hi<=w.heap.size) :
  Calls Tryz.prog 48 #[v,.int .i64 K] w0 (fun e w'=>e=.returned (.int .i64 (r:Int))/\Hid (Below w.heap.size w w')):=by
 subst hK;obtain⟨a,cap,lss,rfl,hn,hls,hfl,hx⟩:=hv;unfold Len at hn;have HX:=ak hx;have Ib:=ak hfl;have Eo:=ak hls;have Hy:=ak hhi;have HR:=ak hr;have Jb:=ak hrb;have HHD:=ak hH;have Bc:=ak hbw;clear hx hhi hr hrb hfl hls hH hbw;go_enter Tryz.func48,Tryz.ntmps48;go_wp2
 go_loopg [1,5] xs.length (fun g kk i wr=>∃(q kq:Nat),q<=xs.length/\g=xs.length-q/\i=.int .i64 q/\kk=.int .i64 (kq:Int)/\Hid (k+(lss.take q).flatten.length=kq)/\Hid (Below w.heap.size w wr))
 case atStart=>exact⟨0,k,jg _,by omega,rfl,rfl,by simp[Hid],Bc⟩
 case round =>
  obtain⟨q,kq,hq,hg,rfl,rfl,Dp,Ae⟩:=hrel;have HG:=ak hg;clear hg
  by_cases hlt:q<xs.length
  ·have hlq:q<lss.length:=by rw[uh Eo];exact hlt
   obtain⟨b,o,rfl,hel⟩:=uh HX q hlt hlq
   have hst:k+(lss.take (q+1)).flatten.length=kq+lss[q].length:=by
    rw[Dt _ _ hlq,jh,←uh Dp];omega
   have hkb:kq+lss[q].length<=1000000000:=by
    have h1:=Oz lss (q+1);have h2:=uh HR;have h3:=uh Jb;rw[uh Ib] at h2;omega
   have HH:Held kq lss[q] w:=by
    have h1:=uh HHD;rw[uh Ib] at h1;exact aac h1 hlq (uh Dp)
   generalize lss[q]=lq at hel hst hkb HH;generalize xs[q]=x at hel;obtain⟨hlo,zh,cs,hcs,hc,⟨s0,rfl⟩,hll⟩:=hel;have hlen:lq.length=1:=by simp[hll]<;>omega
   rw[hlen] at hst hkb;rw[hll] at HH;have HST:=ak hst;clear hst hll hlen;have HA:=HH
   have Xp:Hid (∀w',Below w.heap.size w w'->w'.cell? ⟨b,o+q,none⟩=some (.int .i64 ((kq:Int)))):=by
    refine ak (fun w' hb=>(hb.cell (p:=⟨b,_,none⟩) (qg zh (uh Hy))).trans ?_);have h9:=HA 0 (by simp);simp only[og,ou,mkV,jr,ji] at h9;simpa[Int.add_assoc] using h9
   clear HH hc hcs zh hlo HA;have c0:=uh Xp wr (uh Ae);go_wp2
   go_roundg (xs.length-(q+1))
   case measure=>have:=uh HG;omega
   case rel=>exact⟨q+1,kq+1,by omega,rfl,by go_num,by go_num,(by refine ak ?_;have:=uh HST;omega),Ae⟩
  ·have e:q=xs.length:=by omega
   have Ld:lss.length<=q:=by rw[uh Eo];omega
   have hfa:=Md lss q Ld;rw[hfa,←uh Ib] at Dp
   have HE:Hid (kq=r):=by
    refine ak ?_;rw[←uh Dp,←uh HR]
   clear e Ld hfa;go_wp2;go_ret;exact⟨(by rw[uh HE];rfl),Ae⟩
theorem ahm (xs:List l9) (v:Value) (l:Lf) (K:Int) (k r lo hi:Nat) (w w0:cu) (hbw:Below w.heap.size w w0) (hK:K=(k:Int)) (hr:k+l.length=r) (hrb:r<=1000000000) (hv:Lc 3 abg lo hi w v xs l) (hH:Held k l w) (hhi:hi<=w.heap.size) :
  Calls Tryz.prog 77 #[v,.int .i64 K] w0 (fun e w'=>e=.returned (.int .i64 (r:Int))/\Hid (Below w.heap.size w w')):=by
 subst hK;obtain⟨a,cap,lss,rfl,hn,hls,hfl,hx⟩:=hv;unfold Len at hn;have HX:=ak hx;have Ib:=ak hfl;have Eo:=ak hls;have Hy:=ak hhi;have HR:=ak hr;have Jb:=ak hrb;have HHD:=ak hH;have Bc:=ak hbw;clear hx hhi hr hrb hfl hls hH hbw;go_enter Tryz.func77,Tryz.ntmps77;go_wp2
 go_loopg [1,5] xs.length (fun g kk i wr=>∃(q kq:Nat),q<=xs.length/\g=xs.length-q/\i=.int .i64 q/\kk=.int .i64 (kq:Int)/\Hid (k+(lss.take q).flatten.length=kq)/\Hid (Below w.heap.size w wr))
 case atStart=>exact⟨0,k,jg _,by omega,rfl,rfl,by simp[Hid],Bc⟩
 case round =>
  obtain⟨q,kq,hq,hg,rfl,rfl,Dp,Ae⟩:=hrel;have HG:=ak hg;clear hg
  by_cases hlt:q<xs.length
  ·have hlq:q<lss.length:=by rw[uh Eo];exact hlt
   obtain⟨b,o,rfl,hel⟩:=uh HX q hlt hlq
   have hst:k+(lss.take (q+1)).flatten.length=kq+lss[q].length:=by
    rw[Dt _ _ hlq,jh,←uh Dp];omega
   have hkb:kq+lss[q].length<=1000000000:=by
    have h1:=Oz lss (q+1);have h2:=uh HR;have h3:=uh Jb;rw[uh Ib] at h2;omega
   have HH:Held kq lss[q] w:=by
    have h1:=uh HHD;rw[uh Ib] at h1;exact aac h1 hlq (uh Dp)
   generalize lss[q]=lq at hel hst hkb HH;generalize xs[q]=x at hel;obtain⟨hlo,zh,cs,hcs,hc,⟨s0,s1,s2,rfl⟩,hll⟩:=hel;have hlen:lq.length=3:=by simp[hll]<;>omega
   rw[hlen] at hst hkb;rw[hll] at HH;have HST:=ak hst;clear hst hll hlen;have HA:=HH
   have Xp:Hid (∀w',Below w.heap.size w w'->w'.cell? ⟨b,o+q*3,none⟩=some (.int .i64 ((kq:Int)))):=by
    refine ak (fun w' hb=>(hb.cell (p:=⟨b,_,none⟩) (qg zh (uh Hy))).trans ?_);have h9:=HA 0 (by simp);simp only[og,ou,mkV,jr,ji] at h9;simpa[Int.add_assoc] using h9
   have Ap:Hid (∀w',Below w.heap.size w w'->w'.cell? ⟨b,o+q*3+1,none⟩=some (.int .i64 ((kq:Int)+1))):=by
    refine ak (fun w' hb=>(hb.cell (p:=⟨b,_,none⟩) (qg zh (uh Hy))).trans ?_);have h9:=HA 1 (by simp);simp only[og,ou,mkV,jr,ji] at h9;simpa[Int.add_assoc] using h9
   have HC2:Hid (∀w',Below w.heap.size w w'->w'.cell? ⟨b,o+q*3+2,none⟩=some (.string (Gy (kq+2)))):=by
    refine ak (fun w' hb=>(hb.cell (p:=⟨b,_,none⟩) (qg zh (uh Hy))).trans ?_);have h9:=HA 2 (by simp);simp only[og,ou,mkV,jr,ji] at h9;simpa using h9
   clear HH hc hcs zh hlo HA;have c0:=uh Xp wr (uh Ae);have c1:=uh Ap wr (uh Ae);have c2:=uh HC2 wr (uh Ae)
   have HT1:Hid (Calls Tryz.prog 41 #[.int .i64 ((kq:Int)+1+1)] wr.drew fun e w'=>e=.returned (.string (Gy (kq+2)))/\Hid (Below w.heap.size w w')/\w'.cell? ⟨b,o+q*3+2,none⟩=some (.string (Gy (kq+2)))):=by
    refine ak ((Ls _ (kq+2) _ (by omega) (by omega)).mono ?_);rintro e w' ⟨rfl,hb⟩;have yx:Below w.heap.size w w':=(uh Ae).drew.trans (hb.mono (uh Ae).size);exact⟨rfl,yx,uh HC2 w' yx⟩
   go_wp2_with fail
   go_region_held3 (fun w'=>w'.cell? ⟨b,o+q*3+2,none⟩=some (.string (Gy (kq+2)))) (go_keep) (first|(go_at_call 41;refine(uh HT1).mono ?_;rintro e w1 ⟨rfl,HB1,d2⟩))
   clear d2;clear c0 c1 c2;go_wp2
   go_roundg (xs.length-(q+1))
   case measure=>have:=uh HG;omega
   case rel=>exact⟨q+1,kq+3,by omega,rfl,by go_num,by go_num,(by refine ak ?_;have:=uh HST;omega),HB1⟩
  ·have e:q=xs.length:=by omega
   have Ld:lss.length<=q:=by rw[uh Eo];omega
   have hfa:=Md lss q Ld;rw[hfa,←uh Ib] at Dp
   have HE:Hid (kq=r):=by
    refine ak ?_;rw[←uh Dp,←uh HR]
   clear e Ld hfa;go_wp2;go_ret;exact⟨(by rw[uh HE];rfl),Ae⟩
theorem aoo (xs:List (List l9)) (v:Value) (l:Lf) (K:Int) (k r lo hi:Nat) (w w0:cu) (hbw:Below w.heap.size w w0) (hK:K=(k:Int)) (hr:k+l.length=r) (hrb:r<=1000000000) (hv:Lc 1 abx lo hi w v xs l) (hH:Held k l w) (hhi:hi<=w.heap.size) :
  Calls Tryz.prog 78 #[v,.int .i64 K] w0 (fun e w'=>e=.returned (.int .i64 (r:Int))/\Hid (Below w.heap.size w w')):=by
 subst hK;obtain⟨a,cap,lss,rfl,hn,hls,hfl,hx⟩:=hv;unfold Len at hn;have HX:=ak hx;have Ib:=ak hfl;have Eo:=ak hls;have Hy:=ak hhi;have HR:=ak hr;have Jb:=ak hrb;have HHD:=ak hH;have Bc:=ak hbw;clear hx hhi hr hrb hfl hls hH hbw;go_enter Tryz.func78,Tryz.ntmps78;go_wp2
 go_loopg [1,5] xs.length (fun g kk i wr=>∃(q kq:Nat),q<=xs.length/\g=xs.length-q/\i=.int .i64 q/\kk=.int .i64 (kq:Int)/\Hid (k+(lss.take q).flatten.length=kq)/\Hid (Below w.heap.size w wr))
 case atStart=>exact⟨0,k,jg _,by omega,rfl,rfl,by simp[Hid],Bc⟩
 case round =>
  obtain⟨q,kq,hq,hg,rfl,rfl,Dp,Ae⟩:=hrel;have HG:=ak hg;clear hg
  by_cases hlt:q<xs.length
  ·have hlq:q<lss.length:=by rw[uh Eo];exact hlt
   obtain⟨b,o,rfl,hel⟩:=uh HX q hlt hlq
   have hst:k+(lss.take (q+1)).flatten.length=kq+lss[q].length:=by
    rw[Dt _ _ hlq,jh,←uh Dp];omega
   have hkb:kq+lss[q].length<=1000000000:=by
    have h1:=Oz lss (q+1);have h2:=uh HR;have h3:=uh Jb;rw[uh Ib] at h2;omega
   have HH:Held kq lss[q] w:=by
    have h1:=uh HHD;rw[uh Ib] at h1;exact aac h1 hlq (uh Dp)
   generalize lss[q]=lq at hel hst hkb HH;generalize xs[q]=x at hel;obtain⟨hlo,zh,cs,hcs,hc,v0,l0,rfl,g0,hll⟩:=hel;obtain⟨sa0,sc0,rfl⟩:=g0.shape;have G0:=ak g0;have hlen:lq.length=l0.length:=by simp[hll]<;>omega
   rw[hlen] at hst hkb;rw[hll] at HH;have HST:=ak hst;clear hst hll hlen g0;have HJ0:=ak HH;have a0h:=(hc 0 (by simp)).1;simp only[jr,ji,og,ou] at a0h;have Xp:Hid (∀w',Below w.heap.size w w'->w'.cell? ⟨b,o+q,none⟩=some (.slice sa0 (x).length sc0)):=ak (fun w' hb=>(hb.cell (p:=⟨b,_,none⟩) (qg zh (uh Hy))).trans a0h);clear a0h;clear HH hc hcs zh hlo;have c0:=uh Xp wr (uh Ae);obtain⟨r1,hr1⟩:∃r,kq+0+l0.length=r:=⟨_,rfl⟩;have a0d:r1<=1000000000:=by omega
   have HR1:=ak hr1;clear hr1;go_wp2_with fail;refine(ahm _ _ _ _ (kq+0) r1 lo hi w _ (uh Ae) (by omega) (uh HR1) a0d (uh G0) (by have h9:=uh HJ0;first|exact h9|(refine Held.at h9 ?_;simp;omega)) (uh Hy)).mono ?_
   rintro e w1 ⟨rfl,HB1⟩;clear c0;go_wp2
   go_roundg (xs.length-(q+1))
   case measure=>have:=uh HG;omega
   case rel=>exact⟨q+1,r1+0,by omega,rfl,by go_num,by go_num,(by refine ak ?_;have:=uh HST;have:=uh HR1;omega),HB1⟩
  ·have e:q=xs.length:=by omega
   have Ld:lss.length<=q:=by rw[uh Eo];omega
   have hfa:=Md lss q Ld;rw[hfa,←uh Ib] at Dp
   have HE:Hid (kq=r):=by
    refine ak ?_;rw[←uh Dp,←uh HR]
   clear e Ld hfa;go_wp2;go_ret;exact⟨(by rw[uh HE];rfl),Ae⟩
theorem ahn (xs:List jw) (v:Value) (l:Lf) (K:Int) (k r lo hi:Nat) (w w0:cu) (hbw:Below w.heap.size w w0) (hK:K=(k:Int)) (hr:k+l.length=r) (hrb:r<=1000000000) (hv:Lc 2 abh lo hi w v xs l) (hH:Held k l w) (hhi:hi<=w.heap.size) :
  Calls Tryz.prog 46 #[v,.int .i64 K] w0 (fun e w'=>e=.returned (.int .i64 (r:Int))/\Hid (Below w.heap.size w w')):=by
 subst hK;obtain⟨a,cap,lss,rfl,hn,hls,hfl,hx⟩:=hv;unfold Len at hn;have HX:=ak hx;have Ib:=ak hfl;have Eo:=ak hls;have Hy:=ak hhi;have HR:=ak hr;have Jb:=ak hrb;have HHD:=ak hH;have Bc:=ak hbw;clear hx hhi hr hrb hfl hls hH hbw;go_enter Tryz.func46,Tryz.ntmps46;go_wp2
 go_loopg [1,5] xs.length (fun g kk i wr=>∃(q kq:Nat),q<=xs.length/\g=xs.length-q/\i=.int .i64 q/\kk=.int .i64 (kq:Int)/\Hid (k+(lss.take q).flatten.length=kq)/\Hid (Below w.heap.size w wr))
 case atStart=>exact⟨0,k,jg _,by omega,rfl,rfl,by simp[Hid],Bc⟩
 case round =>
  obtain⟨q,kq,hq,hg,rfl,rfl,Dp,Ae⟩:=hrel;have HG:=ak hg;clear hg
  by_cases hlt:q<xs.length
  ·have hlq:q<lss.length:=by rw[uh Eo];exact hlt
   obtain⟨b,o,rfl,hel⟩:=uh HX q hlt hlq
   have hst:k+(lss.take (q+1)).flatten.length=kq+lss[q].length:=by
    rw[Dt _ _ hlq,jh,←uh Dp];omega
   have hkb:kq+lss[q].length<=1000000000:=by
    have h1:=Oz lss (q+1);have h2:=uh HR;have h3:=uh Jb;rw[uh Ib] at h2;omega
   have HH:Held kq lss[q] w:=by
    have h1:=uh HHD;rw[uh Ib] at h1;exact aac h1 hlq (uh Dp)
   generalize lss[q]=lq at hel hst hkb HH;generalize xs[q]=x at hel;obtain⟨hlo,zh,cs,hcs,hc,⟨s0,s1,rfl⟩,hll⟩:=hel;have hlen:lq.length=2:=by simp[hll]<;>omega
   rw[hlen] at hst hkb;rw[hll] at HH;have HST:=ak hst;clear hst hll hlen;have HA:=HH
   have Xp:Hid (∀w',Below w.heap.size w w'->w'.cell? ⟨b,o+q*2,none⟩=some (.string (Gy (kq+0)))):=by
    refine ak (fun w' hb=>(hb.cell (p:=⟨b,_,none⟩) (qg zh (uh Hy))).trans ?_);have h9:=HA 0 (by simp);simp only[og,ou,mkV,jr,ji] at h9;simpa using h9
   have Ap:Hid (∀w',Below w.heap.size w w'->w'.cell? ⟨b,o+q*2+1,none⟩=some (.int .i64 ((kq:Int)+1))):=by
    refine ak (fun w' hb=>(hb.cell (p:=⟨b,_,none⟩) (qg zh (uh Hy))).trans ?_);have h9:=HA 1 (by simp);simp only[og,ou,mkV,jr,ji] at h9;simpa[Int.add_assoc] using h9
   clear HH hc hcs zh hlo HA;have c0:=uh Xp wr (uh Ae)
   have HT1:Hid (Calls Tryz.prog 41 #[.int .i64 ((kq:Int))] wr.drew fun e w'=>e=.returned (.string (Gy (kq+0)))/\Hid (Below w.heap.size w w')/\w'.cell? ⟨b,o+q*2,none⟩=some (.string (Gy (kq+0)))):=by
    refine ak ((Ls _ (kq+0) _ (by omega) (by omega)).mono ?_);rintro e w' ⟨rfl,hb⟩;have yx:Below w.heap.size w w':=(uh Ae).drew.trans (hb.mono (uh Ae).size);exact⟨rfl,yx,uh Xp w' yx⟩
   go_wp2_with fail
   go_region_held3 (fun w'=>w'.cell? ⟨b,o+q*2,none⟩=some (.string (Gy (kq+0)))) (go_keep) (first|(go_at_call 41;refine(uh HT1).mono ?_;rintro e w1 ⟨rfl,HB1,d0⟩))
   clear d0;clear c0;have c1:=uh Ap w1 (uh HB1);go_wp2
   go_roundg (xs.length-(q+1))
   case measure=>have:=uh HG;omega
   case rel=>exact⟨q+1,kq+2,by omega,rfl,by go_num,by go_num,(by refine ak ?_;have:=uh HST;omega),HB1⟩
  ·have e:q=xs.length:=by omega
   have Ld:lss.length<=q:=by rw[uh Eo];omega
   have hfa:=Md lss q Ld;rw[hfa,←uh Ib] at Dp
   have HE:Hid (kq=r):=by
    refine ak ?_;rw[←uh Dp,←uh HR]
   clear e Ld hfa;go_wp2;go_ret;exact⟨(by rw[uh HE];rfl),Ae⟩
theorem atx (xs:List lu) (v:Value) (l:Lf) (K:Int) (k r lo hi:Nat) (w w0:cu) (hbw:Below w.heap.size w w0) (hK:K=(k:Int)) (hr:k+l.length=r) (hrb:r<=1000000000) (hv:Lc 6 aik lo hi w v xs l) (hH:Held k l w) (hhi:hi<=w.heap.size) :
  Calls Tryz.prog 49 #[v,.int .i64 K] w0 (fun e w'=>e=.returned (.int .i64 (r:Int))/\Hid (Below w.heap.size w w')):=by
 subst hK;obtain⟨a,cap,lss,rfl,hn,hls,hfl,hx⟩:=hv;unfold Len at hn;have HX:=ak hx;have Ib:=ak hfl;have Eo:=ak hls;have Hy:=ak hhi;have HR:=ak hr;have Jb:=ak hrb;have HHD:=ak hH;have Bc:=ak hbw;clear hx hhi hr hrb hfl hls hH hbw;go_enter Tryz.func49,Tryz.ntmps49;go_wp2
 go_loopg [1,5] xs.length (fun g kk i wr=>∃(q kq:Nat),q<=xs.length/\g=xs.length-q/\i=.int .i64 q/\kk=.int .i64 (kq:Int)/\Hid (k+(lss.take q).flatten.length=kq)/\Hid (Below w.heap.size w wr))
 case atStart=>exact⟨0,k,jg _,by omega,rfl,rfl,by simp[Hid],Bc⟩
 case round =>
  obtain⟨q,kq,hq,hg,rfl,rfl,Dp,Ae⟩:=hrel;have HG:=ak hg;clear hg
  by_cases hlt:q<xs.length
  ·have hlq:q<lss.length:=by rw[uh Eo];exact hlt
   obtain⟨b,o,rfl,hel⟩:=uh HX q hlt hlq
   have hst:k+(lss.take (q+1)).flatten.length=kq+lss[q].length:=by
    rw[Dt _ _ hlq,jh,←uh Dp];omega
   have hkb:kq+lss[q].length<=1000000000:=by
    have h1:=Oz lss (q+1);have h2:=uh HR;have h3:=uh Jb;rw[uh Ib] at h2;omega
   have HH:Held kq lss[q] w:=by
    have h1:=uh HHD;rw[uh Ib] at h1;exact aac h1 hlq (uh Dp)
   generalize lss[q]=lq at hel hst hkb HH;generalize xs[q]=x at hel;obtain⟨hlo,zh,cs,hcs,hc,s0,s1,s2,v3,v4,v5,l3,l4,l5,rfl,g3,g4,g5,hll⟩:=hel;obtain⟨sa3,sc3,rfl⟩:=g3.shape;have G3:=ak g3;obtain⟨sa4,sc4,rfl⟩:=g4.shape;have G4:=ak g4;obtain⟨sa5,sc5,rfl⟩:=g5.shape;have G5:=ak g5;have hlen:lq.length=3+l3.length+l4.length+l5.length:=by simp[hll]<;>omega
   rw[hlen] at hst hkb;rw[hll] at HH;have HST:=ak hst;clear hst hll hlen g3 g4 g5;have HA:=HH.left.left.left
   have Xp:Hid (∀w',Below w.heap.size w w'->w'.cell? ⟨b,o+q*6,none⟩=some (.int .i64 ((kq:Int)))):=by
    refine ak (fun w' hb=>(hb.cell (p:=⟨b,_,none⟩) (qg zh (uh Hy))).trans ?_);have h9:=HA 0 (by simp);simp only[og,ou,mkV,jr,ji] at h9;simpa[Int.add_assoc] using h9
   have Ap:Hid (∀w',Below w.heap.size w w'->w'.cell? ⟨b,o+q*6+1,none⟩=some (.string (Gy (kq+1)))):=by
    refine ak (fun w' hb=>(hb.cell (p:=⟨b,_,none⟩) (qg zh (uh Hy))).trans ?_);have h9:=HA 1 (by simp);simp only[og,ou,mkV,jr,ji] at h9;simpa using h9
   have HC2:Hid (∀w',Below w.heap.size w w'->w'.cell? ⟨b,o+q*6+2,none⟩=some (.int .i64 ((kq:Int)+1+1))):=by
    refine ak (fun w' hb=>(hb.cell (p:=⟨b,_,none⟩) (qg zh (uh Hy))).trans ?_);have h9:=HA 2 (by simp);simp only[og,ou,mkV,jr,ji] at h9;simpa[Int.add_assoc] using h9
   have HJ3:=ak HH.left.left.right;have aio:=(hc 3 (by simp)).1;simp only[jr,ji,og,ou] at aio;have Vh:Hid (∀w',Below w.heap.size w w'->w'.cell? ⟨b,o+q*6+3,none⟩=some (.slice sa3 (x.au).length sc3)):=ak (fun w' hb=>(hb.cell (p:=⟨b,_,none⟩) (qg zh (uh Hy))).trans aio);clear aio;have HJ4:=ak HH.left.right;have aip:=(hc 4 (by simp)).1;simp only[jr,ji,og,ou] at aip;have HC4:Hid (∀w',Below w.heap.size w w'->w'.cell? ⟨b,o+q*6+4,none⟩=some (.slice sa4 (x.code).length sc4)):=ak (fun w' hb=>(hb.cell (p:=⟨b,_,none⟩) (qg zh (uh Hy))).trans aip);clear aip;have HJ5:=ak HH.right;have aiq:=(hc 5 (by simp)).1;simp only[jr,ji,og,ou] at aiq;have HC5:Hid (∀w',Below w.heap.size w w'->w'.cell? ⟨b,o+q*6+5,none⟩=some (.slice sa5 (x.args).length sc5)):=ak (fun w' hb=>(hb.cell (p:=⟨b,_,none⟩) (qg zh (uh Hy))).trans aiq);clear aiq;clear HH hc hcs zh hlo HA;have c0:=uh Xp wr (uh Ae);have c1:=uh Ap wr (uh Ae)
   have HT1:Hid (Calls Tryz.prog 41 #[.int .i64 ((kq:Int)+1)] wr.drew fun e w'=>e=.returned (.string (Gy (kq+1)))/\Hid (Below w.heap.size w w')/\w'.cell? ⟨b,o+q*6+1,none⟩=some (.string (Gy (kq+1)))):=by
    refine ak ((Ls _ (kq+1) _ (by omega) (by omega)).mono ?_);rintro e w' ⟨rfl,hb⟩;have yx:Below w.heap.size w w':=(uh Ae).drew.trans (hb.mono (uh Ae).size);exact⟨rfl,yx,uh Ap w' yx⟩
   go_wp2_with fail
   go_region_held3 (fun w'=>w'.cell? ⟨b,o+q*6+1,none⟩=some (.string (Gy (kq+1)))) (go_keep) (first|(go_at_call 41;refine(uh HT1).mono ?_;rintro e w1 ⟨rfl,HB1,d1⟩))
   clear d1;clear c0 c1;have c2:=uh HC2 w1 (uh HB1);have c3:=uh Vh w1 (uh HB1);obtain⟨r2,hr2⟩:∃r,kq+3+l3.length=r:=⟨_,rfl⟩;have ac2:r2<=1000000000:=by omega
   have HR2:=ak hr2;clear hr2;go_wp2_with fail;refine(afj _ _ _ _ (kq+3) r2 lo hi w _ (uh HB1) (by omega) (uh HR2) ac2 (uh G3) (by have h9:=uh HJ3;first|exact h9|(refine Held.at h9 ?_;simp;omega)) (uh Hy)).mono ?_
   rintro e w2 ⟨rfl,HB2⟩;clear c2 c3;have c4:=uh HC4 w2 (uh HB2);obtain⟨r3,hr3⟩:∃r,r2+0+l4.length=r:=⟨_,rfl⟩;have ail:r3<=1000000000:=by have:=uh HR2;omega
   have HR3:=ak hr3;clear hr3;go_wp2_with fail;refine(ahm _ _ _ _ (r2+0) r3 lo hi w _ (uh HB2) (by omega) (uh HR3) ail (uh G4) (by have h9:=uh HJ4;have:=uh HR2;first|exact h9|(refine Held.at h9 ?_;simp;omega)) (uh Hy)).mono ?_
   rintro e w3 ⟨rfl,HB3⟩;clear c4;have c5:=uh HC5 w3 (uh HB3);obtain⟨r4,hr4⟩:∃r,r3+0+l5.length=r:=⟨_,rfl⟩;have ain:r4<=1000000000:=by have:=uh HR2;have:=uh HR3;omega
   have HR4:=ak hr4;clear hr4;go_wp2_with fail;refine(aoo _ _ _ _ (r3+0) r4 lo hi w _ (uh HB3) (by omega) (uh HR4) ain (uh G5) (by have h9:=uh HJ5;have:=uh HR2;have:=uh HR3;first|exact h9|(refine Held.at h9 ?_;simp;omega)) (uh Hy)).mono ?_
   rintro e w4 ⟨rfl,HB4⟩;clear c5;go_wp2
   go_roundg (xs.length-(q+1))
   case measure=>have:=uh HG;omega
   case rel=>exact⟨q+1,r4+0,by omega,rfl,by go_num,by go_num,(by refine ak ?_;have:=uh HST;have:=uh HR2;have:=uh HR3;have:=uh HR4;omega),HB4⟩
  ·have e:q=xs.length:=by omega
   have Ld:lss.length<=q:=by rw[uh Eo];omega
   have hfa:=Md lss q Ld;rw[hfa,←uh Ib] at Dp
   have HE:Hid (kq=r):=by
    refine ak ?_;rw[←uh Dp,←uh HR]
   clear e Ld hfa;go_wp2;go_ret;exact⟨(by rw[uh HE];rfl),Ae⟩
theorem aop (xs:List dw) (v:Value) (l:Lf) (K:Int) (k r lo hi:Nat) (w w0:cu) (hbw:Below w.heap.size w w0) (hK:K=(k:Int)) (hr:k+l.length=r) (hrb:r<=1000000000) (hv:Lc 7 aay lo hi w v xs l) (hH:Held k l w) (hhi:hi<=w.heap.size) :
  Calls Tryz.prog 18 #[v,.int .i64 K] w0 (fun e w'=>e=.returned (.int .i64 (r:Int))/\Hid (Below w.heap.size w w')):=by
 subst hK;obtain⟨a,cap,lss,rfl,hn,hls,hfl,hx⟩:=hv;unfold Len at hn;have HX:=ak hx;have Ib:=ak hfl;have Eo:=ak hls;have Hy:=ak hhi;have HR:=ak hr;have Jb:=ak hrb;have HHD:=ak hH;have Bc:=ak hbw;clear hx hhi hr hrb hfl hls hH hbw;go_enter Tryz.func18,Tryz.ntmps18;go_wp2
 go_loopg [1,5] xs.length (fun g kk i wr=>∃(q kq:Nat),q<=xs.length/\g=xs.length-q/\i=.int .i64 q/\kk=.int .i64 (kq:Int)/\Hid (k+(lss.take q).flatten.length=kq)/\Hid (Below w.heap.size w wr))
 case atStart=>exact⟨0,k,jg _,by omega,rfl,rfl,by simp[Hid],Bc⟩
 case round =>
  obtain⟨q,kq,hq,hg,rfl,rfl,Dp,Ae⟩:=hrel;have HG:=ak hg;clear hg
  by_cases hlt:q<xs.length
  ·have hlq:q<lss.length:=by rw[uh Eo];exact hlt
   obtain⟨b,o,rfl,hel⟩:=uh HX q hlt hlq
   have hst:k+(lss.take (q+1)).flatten.length=kq+lss[q].length:=by
    rw[Dt _ _ hlq,jh,←uh Dp];omega
   have hkb:kq+lss[q].length<=1000000000:=by
    have h1:=Oz lss (q+1);have h2:=uh HR;have h3:=uh Jb;rw[uh Ib] at h2;omega
   have HH:Held kq lss[q] w:=by
    have h1:=uh HHD;rw[uh Ib] at h1;exact aac h1 hlq (uh Dp)
   generalize lss[q]=lq at hel hst hkb HH;generalize xs[q]=x at hel;obtain⟨hlo,zh,cs,hcs,hc,s0,v1,v2,v3,v4,v5,v6,l1,l2,l3,l4,l5,l6,rfl,g1,g2,g3,g4,g5,g6,hll⟩:=hel;obtain⟨sa1,sc1,rfl⟩:=g1.shape;have G1:=ak g1;obtain⟨sa2,sc2,rfl⟩:=g2.shape;have G2:=ak g2;obtain⟨sa3,sc3,rfl⟩:=g3.shape;have G3:=ak g3;obtain⟨sa4,sc4,rfl⟩:=g4.shape;have G4:=ak g4;obtain⟨sa5,sc5,rfl⟩:=g5.shape;have G5:=ak g5;obtain⟨sa6,sc6,rfl⟩:=g6.shape;have G6:=ak g6;have hlen:lq.length=1+l1.length+l2.length+l3.length+l4.length+l5.length+l6.length:=by simp[hll]<;>omega
   rw[hlen] at hst hkb;rw[hll] at HH;have HST:=ak hst;clear hst hll hlen g1 g2 g3 g4 g5 g6;have HA:=HH.left.left.left.left.left.left
   have Xp:Hid (∀w',Below w.heap.size w w'->w'.cell? ⟨b,o+q*7,none⟩=some (.string (Gy (kq+0)))):=by
    refine ak (fun w' hb=>(hb.cell (p:=⟨b,_,none⟩) (qg zh (uh Hy))).trans ?_);have h9:=HA 0 (by simp);simp only[og,ou,mkV,jr,ji] at h9;simpa using h9
   have HJ1:=ak HH.left.left.left.left.left.right;have a0i:=(hc 1 (by simp)).1;simp only[jr,ji,og,ou] at a0i;have Ap:Hid (∀w',Below w.heap.size w w'->w'.cell? ⟨b,o+q*7+1,none⟩=some (.slice sa1 (x.ins).length sc1)):=ak (fun w' hb=>(hb.cell (p:=⟨b,_,none⟩) (qg zh (uh Hy))).trans a0i);clear a0i;have HJ2:=ak HH.left.left.left.left.right;have a0j:=(hc 2 (by simp)).1;simp only[jr,ji,og,ou] at a0j;have HC2:Hid (∀w',Below w.heap.size w w'->w'.cell? ⟨b,o+q*7+2,none⟩=some (.slice sa2 (x.au).length sc2)):=ak (fun w' hb=>(hb.cell (p:=⟨b,_,none⟩) (qg zh (uh Hy))).trans a0j);clear a0j;have HJ3:=ak HH.left.left.left.right;have aio:=(hc 3 (by simp)).1;simp only[jr,ji,og,ou] at aio;have Vh:Hid (∀w',Below w.heap.size w w'->w'.cell? ⟨b,o+q*7+3,none⟩=some (.slice sa3 (x.iw).length sc3)):=ak (fun w' hb=>(hb.cell (p:=⟨b,_,none⟩) (qg zh (uh Hy))).trans aio);clear aio;have HJ4:=ak HH.left.left.right;have aip:=(hc 4 (by simp)).1;simp only[jr,ji,og,ou] at aip;have HC4:Hid (∀w',Below w.heap.size w w'->w'.cell? ⟨b,o+q*7+4,none⟩=some (.slice sa4 (x.gq).length sc4)):=ak (fun w' hb=>(hb.cell (p:=⟨b,_,none⟩) (qg zh (uh Hy))).trans aip);clear aip;have HJ5:=ak HH.left.right;have aiq:=(hc 5 (by simp)).1;simp only[jr,ji,og,ou] at aiq;have HC5:Hid (∀w',Below w.heap.size w w'->w'.cell? ⟨b,o+q*7+5,none⟩=some (.slice sa5 (x.ay).length sc5)):=ak (fun w' hb=>(hb.cell (p:=⟨b,_,none⟩) (qg zh (uh Hy))).trans aiq);clear aiq;have HJ6:=ak HH.right;have a0k:=(hc 6 (by simp)).1;simp only[jr,ji,og,ou] at a0k;have HC6:Hid (∀w',Below w.heap.size w w'->w'.cell? ⟨b,o+q*7+6,none⟩=some (.slice sa6 (x.body).length sc6)):=ak (fun w' hb=>(hb.cell (p:=⟨b,_,none⟩) (qg zh (uh Hy))).trans a0k);clear a0k;clear HH hc hcs zh hlo HA;have c0:=uh Xp wr (uh Ae)
   have HT1:Hid (Calls Tryz.prog 41 #[.int .i64 ((kq:Int))] wr.drew fun e w'=>e=.returned (.string (Gy (kq+0)))/\Hid (Below w.heap.size w w')/\w'.cell? ⟨b,o+q*7,none⟩=some (.string (Gy (kq+0)))):=by
    refine ak ((Ls _ (kq+0) _ (by omega) (by omega)).mono ?_);rintro e w' ⟨rfl,hb⟩;have yx:Below w.heap.size w w':=(uh Ae).drew.trans (hb.mono (uh Ae).size);exact⟨rfl,yx,uh Xp w' yx⟩
   go_wp2_with fail
   go_region_held3 (fun w'=>w'.cell? ⟨b,o+q*7,none⟩=some (.string (Gy (kq+0)))) (go_keep) (first|(go_at_call 41;refine(uh HT1).mono ?_;rintro e w1 ⟨rfl,HB1,d0⟩))
   clear d0;clear c0;have c1:=uh Ap w1 (uh HB1);obtain⟨r2,hr2⟩:∃r,kq+1+l1.length=r:=⟨_,rfl⟩;have ac2:r2<=1000000000:=by omega
   have HR2:=ak hr2;clear hr2;go_wp2_with fail;refine(ahn _ _ _ _ (kq+1) r2 lo hi w _ (uh HB1) (by omega) (uh HR2) ac2 (uh G1) (by have h9:=uh HJ1;first|exact h9|(refine Held.at h9 ?_;simp;omega)) (uh Hy)).mono ?_
   rintro e w2 ⟨rfl,HB2⟩;clear c1;have c2:=uh HC2 w2 (uh HB2);obtain⟨r3,hr3⟩:∃r,r2+0+l2.length=r:=⟨_,rfl⟩;have ail:r3<=1000000000:=by have:=uh HR2;omega
   have HR3:=ak hr3;clear hr3;go_wp2_with fail;refine(ahn _ _ _ _ (r2+0) r3 lo hi w _ (uh HB2) (by omega) (uh HR3) ail (uh G2) (by have h9:=uh HJ2;have:=uh HR2;first|exact h9|(refine Held.at h9 ?_;simp;omega)) (uh Hy)).mono ?_
   rintro e w3 ⟨rfl,HB3⟩;clear c2;have c3:=uh Vh w3 (uh HB3);obtain⟨r4,hr4⟩:∃r,r3+0+l3.length=r:=⟨_,rfl⟩;have ain:r4<=1000000000:=by have:=uh HR2;have:=uh HR3;omega
   have HR4:=ak hr4;clear hr4;go_wp2_with fail;refine(afj _ _ _ _ (r3+0) r4 lo hi w _ (uh HB3) (by omega) (uh HR4) ain (uh G3) (by have h9:=uh HJ3;have:=uh HR2;have:=uh HR3;first|exact h9|(refine Held.at h9 ?_;simp;omega)) (uh Hy)).mono ?_
   rintro e w4 ⟨rfl,HB4⟩;clear c3;have c4:=uh HC4 w4 (uh HB4);obtain⟨r5,hr5⟩:∃r,r4+0+l4.length=r:=⟨_,rfl⟩;have a0e:r5<=1000000000:=by have:=uh HR2;have:=uh HR3;have:=uh HR4;omega
   have Xg:=ak hr5;clear hr5;go_wp2_with fail;refine(ajt _ _ _ _ (r4+0) r5 lo hi w _ (uh HB4) (by omega) (uh Xg) a0e (uh G4) (by have h9:=uh HJ4;have:=uh HR2;have:=uh HR3;have:=uh HR4;first|exact h9|(refine Held.at h9 ?_;simp;omega)) (uh Hy)).mono ?_
   rintro e w5 ⟨rfl,Gx⟩;clear c4;have c5:=uh HC5 w5 (uh Gx);obtain⟨r6,hr6⟩:∃r,r5+0+l5.length=r:=⟨_,rfl⟩;have a0f:r6<=1000000000:=by have:=uh HR2;have:=uh HR3;have:=uh HR4;have:=uh Xg;omega
   have HR6:=ak hr6;clear hr6;go_wp2_with fail;refine(ajt _ _ _ _ (r5+0) r6 lo hi w _ (uh Gx) (by omega) (uh HR6) a0f (uh G5) (by have h9:=uh HJ5;have:=uh HR2;have:=uh HR3;have:=uh HR4;have:=uh Xg;first|exact h9|(refine Held.at h9 ?_;simp;omega)) (uh Hy)).mono ?_
   rintro e w6 ⟨rfl,Wp⟩;clear c5;have c6:=uh HC6 w6 (uh Wp);obtain⟨r7,hr7⟩:∃r,r6+0+l6.length=r:=⟨_,rfl⟩;have a0g:r7<=1000000000:=by have:=uh HR2;have:=uh HR3;have:=uh HR4;have:=uh Xg;have:=uh HR6;omega
   have HR7:=ak hr7;clear hr7;go_wp2_with fail;refine(atx _ _ _ _ (r6+0) r7 lo hi w _ (uh Wp) (by omega) (uh HR7) a0g (uh G6) (by have h9:=uh HJ6;have:=uh HR2;have:=uh HR3;have:=uh HR4;have:=uh Xg;have:=uh HR6;first|exact h9|(refine Held.at h9 ?_;simp;omega)) (uh Hy)).mono ?_
   rintro e w7 ⟨rfl,Zn⟩;clear c6;go_wp2
   go_roundg (xs.length-(q+1))
   case measure=>have:=uh HG;omega
   case rel=>exact⟨q+1,r7+0,by omega,rfl,by go_num,by go_num,(by refine ak ?_;have:=uh HST;have:=uh HR2;have:=uh HR3;have:=uh HR4;have:=uh Xg;have:=uh HR6;have:=uh HR7;omega),Zn⟩
  ·have e:q=xs.length:=by omega
   have Ld:lss.length<=q:=by rw[uh Eo];omega
   have hfa:=Md lss q Ld;rw[hfa,←uh Ib] at Dp
   have HE:Hid (kq=r):=by
    refine ak ?_;rw[←uh Dp,←uh HR]
   clear e Ld hfa;go_wp2;go_ret;exact⟨(by rw[uh HE];rfl),Ae⟩
theorem a4o {α:Type} (f:α->Nat) (xs:List α):Vd f xs xs.length=(xs.map f).sum:=by unfold Vd;rw[Dw]
theorem Lc.len {α:Type} {sz:Nat} {R:Nat->Nat->cu->Nat->Nat->List Value->α->Lf->Prop} {f:α->Nat} (hR:∀lo hi w b o cs x l,R lo hi w b o cs x l->l.length=f x) {lo hi:Nat} {w:cu} {v:Value} {xs:List α} {l:Lf} (h:Lc sz R lo hi w v xs l):l.length=Vd f xs xs.length:=by
 obtain⟨a,cap,lss,h1,h2,h3,rfl,h5⟩:=h
 have h9:lss.map List.length=xs.map f:=by
  refine List.ext_getElem (by simp[h3]) (fun i g1 g2=>?_);rw[List.getElem_map,List.getElem_map];obtain⟨b,o,_,_,_,cs,_,_,hr⟩:=h5 i (by simpa using g2) (by simpa using g1);exact hR _ _ _ _ _ _ _ _ hr
 rw[a4o,←h9,List.length_flatten]
theorem aoq (lo hi:Nat) (w:cu) (b o:Nat) (cs:List Value) (x:dh) (l:Lf) (h:ae0 lo hi w b o cs x l):l.length=mStr x:=by rw[h.2];rfl
theorem aor (lo hi:Nat) (w:cu) (b o:Nat) (cs:List Value) (x:Int) (l:Lf) (h:ae1 lo hi w b o cs x l):l.length=akw x:=by rw[h.2];rfl
theorem al6 (lo hi:Nat) (w:cu) (b o:Nat) (cs:List Value) (x:l9) (l:Lf) (h:abg lo hi w b o cs x l):l.length=aju x:=by rw[h.2];rfl
theorem al7 (lo hi:Nat) (w:cu) (b o:Nat) (cs:List Value) (x:jw) (l:Lf) (h:abh lo hi w b o cs x l):l.length=ajv x:=by rw[h.2];rfl
theorem aty (lo hi:Nat) (w:cu) (b o:Nat) (cs:List Value) (x:List l9) (l:Lf) (h:abx lo hi w b o cs x l):l.length=ajw x:=by
 obtain⟨v,l0,_,h1,rfl⟩:=h;exact h1.len al6
theorem a0l (lo hi:Nat) (w:cu) (b o:Nat) (cs:List Value) (x:lu) (l:Lf) (h:aik lo hi w b o cs x l):l.length=aos x:=by
 obtain⟨_,_,_,_,_,_,l3,l4,l5,_,h3,h4,h5,rfl⟩:=h;simp only[jh,ug,Ar,h3.len aoq,h4.len al6,h5.len aty];unfold aos;omega
theorem atz (lo hi:Nat) (w:cu) (b o:Nat) (cs:List Value) (x:dw) (l:Lf) (h:aay lo hi w b o cs x l):l.length=af8 x:=by
 obtain⟨_,_,_,_,_,_,_,l1,l2,l3,l4,l5,l6,_,h1,h2,h3,h4,h5,h6,rfl⟩:=h;simp only[jh,ug,Ar,h1.len al7,h2.len al7,h3.len aoq,h4.len aor,h5.len aor,h6.len a0l];unfold af8;omega
theorem am0 (ks:List dw) (v:Value) (l:Lf) (lo hi r:Nat) (w:cu) (hv:Lc 7 aay lo hi w v ks l) (hhi:hi<=w.heap.size) (hr:1+l.length=r) (hb:r<=1000000000) :
  Calls Tryz.prog 7 #[.agg #[v],.int .i64 1] w (aav lo hi 1 r l w):=by
 obtain⟨a,cap,rfl⟩:=hv.shape;have hA:Below w.heap.size w (w.alloc (.cells #[.slice a ks.length cap] 24)):=(iq _ _).alloc (gu _) _;have hM:Mk lo hi w (w.alloc (.cells #[.slice a ks.length cap] 24)):=Mk.of_below hA hhi;have HX:Hid (X lo hi [] w (w.alloc (.cells #[.slice a ks.length cap] 24))):=ak (X.of_below hA hhi);have HC:=ak (aon ks _ l 1 1 r lo hi _ rfl hr hb (hv.stays ac7 hM) (ku hhi hM.size));clear hv hhi hb hA hM hr;go_enter Tryz.func7,Tryz.ntmps7;go_wp2_with fail;refine(uh HC).mono ?_;rintro e w1 ⟨rfl,hm⟩;have H1:=ak ((uh HX).trans hm);clear hm;go_wp2;go_ret;exact⟨rfl,uh H1⟩
theorem am1 (ks:List dw) (v:Value) (l:Lf) (lo hi r:Nat) (w:cu) (hv:Lc 7 aay lo hi w v ks l) (hH:Held 1 l w) (hhi:hi<=w.heap.size) (hr:1+l.length=r) (hb:r<=1000000000) :
  Calls Tryz.prog 8 #[.agg #[v],.int .i64 1] w (fun e w'=>e=.returned (.int .i64 (r:Int))/\Hid (Below w.heap.size w w')):=by
 obtain⟨a,cap,rfl⟩:=hv.shape;have hA:Below w.heap.size w (w.alloc (.cells #[.slice a ks.length cap] 24)):=(iq _ _).alloc (gu _) _;have HC:=ak (aop ks _ l 1 1 r lo hi w _ hA rfl hr hb hv hH hhi);have m0:decide ((r:Int)<0)=false:=iy (by omega);clear hv hhi hb hA hr hH;go_enter Tryz.func8,Tryz.ntmps8;go_wp2_with fail;refine(uh HC).mono ?_;rintro e w1 ⟨rfl,HB⟩;go_wp2;go_ret;exact⟨rfl,HB⟩
theorem am4 {B:Nat} {w w':cu} {v:Value} {ns:List dw} {bs:List Nat} (h:yj Et Ci B w v ns bs) (hb:Below w.heap.size w w'):yj Et Ci B w' v ns bs:=h.fr Iy (fun b yx=>hb.block b (h.nd.2 b yx).2) hb.size
theorem atq (t:dh) (w:cu) (hE:Za w):Calls Tryz.prog 3 #[.string t] w (Ans (.bool true) w):=by
 by_cases hs:t.size<=1048576
 case neg =>
  have d0:(1048576:Int)<(t.size:Int):=by omega
  clear hs hE;go_enter Tryz.func3,Tryz.ntmps3;go_wp2;go_ret;exact⟨rfl,iq _ _⟩
 have d0:¬(1048576:Int)<(t.size:Int):=by omega
 have hcl:=awx (L8 t).1
 have hwt:pz qy (L8 t).1<=1048576:=by
  unfold L8
  split
  ·exact ku (alv t) hs
  ·simp[pz]
 have hsp:=ap6 t w hs;have him:∀W,Below w.heap.size w W->Calls Tryz.prog 5 #[.string t] W (RdP (L8 t).1 (L8 t).2 W):=fun W hW=>aqc t W (hE.below hW hE.env.three) hs
 generalize (L8 t).1=ns at hcl hwt hsp him;generalize (L8 t).2=code at hsp him;have HST:Hid (Vd af8 ns ns.length<=100000000):=ak (by omega);have HSP:=ak hsp;have HIM:=ak him;clear hcl hwt hsp him hE hs;go_enter Tryz.func3,Tryz.ntmps3;go_wp2_with fail;refine(uh HSP).mono ?_;rintro e w1 ⟨v,bs,rfl,hmk,hb1⟩;obtain⟨ra,rc,rfl⟩:=hmk.slice;obtain⟨wS,hwS⟩:=o8 (w1.alloc (.cells #[.slice ra ns.length rc] 24));have hSS:Below w1.heap.size w1 wS:=by rw[hwS];exact(iq _ _).alloc (gu _) _
 have Rw:Hid (jd wS w1.heap.size 24 #[.slice ra ns.length rc]):=ak (by rw[hwS];exact oh _ _ _);have BS:Hid (Below w.heap.size w wS):=ak (hb1.trans (hSS.mono hb1.size));have HRV:Hid (jc 7 160 C9 0 wS (.slice ra ns.length rc) ns):=ak (am4 hmk hSS).slC;have a8u:=ak (uh HIM wS (uh BS));have HWS:=ak hwS;clear hmk hb1 hSS hwS HSP;go_wp2_with fail;rw[←uh HWS];refine(uh a8u).mono ?_;rintro e w2 ⟨v,bs2,rfl,ah4,hb2⟩;obtain⟨ga,gc,rfl⟩:=ah4.slice;obtain⟨wG,hwG⟩:=o8 (w2.alloc (.cells #[.slice ga ns.length gc] 24));have hGG:Below w2.heap.size w2 wG:=by rw[hwG];exact(iq _ _).alloc (gu _) _
 have HBG:Hid (jd wG w2.heap.size 24 #[.slice ga ns.length gc]):=ak (by rw[hwG];exact oh _ _ _);have HGR:=ak (am4 ah4 hGG);have HSG:Hid (Below wS.heap.size wS wG):=ak (hb2.trans (hGG.mono hb2.size));have HZ2:Hid (wS.heap.size<=w2.heap.size):=ak hb2.size;have HEG:=ak (af9 ns _ _ wG (uh HGR).slC ((uh HRV).stays D9 (uh HSG)));have c1:wG.cell? ⟨w1.heap.size,0,none⟩=some (.slice ra ns.length rc):=((uh Rw).below (uh HSG) (uh Rw).lt).cell (i:=0) (v:=.slice ra ns.length rc) rfl;have c2:wG.cell? ⟨w2.heap.size,0,none⟩=some (.slice ga ns.length gc):=(uh HBG).cell (i:=0) (v:=.slice ga ns.length gc) rfl;have c3:w2.cell? ⟨w1.heap.size,0,none⟩=some (.slice ra ns.length rc):=((uh Rw).below hb2 (uh Rw).lt).cell (i:=0) (v:=.slice ra ns.length rc) rfl;have l1:w1.heap.size<w2.heap.size:=qg (uh Rw).lt hb2.size;have HWG:=ak hwG;clear ah4 hb2 hGG hwG a8u;go_wp2_with fail;rw[←uh HWG];refine(uh HEG).mono ?_;rintro e w3 ⟨rfl,hb3⟩;have hG3:=am4 (uh HGR) hb3;have hB3:=(uh HBG).below hb3 (uh HBG).lt;have Vj:Hid (Below wS.heap.size wS w3):=ak ((uh HSG).trans (hb3.mono (uh HSG).size));obtain⟨l,hL,a3j⟩:=a8v (lo:=wS.heap.size) (hi:=w3.heap.size) hG3.rowT hG3.nd.1 (fun c hc=>hG3.nd.2 c hc);obtain⟨r,hr⟩:∃r,1+l.length=r:=⟨_,rfl⟩
 have hrb:r<=1000000000:=by
  have h9:=hL.len atz;have h8:=uh HST;omega
 have j3:w3.cell? ⟨w2.heap.size,0,none⟩=some (.slice ga ns.length gc):=hB3.cell (i:=0) (v:=.slice ga ns.length gc) rfl;have l3:w2.heap.size<w3.heap.size:=hB3.lt;have HMX:=ak (am0 ns _ l wS.heap.size w3.heap.size r w3 hL (gu _) hr hrb);have HL:=ak hL;have HGD:=ak a3j;have HBD:=ak hG3.nd.2;have HR:=ak hr;have Jb:=ak hrb;have hcc:(code != code)=false:=by simp
 clear hb3 hG3 hB3 hL a3j hr hrb c1 c2 c3 HGR HEG HWG;go_wp2_with fail;refine(uh HMX).mono ?_;rintro e w4 ⟨rfl,hX4⟩;have Q8:Hid (Below wS.heap.size wS w4):=ak ((uh Vj).trans (hX4.md.below (uh Vj).size));have hHeld:Held 1 l w4:=hX4.held (uh HGD).1 (fun p hp=>⟨((uh HGD).2 p hp).1,(uh HBD _ ((uh HGD).2 p hp).2.1).2,((uh HGD).2 p hp).2.2⟩);have HHX:=ak (am1 ns _ l wS.heap.size w3.heap.size r w4 ((uh HL).stays ac7 hX4.md) hHeld hX4.md.size (uh HR) (uh Jb));have j4:w4.cell? ⟨w2.heap.size,0,none⟩=some (.slice ga ns.length gc):=hX4.csl (uh HZ2) l3 j3;clear hX4 hHeld j3 HMX;go_wp2_with fail;refine(uh HHX).mono ?_;rintro e w5 ⟨rfl,Gx⟩;have HS5:Hid (Below wS.heap.size wS w5):=ak ((uh Q8).trans ((uh Gx).mono (uh Q8).size));have a8w:=ak (uh HIM w5 ((uh BS).trans ((uh HS5).mono (uh BS).size)));have m1:decide ((r:Int)<0)=false:=iy (by omega);have m2:((r:Int) != (r:Int))=false:=by simp
 clear j4;go_wp2_with fail;refine(uh a8w).mono ?_;rintro e w6 ⟨v,bs6,rfl,a0m,hb6⟩;obtain⟨ha,hc,rfl⟩:=a0m.slice;obtain⟨wH,hwH⟩:=o8 (w6.alloc (.cells #[.slice ha ns.length hc] 24));have hHH:Below w6.heap.size w6 wH:=by rw[hwH];exact(iq _ _).alloc (gu _) _
 have hBH:jd wH w6.heap.size 24 #[.slice ha ns.length hc]:=by rw[hwH];exact oh _ _ _
 have HS6:Hid (Below wS.heap.size wS w6):=ak ((uh HS5).trans (hb6.mono (uh HS5).size));have HSH:Hid (Below wS.heap.size wS wH):=ak ((uh HS6).trans (hHH.mono (uh HS6).size));have HEH:=ak (af9 ns _ _ wH (am4 a0m hHH).slC ((uh HRV).stays D9 (uh HSH)));have c1:wH.cell? ⟨w1.heap.size,0,none⟩=some (.slice ra ns.length rc):=((uh Rw).below (uh HSH) (uh Rw).lt).cell (i:=0) (v:=.slice ra ns.length rc) rfl;have c2:wH.cell? ⟨w6.heap.size,0,none⟩=some (.slice ha ns.length hc):=hBH.cell (i:=0) (v:=.slice ha ns.length hc) rfl;have c3:w6.cell? ⟨w1.heap.size,0,none⟩=some (.slice ra ns.length rc):=((uh Rw).below (uh HS6) (uh Rw).lt).cell (i:=0) (v:=.slice ra ns.length rc) rfl;have l6:w1.heap.size<w6.heap.size:=qg (uh Rw).lt (uh HS6).size;have HWH:=ak hwH;clear a0m hb6 hHH hBH hwH a8w;go_wp2_with fail;rw[←uh HWH];refine(uh HEH).mono ?_;rintro e w7 ⟨rfl,hb7⟩;have Oi:Hid (Below w.heap.size w w7):=ak ((uh BS).trans (((uh HSH).trans (hb7.mono (uh HSH).size)).mono (uh BS).size));clear hb7 c1 c2 c3;go_wp2;go_ret;exact⟨rfl,uh Oi⟩
end Go.Proofs.YtfeejeflmcapoaaGreatDoor
