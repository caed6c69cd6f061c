import Derived.Deep.RegionHeld3
import Derived.Test.YtfeejeflmcapoaaGreatDoorMX
import Derived.Test.YtfeejeflmcapoaaGreatDoorMXA
import Derived.Test.YtfeejeflmcapoaaGreatDoorRRd
set_option linter.unusedSimpArgs false
set_option linter.unusedVariables false
set_option maxHeartbeats 8000000
namespace Go.Proofs.YtfeejeflmcapoaaGreatDoor
open Go.RowKit
theorem afl (xs:List dh) (v:Value) (l:Lf) (K:Int) (k r lo hi:Nat) (w w0:bf) (hbw:Below w.heap.size w w0) (hK:K=(k:Int)) (hr:k+l.length=r) (hrb:r<=1000000000) (hv:Le 1 ae2 lo hi w v xs l) (hH:Held k l w) (hhi:hi<=w.heap.size) :
  Calls Tryz.prog 47 #[v,.int .i64 K] w0 (fun e w'=>e=.returned (.int .i64 (r:Int))∧Hid (Below w.heap.size w w')):=by
 subst hK;obtain⟨a,cap,lss,rfl,hn,hls,hfl,hx⟩:=hv;unfold Len at hn;have HX:=hide hx;have Ij:=hide hfl;have Ey:=hide hls;have Ic:=hide hhi;have HR:=hide hr;have Jc:=hide hrb;have HHD:=hide hH;have Bl:=hide hbw;clear hx hhi hr hrb hfl hls hH hbw;go_enter Tryz.func47,Tryz.ntmps47;go_wp2
 go_loopg [1,5] xs.length (fun g kk i wr=>∃(q kq:Nat),q<=xs.length∧g=xs.length-q∧i=.int .i64 q∧kk=.int .i64 (kq:Int)∧Hid (k+(lss.take q).flatten.length=kq)∧Hid (Below w.heap.size w wr))
 case atStart=>exact⟨0,k,jg _,by omega,rfl,rfl,by simp[Hid],Bl⟩
 case round =>
  obtain⟨q,kq,hq,hg,rfl,rfl,D5,Ah⟩:=hrel;have HG:=hide hg;clear hg
  by_cases hlt:q<xs.length
  ·have hlq:q<lss.length:=by rw[uh Ey];exact hlt
   obtain⟨b,o,rfl,hel⟩:=uh HX q hlt hlq
   have hst:k+(lss.take (q+1)).flatten.length=kq+lss[q].length:=by
    rw[D8 _ _ hlq,je,←uh D5];omega
   have hkb:kq+lss[q].length<=1000000000:=by
    have h1:=O7 lss (q+1);have h2:=uh HR;have h3:=uh Jc;rw[uh Ij] at h2;omega
   have HH:Held kq lss[q] w:=by
    have h1:=uh HHD;rw[uh Ij] at h1;exact aag h1 hlq (uh D5)
   generalize lss[q]=lq at hel hst hkb HH;generalize xs[q]=x at hel;obtain⟨hlo,zi,cs,hcs,hc,⟨s0,rfl⟩,hll⟩:=hel;have hlen:lq.length=1:=by simp[hll]<;>omega
   rw[hlen] at hst hkb;rw[hll] at HH;have HST:=hide hst;clear hst hll hlen;have HA:=HH
   have Xu:Hid (∀w',Below w.heap.size w w'->w'.cell? ⟨b,o+q,none⟩=some (.string (Hg (kq+0)))):=by
    refine hide (fun w' hb=>(hb.cell (p:=⟨b,_,none⟩) (qj zi (uh Ic))).trans ?_);have h9:=HA 0 (by simp);simp only[ny,o8,mkV,jr,jh] at h9;simpa using h9
   clear HH hc hcs zi hlo HA;have c0:=uh Xu wr (uh Ah)
   have HT1:Hid (Calls Tryz.prog 41 #[.int .i64 ((kq:Int))] wr.drew fun e w'=>e=.returned (.string (Hg (kq+0)))∧Hid (Below w.heap.size w w')∧w'.cell? ⟨b,o+q,none⟩=some (.string (Hg (kq+0)))):=by
    refine hide ((Lu _ (kq+0) _ (by omega) (by omega)).mono ?_);rintro e w' ⟨rfl,hb⟩;have yu:Below w.heap.size w w':=(uh Ah).drew.trans (hb.mono (uh Ah).size);exact⟨rfl,yu,uh Xu w' yu⟩
   go_wp2_with fail
   go_region_held3 (fun w'=>w'.cell? ⟨b,o+q,none⟩=some (.string (Hg (kq+0)))) (go_keep) (first|(go_at_call 41;refine(uh HT1).mono ?_;rintro e w1 ⟨rfl,HB1,d0⟩))
   clear d0;clear c0;go_wp2
   go_roundg (xs.length-(q+1))
   case measure=>have:=uh HG;omega
   case rel=>exact⟨q+1,kq+1,by omega,rfl,by go_num,by go_num,(by refine hide ?_;have:=uh HST;omega),HB1⟩
  ·have e:q=xs.length:=by omega
   have Lh:lss.length<=q:=by rw[uh Ey];omega
   have hfa:=Me lss q Lh;rw[hfa,←uh Ij] at D5
   have HE:Hid (kq=r):=by
    refine hide ?_;rw[←uh D5,←uh HR]
   clear e Lh hfa;go_wp2;go_ret;exact⟨(by rw[uh HE];rfl),Ah⟩
theorem ajw (xs:List Int) (v:Value) (l:Lf) (K:Int) (k r lo hi:Nat) (w w0:bf) (hbw:Below w.heap.size w w0) (hK:K=(k:Int)) (hr:k+l.length=r) (hrb:r<=1000000000) (hv:Le 1 ae3 lo hi w v xs l) (hH:Held k l w) (hhi:hi<=w.heap.size) :
  Calls Tryz.prog 48 #[v,.int .i64 K] w0 (fun e w'=>e=.returned (.int .i64 (r:Int))∧Hid (Below w.heap.size w w')):=by
 subst hK;obtain⟨a,cap,lss,rfl,hn,hls,hfl,hx⟩:=hv;unfold Len at hn;have HX:=hide hx;have Ij:=hide hfl;have Ey:=hide hls;have Ic:=hide hhi;have HR:=hide hr;have Jc:=hide hrb;have HHD:=hide hH;have Bl:=hide hbw;clear hx hhi hr hrb hfl hls hH hbw;go_enter Tryz.func48,Tryz.ntmps48;go_wp2
 go_loopg [1,5] xs.length (fun g kk i wr=>∃(q kq:Nat),q<=xs.length∧g=xs.length-q∧i=.int .i64 q∧kk=.int .i64 (kq:Int)∧Hid (k+(lss.take q).flatten.length=kq)∧Hid (Below w.heap.size w wr))
 case atStart=>exact⟨0,k,jg _,by omega,rfl,rfl,by simp[Hid],Bl⟩
 case round =>
  obtain⟨q,kq,hq,hg,rfl,rfl,D5,Ah⟩:=hrel;have HG:=hide hg;clear hg
  by_cases hlt:q<xs.length
  ·have hlq:q<lss.length:=by rw[uh Ey];exact hlt
   obtain⟨b,o,rfl,hel⟩:=uh HX q hlt hlq
   have hst:k+(lss.take (q+1)).flatten.length=kq+lss[q].length:=by
    rw[D8 _ _ hlq,je,←uh D5];omega
   have hkb:kq+lss[q].length<=1000000000:=by
    have h1:=O7 lss (q+1);have h2:=uh HR;have h3:=uh Jc;rw[uh Ij] at h2;omega
   have HH:Held kq lss[q] w:=by
    have h1:=uh HHD;rw[uh Ij] at h1;exact aag h1 hlq (uh D5)
   generalize lss[q]=lq at hel hst hkb HH;generalize xs[q]=x at hel;obtain⟨hlo,zi,cs,hcs,hc,⟨s0,rfl⟩,hll⟩:=hel;have hlen:lq.length=1:=by simp[hll]<;>omega
   rw[hlen] at hst hkb;rw[hll] at HH;have HST:=hide hst;clear hst hll hlen;have HA:=HH
   have Xu:Hid (∀w',Below w.heap.size w w'->w'.cell? ⟨b,o+q,none⟩=some (.int .i64 ((kq:Int)))):=by
    refine hide (fun w' hb=>(hb.cell (p:=⟨b,_,none⟩) (qj zi (uh Ic))).trans ?_);have h9:=HA 0 (by simp);simp only[ny,o8,mkV,jr,jh] at h9;simpa[Int.add_assoc] using h9
   clear HH hc hcs zi hlo HA;have c0:=uh Xu wr (uh Ah);go_wp2
   go_roundg (xs.length-(q+1))
   case measure=>have:=uh HG;omega
   case rel=>exact⟨q+1,kq+1,by omega,rfl,by go_num,by go_num,(by refine hide ?_;have:=uh HST;omega),Ah⟩
  ·have e:q=xs.length:=by omega
   have Lh:lss.length<=q:=by rw[uh Ey];omega
   have hfa:=Me lss q Lh;rw[hfa,←uh Ij] at D5
   have HE:Hid (kq=r):=by
    refine hide ?_;rw[←uh D5,←uh HR]
   clear e Lh hfa;go_wp2;go_ret;exact⟨(by rw[uh HE];rfl),Ah⟩
theorem aho (xs:List ku) (v:Value) (l:Lf) (K:Int) (k r lo hi:Nat) (w w0:bf) (hbw:Below w.heap.size w w0) (hK:K=(k:Int)) (hr:k+l.length=r) (hrb:r<=1000000000) (hv:Le 3 abk lo hi w v xs l) (hH:Held k l w) (hhi:hi<=w.heap.size) :
  Calls Tryz.prog 77 #[v,.int .i64 K] w0 (fun e w'=>e=.returned (.int .i64 (r:Int))∧Hid (Below w.heap.size w w')):=by
 subst hK;obtain⟨a,cap,lss,rfl,hn,hls,hfl,hx⟩:=hv;unfold Len at hn;have HX:=hide hx;have Ij:=hide hfl;have Ey:=hide hls;have Ic:=hide hhi;have HR:=hide hr;have Jc:=hide hrb;have HHD:=hide hH;have Bl:=hide hbw;clear hx hhi hr hrb hfl hls hH hbw;go_enter Tryz.func77,Tryz.ntmps77;go_wp2
 go_loopg [1,5] xs.length (fun g kk i wr=>∃(q kq:Nat),q<=xs.length∧g=xs.length-q∧i=.int .i64 q∧kk=.int .i64 (kq:Int)∧Hid (k+(lss.take q).flatten.length=kq)∧Hid (Below w.heap.size w wr))
 case atStart=>exact⟨0,k,jg _,by omega,rfl,rfl,by simp[Hid],Bl⟩
 case round =>
  obtain⟨q,kq,hq,hg,rfl,rfl,D5,Ah⟩:=hrel;have HG:=hide hg;clear hg
  by_cases hlt:q<xs.length
  ·have hlq:q<lss.length:=by rw[uh Ey];exact hlt
   obtain⟨b,o,rfl,hel⟩:=uh HX q hlt hlq
   have hst:k+(lss.take (q+1)).flatten.length=kq+lss[q].length:=by
    rw[D8 _ _ hlq,je,←uh D5];omega
   have hkb:kq+lss[q].length<=1000000000:=by
    have h1:=O7 lss (q+1);have h2:=uh HR;have h3:=uh Jc;rw[uh Ij] at h2;omega
   have HH:Held kq lss[q] w:=by
    have h1:=uh HHD;rw[uh Ij] at h1;exact aag h1 hlq (uh D5)
   generalize lss[q]=lq at hel hst hkb HH;generalize xs[q]=x at hel;obtain⟨hlo,zi,cs,hcs,hc,⟨s0,s1,s2,rfl⟩,hll⟩:=hel;have hlen:lq.length=3:=by simp[hll]<;>omega
   rw[hlen] at hst hkb;rw[hll] at HH;have HST:=hide hst;clear hst hll hlen;have HA:=HH
   have Xu:Hid (∀w',Below w.heap.size w w'->w'.cell? ⟨b,o+q*3,none⟩=some (.int .i64 ((kq:Int)))):=by
    refine hide (fun w' hb=>(hb.cell (p:=⟨b,_,none⟩) (qj zi (uh Ic))).trans ?_);have h9:=HA 0 (by simp);simp only[ny,o8,mkV,jr,jh] at h9;simpa[Int.add_assoc] using h9
   have Aw:Hid (∀w',Below w.heap.size w w'->w'.cell? ⟨b,o+q*3+1,none⟩=some (.int .i64 ((kq:Int)+1))):=by
    refine hide (fun w' hb=>(hb.cell (p:=⟨b,_,none⟩) (qj zi (uh Ic))).trans ?_);have h9:=HA 1 (by simp);simp only[ny,o8,mkV,jr,jh] at h9;simpa[Int.add_assoc] using h9
   have HC2:Hid (∀w',Below w.heap.size w w'->w'.cell? ⟨b,o+q*3+2,none⟩=some (.string (Hg (kq+2)))):=by
    refine hide (fun w' hb=>(hb.cell (p:=⟨b,_,none⟩) (qj zi (uh Ic))).trans ?_);have h9:=HA 2 (by simp);simp only[ny,o8,mkV,jr,jh] at h9;simpa using h9
   clear HH hc hcs zi hlo HA;have c0:=uh Xu wr (uh Ah);have c1:=uh Aw wr (uh Ah);have c2:=uh HC2 wr (uh Ah)
   have HT1:Hid (Calls Tryz.prog 41 #[.int .i64 ((kq:Int)+1+1)] wr.drew fun e w'=>e=.returned (.string (Hg (kq+2)))∧Hid (Below w.heap.size w w')∧w'.cell? ⟨b,o+q*3+2,none⟩=some (.string (Hg (kq+2)))):=by
    refine hide ((Lu _ (kq+2) _ (by omega) (by omega)).mono ?_);rintro e w' ⟨rfl,hb⟩;have yu:Below w.heap.size w w':=(uh Ah).drew.trans (hb.mono (uh Ah).size);exact⟨rfl,yu,uh HC2 w' yu⟩
   go_wp2_with fail
   go_region_held3 (fun w'=>w'.cell? ⟨b,o+q*3+2,none⟩=some (.string (Hg (kq+2)))) (go_keep) (first|(go_at_call 41;refine(uh HT1).mono ?_;rintro e w1 ⟨rfl,HB1,d2⟩))
   clear d2;clear c0 c1 c2;go_wp2
   go_roundg (xs.length-(q+1))
   case measure=>have:=uh HG;omega
   case rel=>exact⟨q+1,kq+3,by omega,rfl,by go_num,by go_num,(by refine hide ?_;have:=uh HST;omega),HB1⟩
  ·have e:q=xs.length:=by omega
   have Lh:lss.length<=q:=by rw[uh Ey];omega
   have hfa:=Me lss q Lh;rw[hfa,←uh Ij] at D5
   have HE:Hid (kq=r):=by
    refine hide ?_;rw[←uh D5,←uh HR]
   clear e Lh hfa;go_wp2;go_ret;exact⟨(by rw[uh HE];rfl),Ah⟩
theorem aor (xs:List (List ku)) (v:Value) (l:Lf) (K:Int) (k r lo hi:Nat) (w w0:bf) (hbw:Below w.heap.size w w0) (hK:K=(k:Int)) (hr:k+l.length=r) (hrb:r<=1000000000) (hv:Le 1 ab1 lo hi w v xs l) (hH:Held k l w) (hhi:hi<=w.heap.size) :
  Calls Tryz.prog 78 #[v,.int .i64 K] w0 (fun e w'=>e=.returned (.int .i64 (r:Int))∧Hid (Below w.heap.size w w')):=by
 subst hK;obtain⟨a,cap,lss,rfl,hn,hls,hfl,hx⟩:=hv;unfold Len at hn;have HX:=hide hx;have Ij:=hide hfl;have Ey:=hide hls;have Ic:=hide hhi;have HR:=hide hr;have Jc:=hide hrb;have HHD:=hide hH;have Bl:=hide hbw;clear hx hhi hr hrb hfl hls hH hbw;go_enter Tryz.func78,Tryz.ntmps78;go_wp2
 go_loopg [1,5] xs.length (fun g kk i wr=>∃(q kq:Nat),q<=xs.length∧g=xs.length-q∧i=.int .i64 q∧kk=.int .i64 (kq:Int)∧Hid (k+(lss.take q).flatten.length=kq)∧Hid (Below w.heap.size w wr))
 case atStart=>exact⟨0,k,jg _,by omega,rfl,rfl,by simp[Hid],Bl⟩
 case round =>
  obtain⟨q,kq,hq,hg,rfl,rfl,D5,Ah⟩:=hrel;have HG:=hide hg;clear hg
  by_cases hlt:q<xs.length
  ·have hlq:q<lss.length:=by rw[uh Ey];exact hlt
   obtain⟨b,o,rfl,hel⟩:=uh HX q hlt hlq
   have hst:k+(lss.take (q+1)).flatten.length=kq+lss[q].length:=by
    rw[D8 _ _ hlq,je,←uh D5];omega
   have hkb:kq+lss[q].length<=1000000000:=by
    have h1:=O7 lss (q+1);have h2:=uh HR;have h3:=uh Jc;rw[uh Ij] at h2;omega
   have HH:Held kq lss[q] w:=by
    have h1:=uh HHD;rw[uh Ij] at h1;exact aag h1 hlq (uh D5)
   generalize lss[q]=lq at hel hst hkb HH;generalize xs[q]=x at hel;obtain⟨hlo,zi,cs,hcs,hc,v0,l0,rfl,g0,hll⟩:=hel;obtain⟨sa0,sc0,rfl⟩:=g0.shape;have G0:=hide g0;have hlen:lq.length=l0.length:=by simp[hll]<;>omega
   rw[hlen] at hst hkb;rw[hll] at HH;have HST:=hide hst;clear hst hll hlen g0;have HJ0:=hide HH;have a0n:=(hc 0 (by simp)).1;simp only[jr,jh,ny,o8] at a0n;have Xu:Hid (∀w',Below w.heap.size w w'->w'.cell? ⟨b,o+q,none⟩=some (.slice sa0 (x).length sc0)):=hide (fun w' hb=>(hb.cell (p:=⟨b,_,none⟩) (qj zi (uh Ic))).trans a0n);clear a0n;clear HH hc hcs zi hlo;have c0:=uh Xu wr (uh Ah);obtain⟨r1,hr1⟩:∃r,kq+0+l0.length=r:=⟨_,rfl⟩;have a0j:r1<=1000000000:=by omega
   have HR1:=hide hr1;clear hr1;go_wp2_with fail;refine(aho _ _ _ _ (kq+0) r1 lo hi w _ (uh Ah) (by omega) (uh HR1) a0j (uh G0) (by have h9:=uh HJ0;first|exact h9|(refine Held.at h9 ?_;simp;omega)) (uh Ic)).mono ?_
   rintro e w1 ⟨rfl,HB1⟩;clear c0;go_wp2
   go_roundg (xs.length-(q+1))
   case measure=>have:=uh HG;omega
   case rel=>exact⟨q+1,r1+0,by omega,rfl,by go_num,by go_num,(by refine hide ?_;have:=uh HST;have:=uh HR1;omega),HB1⟩
  ·have e:q=xs.length:=by omega
   have Lh:lss.length<=q:=by rw[uh Ey];omega
   have hfa:=Me lss q Lh;rw[hfa,←uh Ij] at D5
   have HE:Hid (kq=r):=by
    refine hide ?_;rw[←uh D5,←uh HR]
   clear e Lh hfa;go_wp2;go_ret;exact⟨(by rw[uh HE];rfl),Ah⟩
theorem ahp (xs:List jw) (v:Value) (l:Lf) (K:Int) (k r lo hi:Nat) (w w0:bf) (hbw:Below w.heap.size w w0) (hK:K=(k:Int)) (hr:k+l.length=r) (hrb:r<=1000000000) (hv:Le 2 abl lo hi w v xs l) (hH:Held k l w) (hhi:hi<=w.heap.size) :
  Calls Tryz.prog 46 #[v,.int .i64 K] w0 (fun e w'=>e=.returned (.int .i64 (r:Int))∧Hid (Below w.heap.size w w')):=by
 subst hK;obtain⟨a,cap,lss,rfl,hn,hls,hfl,hx⟩:=hv;unfold Len at hn;have HX:=hide hx;have Ij:=hide hfl;have Ey:=hide hls;have Ic:=hide hhi;have HR:=hide hr;have Jc:=hide hrb;have HHD:=hide hH;have Bl:=hide hbw;clear hx hhi hr hrb hfl hls hH hbw;go_enter Tryz.func46,Tryz.ntmps46;go_wp2
 go_loopg [1,5] xs.length (fun g kk i wr=>∃(q kq:Nat),q<=xs.length∧g=xs.length-q∧i=.int .i64 q∧kk=.int .i64 (kq:Int)∧Hid (k+(lss.take q).flatten.length=kq)∧Hid (Below w.heap.size w wr))
 case atStart=>exact⟨0,k,jg _,by omega,rfl,rfl,by simp[Hid],Bl⟩
 case round =>
  obtain⟨q,kq,hq,hg,rfl,rfl,D5,Ah⟩:=hrel;have HG:=hide hg;clear hg
  by_cases hlt:q<xs.length
  ·have hlq:q<lss.length:=by rw[uh Ey];exact hlt
   obtain⟨b,o,rfl,hel⟩:=uh HX q hlt hlq
   have hst:k+(lss.take (q+1)).flatten.length=kq+lss[q].length:=by
    rw[D8 _ _ hlq,je,←uh D5];omega
   have hkb:kq+lss[q].length<=1000000000:=by
    have h1:=O7 lss (q+1);have h2:=uh HR;have h3:=uh Jc;rw[uh Ij] at h2;omega
   have HH:Held kq lss[q] w:=by
    have h1:=uh HHD;rw[uh Ij] at h1;exact aag h1 hlq (uh D5)
   generalize lss[q]=lq at hel hst hkb HH;generalize xs[q]=x at hel;obtain⟨hlo,zi,cs,hcs,hc,⟨s0,s1,rfl⟩,hll⟩:=hel;have hlen:lq.length=2:=by simp[hll]<;>omega
   rw[hlen] at hst hkb;rw[hll] at HH;have HST:=hide hst;clear hst hll hlen;have HA:=HH
   have Xu:Hid (∀w',Below w.heap.size w w'->w'.cell? ⟨b,o+q*2,none⟩=some (.string (Hg (kq+0)))):=by
    refine hide (fun w' hb=>(hb.cell (p:=⟨b,_,none⟩) (qj zi (uh Ic))).trans ?_);have h9:=HA 0 (by simp);simp only[ny,o8,mkV,jr,jh] at h9;simpa using h9
   have Aw:Hid (∀w',Below w.heap.size w w'->w'.cell? ⟨b,o+q*2+1,none⟩=some (.int .i64 ((kq:Int)+1))):=by
    refine hide (fun w' hb=>(hb.cell (p:=⟨b,_,none⟩) (qj zi (uh Ic))).trans ?_);have h9:=HA 1 (by simp);simp only[ny,o8,mkV,jr,jh] at h9;simpa[Int.add_assoc] using h9
   clear HH hc hcs zi hlo HA;have c0:=uh Xu wr (uh Ah)
   have HT1:Hid (Calls Tryz.prog 41 #[.int .i64 ((kq:Int))] wr.drew fun e w'=>e=.returned (.string (Hg (kq+0)))∧Hid (Below w.heap.size w w')∧w'.cell? ⟨b,o+q*2,none⟩=some (.string (Hg (kq+0)))):=by
    refine hide ((Lu _ (kq+0) _ (by omega) (by omega)).mono ?_);rintro e w' ⟨rfl,hb⟩;have yu:Below w.heap.size w w':=(uh Ah).drew.trans (hb.mono (uh Ah).size);exact⟨rfl,yu,uh Xu w' yu⟩
   go_wp2_with fail
   go_region_held3 (fun w'=>w'.cell? ⟨b,o+q*2,none⟩=some (.string (Hg (kq+0)))) (go_keep) (first|(go_at_call 41;refine(uh HT1).mono ?_;rintro e w1 ⟨rfl,HB1,d0⟩))
   clear d0;clear c0;have c1:=uh Aw w1 (uh HB1);go_wp2
   go_roundg (xs.length-(q+1))
   case measure=>have:=uh HG;omega
   case rel=>exact⟨q+1,kq+2,by omega,rfl,by go_num,by go_num,(by refine hide ?_;have:=uh HST;omega),HB1⟩
  ·have e:q=xs.length:=by omega
   have Lh:lss.length<=q:=by rw[uh Ey];omega
   have hfa:=Me lss q Lh;rw[hfa,←uh Ij] at D5
   have HE:Hid (kq=r):=by
    refine hide ?_;rw[←uh D5,←uh HR]
   clear e Lh hfa;go_wp2;go_ret;exact⟨(by rw[uh HE];rfl),Ah⟩
theorem atz (xs:List lu) (v:Value) (l:Lf) (K:Int) (k r lo hi:Nat) (w w0:bf) (hbw:Below w.heap.size w w0) (hK:K=(k:Int)) (hr:k+l.length=r) (hrb:r<=1000000000) (hv:Le 6 ain lo hi w v xs l) (hH:Held k l w) (hhi:hi<=w.heap.size) :
  Calls Tryz.prog 49 #[v,.int .i64 K] w0 (fun e w'=>e=.returned (.int .i64 (r:Int))∧Hid (Below w.heap.size w w')):=by
 subst hK;obtain⟨a,cap,lss,rfl,hn,hls,hfl,hx⟩:=hv;unfold Len at hn;have HX:=hide hx;have Ij:=hide hfl;have Ey:=hide hls;have Ic:=hide hhi;have HR:=hide hr;have Jc:=hide hrb;have HHD:=hide hH;have Bl:=hide hbw;clear hx hhi hr hrb hfl hls hH hbw;go_enter Tryz.func49,Tryz.ntmps49;go_wp2
 go_loopg [1,5] xs.length (fun g kk i wr=>∃(q kq:Nat),q<=xs.length∧g=xs.length-q∧i=.int .i64 q∧kk=.int .i64 (kq:Int)∧Hid (k+(lss.take q).flatten.length=kq)∧Hid (Below w.heap.size w wr))
 case atStart=>exact⟨0,k,jg _,by omega,rfl,rfl,by simp[Hid],Bl⟩
 case round =>
  obtain⟨q,kq,hq,hg,rfl,rfl,D5,Ah⟩:=hrel;have HG:=hide hg;clear hg
  by_cases hlt:q<xs.length
  ·have hlq:q<lss.length:=by rw[uh Ey];exact hlt
   obtain⟨b,o,rfl,hel⟩:=uh HX q hlt hlq
   have hst:k+(lss.take (q+1)).flatten.length=kq+lss[q].length:=by
    rw[D8 _ _ hlq,je,←uh D5];omega
   have hkb:kq+lss[q].length<=1000000000:=by
    have h1:=O7 lss (q+1);have h2:=uh HR;have h3:=uh Jc;rw[uh Ij] at h2;omega
   have HH:Held kq lss[q] w:=by
    have h1:=uh HHD;rw[uh Ij] at h1;exact aag h1 hlq (uh D5)
   generalize lss[q]=lq at hel hst hkb HH;generalize xs[q]=x at hel;obtain⟨hlo,zi,cs,hcs,hc,s0,s1,s2,v3,v4,v5,l3,l4,l5,rfl,g3,g4,g5,hll⟩:=hel;obtain⟨sa3,sc3,rfl⟩:=g3.shape;have G3:=hide g3;obtain⟨sa4,sc4,rfl⟩:=g4.shape;have G4:=hide g4;obtain⟨sa5,sc5,rfl⟩:=g5.shape;have G5:=hide g5;have hlen:lq.length=3+l3.length+l4.length+l5.length:=by simp[hll]<;>omega
   rw[hlen] at hst hkb;rw[hll] at HH;have HST:=hide hst;clear hst hll hlen g3 g4 g5;have HA:=HH.left.left.left
   have Xu:Hid (∀w',Below w.heap.size w w'->w'.cell? ⟨b,o+q*6,none⟩=some (.int .i64 ((kq:Int)))):=by
    refine hide (fun w' hb=>(hb.cell (p:=⟨b,_,none⟩) (qj zi (uh Ic))).trans ?_);have h9:=HA 0 (by simp);simp only[ny,o8,mkV,jr,jh] at h9;simpa[Int.add_assoc] using h9
   have Aw:Hid (∀w',Below w.heap.size w w'->w'.cell? ⟨b,o+q*6+1,none⟩=some (.string (Hg (kq+1)))):=by
    refine hide (fun w' hb=>(hb.cell (p:=⟨b,_,none⟩) (qj zi (uh Ic))).trans ?_);have h9:=HA 1 (by simp);simp only[ny,o8,mkV,jr,jh] at h9;simpa using h9
   have HC2:Hid (∀w',Below w.heap.size w w'->w'.cell? ⟨b,o+q*6+2,none⟩=some (.int .i64 ((kq:Int)+1+1))):=by
    refine hide (fun w' hb=>(hb.cell (p:=⟨b,_,none⟩) (qj zi (uh Ic))).trans ?_);have h9:=HA 2 (by simp);simp only[ny,o8,mkV,jr,jh] at h9;simpa[Int.add_assoc] using h9
   have HJ3:=hide HH.left.left.right;have aiq:=(hc 3 (by simp)).1;simp only[jr,jh,ny,o8] at aiq;have Vm:Hid (∀w',Below w.heap.size w w'->w'.cell? ⟨b,o+q*6+3,none⟩=some (.slice sa3 (x.ak).length sc3)):=hide (fun w' hb=>(hb.cell (p:=⟨b,_,none⟩) (qj zi (uh Ic))).trans aiq);clear aiq;have HJ4:=hide HH.left.right;have air:=(hc 4 (by simp)).1;simp only[jr,jh,ny,o8] at air;have HC4:Hid (∀w',Below w.heap.size w w'->w'.cell? ⟨b,o+q*6+4,none⟩=some (.slice sa4 (x.code).length sc4)):=hide (fun w' hb=>(hb.cell (p:=⟨b,_,none⟩) (qj zi (uh Ic))).trans air);clear air;have HJ5:=hide HH.right;have ais:=(hc 5 (by simp)).1;simp only[jr,jh,ny,o8] at ais;have HC5:Hid (∀w',Below w.heap.size w w'->w'.cell? ⟨b,o+q*6+5,none⟩=some (.slice sa5 (x.args).length sc5)):=hide (fun w' hb=>(hb.cell (p:=⟨b,_,none⟩) (qj zi (uh Ic))).trans ais);clear ais;clear HH hc hcs zi hlo HA;have c0:=uh Xu wr (uh Ah);have c1:=uh Aw wr (uh Ah)
   have HT1:Hid (Calls Tryz.prog 41 #[.int .i64 ((kq:Int)+1)] wr.drew fun e w'=>e=.returned (.string (Hg (kq+1)))∧Hid (Below w.heap.size w w')∧w'.cell? ⟨b,o+q*6+1,none⟩=some (.string (Hg (kq+1)))):=by
    refine hide ((Lu _ (kq+1) _ (by omega) (by omega)).mono ?_);rintro e w' ⟨rfl,hb⟩;have yu:Below w.heap.size w w':=(uh Ah).drew.trans (hb.mono (uh Ah).size);exact⟨rfl,yu,uh Aw w' yu⟩
   go_wp2_with fail
   go_region_held3 (fun w'=>w'.cell? ⟨b,o+q*6+1,none⟩=some (.string (Hg (kq+1)))) (go_keep) (first|(go_at_call 41;refine(uh HT1).mono ?_;rintro e w1 ⟨rfl,HB1,d1⟩))
   clear d1;clear c0 c1;have c2:=uh HC2 w1 (uh HB1);have c3:=uh Vm w1 (uh HB1);obtain⟨r2,hr2⟩:∃r,kq+3+l3.length=r:=⟨_,rfl⟩;have ac5:r2<=1000000000:=by omega
   have HR2:=hide hr2;clear hr2;go_wp2_with fail;refine(afl _ _ _ _ (kq+3) r2 lo hi w _ (uh HB1) (by omega) (uh HR2) ac5 (uh G3) (by have h9:=uh HJ3;first|exact h9|(refine Held.at h9 ?_;simp;omega)) (uh Ic)).mono ?_
   rintro e w2 ⟨rfl,HB2⟩;clear c2 c3;have c4:=uh HC4 w2 (uh HB2);obtain⟨r3,hr3⟩:∃r,r2+0+l4.length=r:=⟨_,rfl⟩;have aio:r3<=1000000000:=by have:=uh HR2;omega
   have HR3:=hide hr3;clear hr3;go_wp2_with fail;refine(aho _ _ _ _ (r2+0) r3 lo hi w _ (uh HB2) (by omega) (uh HR3) aio (uh G4) (by have h9:=uh HJ4;have:=uh HR2;first|exact h9|(refine Held.at h9 ?_;simp;omega)) (uh Ic)).mono ?_
   rintro e w3 ⟨rfl,HB3⟩;clear c4;have c5:=uh HC5 w3 (uh HB3);obtain⟨r4,hr4⟩:∃r,r3+0+l5.length=r:=⟨_,rfl⟩;have aip:r4<=1000000000:=by have:=uh HR2;have:=uh HR3;omega
   have HR4:=hide hr4;clear hr4;go_wp2_with fail;refine(aor _ _ _ _ (r3+0) r4 lo hi w _ (uh HB3) (by omega) (uh HR4) aip (uh G5) (by have h9:=uh HJ5;have:=uh HR2;have:=uh HR3;first|exact h9|(refine Held.at h9 ?_;simp;omega)) (uh Ic)).mono ?_
   rintro e w4 ⟨rfl,HB4⟩;clear c5;go_wp2
   go_roundg (xs.length-(q+1))
   case measure=>have:=uh HG;omega
   case rel=>exact⟨q+1,r4+0,by omega,rfl,by go_num,by go_num,(by refine hide ?_;have:=uh HST;have:=uh HR2;have:=uh HR3;have:=uh HR4;omega),HB4⟩
  ·have e:q=xs.length:=by omega
   have Lh:lss.length<=q:=by rw[uh Ey];omega
   have hfa:=Me lss q Lh;rw[hfa,←uh Ij] at D5
   have HE:Hid (kq=r):=by
    refine hide ?_;rw[←uh D5,←uh HR]
   clear e Lh hfa;go_wp2;go_ret;exact⟨(by rw[uh HE];rfl),Ah⟩
theorem aos (xs:List dw) (v:Value) (l:Lf) (K:Int) (k r lo hi:Nat) (w w0:bf) (hbw:Below w.heap.size w w0) (hK:K=(k:Int)) (hr:k+l.length=r) (hrb:r<=1000000000) (hv:Le 7 aa0 lo hi w v xs l) (hH:Held k l w) (hhi:hi<=w.heap.size) :
  Calls Tryz.prog 18 #[v,.int .i64 K] w0 (fun e w'=>e=.returned (.int .i64 (r:Int))∧Hid (Below w.heap.size w w')):=by
 subst hK;obtain⟨a,cap,lss,rfl,hn,hls,hfl,hx⟩:=hv;unfold Len at hn;have HX:=hide hx;have Ij:=hide hfl;have Ey:=hide hls;have Ic:=hide hhi;have HR:=hide hr;have Jc:=hide hrb;have HHD:=hide hH;have Bl:=hide hbw;clear hx hhi hr hrb hfl hls hH hbw;go_enter Tryz.func18,Tryz.ntmps18;go_wp2
 go_loopg [1,5] xs.length (fun g kk i wr=>∃(q kq:Nat),q<=xs.length∧g=xs.length-q∧i=.int .i64 q∧kk=.int .i64 (kq:Int)∧Hid (k+(lss.take q).flatten.length=kq)∧Hid (Below w.heap.size w wr))
 case atStart=>exact⟨0,k,jg _,by omega,rfl,rfl,by simp[Hid],Bl⟩
 case round =>
  obtain⟨q,kq,hq,hg,rfl,rfl,D5,Ah⟩:=hrel;have HG:=hide hg;clear hg
  by_cases hlt:q<xs.length
  ·have hlq:q<lss.length:=by rw[uh Ey];exact hlt
   obtain⟨b,o,rfl,hel⟩:=uh HX q hlt hlq
   have hst:k+(lss.take (q+1)).flatten.length=kq+lss[q].length:=by
    rw[D8 _ _ hlq,je,←uh D5];omega
   have hkb:kq+lss[q].length<=1000000000:=by
    have h1:=O7 lss (q+1);have h2:=uh HR;have h3:=uh Jc;rw[uh Ij] at h2;omega
   have HH:Held kq lss[q] w:=by
    have h1:=uh HHD;rw[uh Ij] at h1;exact aag h1 hlq (uh D5)
   generalize lss[q]=lq at hel hst hkb HH;generalize xs[q]=x at hel;obtain⟨hlo,zi,cs,hcs,hc,s0,v1,v2,v3,v4,v5,v6,l1,l2,l3,l4,l5,l6,rfl,g1,g2,g3,g4,g5,g6,hll⟩:=hel;obtain⟨sa1,sc1,rfl⟩:=g1.shape;have G1:=hide g1;obtain⟨sa2,sc2,rfl⟩:=g2.shape;have G2:=hide g2;obtain⟨sa3,sc3,rfl⟩:=g3.shape;have G3:=hide g3;obtain⟨sa4,sc4,rfl⟩:=g4.shape;have G4:=hide g4;obtain⟨sa5,sc5,rfl⟩:=g5.shape;have G5:=hide g5;obtain⟨sa6,sc6,rfl⟩:=g6.shape;have G6:=hide g6;have hlen:lq.length=1+l1.length+l2.length+l3.length+l4.length+l5.length+l6.length:=by simp[hll]<;>omega
   rw[hlen] at hst hkb;rw[hll] at HH;have HST:=hide hst;clear hst hll hlen g1 g2 g3 g4 g5 g6;have HA:=HH.left.left.left.left.left.left
   have Xu:Hid (∀w',Below w.heap.size w w'->w'.cell? ⟨b,o+q*7,none⟩=some (.string (Hg (kq+0)))):=by
    refine hide (fun w' hb=>(hb.cell (p:=⟨b,_,none⟩) (qj zi (uh Ic))).trans ?_);have h9:=HA 0 (by simp);simp only[ny,o8,mkV,jr,jh] at h9;simpa using h9
   have HJ1:=hide HH.left.left.left.left.left.right;have a0o:=(hc 1 (by simp)).1;simp only[jr,jh,ny,o8] at a0o;have Aw:Hid (∀w',Below w.heap.size w w'->w'.cell? ⟨b,o+q*7+1,none⟩=some (.slice sa1 (x.ins).length sc1)):=hide (fun w' hb=>(hb.cell (p:=⟨b,_,none⟩) (qj zi (uh Ic))).trans a0o);clear a0o;have HJ2:=hide HH.left.left.left.left.right;have a0p:=(hc 2 (by simp)).1;simp only[jr,jh,ny,o8] at a0p;have HC2:Hid (∀w',Below w.heap.size w w'->w'.cell? ⟨b,o+q*7+2,none⟩=some (.slice sa2 (x.ak).length sc2)):=hide (fun w' hb=>(hb.cell (p:=⟨b,_,none⟩) (qj zi (uh Ic))).trans a0p);clear a0p;have HJ3:=hide HH.left.left.left.right;have aiq:=(hc 3 (by simp)).1;simp only[jr,jh,ny,o8] at aiq;have Vm:Hid (∀w',Below w.heap.size w w'->w'.cell? ⟨b,o+q*7+3,none⟩=some (.slice sa3 (x.iq).length sc3)):=hide (fun w' hb=>(hb.cell (p:=⟨b,_,none⟩) (qj zi (uh Ic))).trans aiq);clear aiq;have HJ4:=hide HH.left.left.right;have air:=(hc 4 (by simp)).1;simp only[jr,jh,ny,o8] at air;have HC4:Hid (∀w',Below w.heap.size w w'->w'.cell? ⟨b,o+q*7+4,none⟩=some (.slice sa4 (x.eu).length sc4)):=hide (fun w' hb=>(hb.cell (p:=⟨b,_,none⟩) (qj zi (uh Ic))).trans air);clear air;have HJ5:=hide HH.left.right;have ais:=(hc 5 (by simp)).1;simp only[jr,jh,ny,o8] at ais;have HC5:Hid (∀w',Below w.heap.size w w'->w'.cell? ⟨b,o+q*7+5,none⟩=some (.slice sa5 (x.au).length sc5)):=hide (fun w' hb=>(hb.cell (p:=⟨b,_,none⟩) (qj zi (uh Ic))).trans ais);clear ais;have HJ6:=hide HH.right;have a0q:=(hc 6 (by simp)).1;simp only[jr,jh,ny,o8] at a0q;have HC6:Hid (∀w',Below w.heap.size w w'->w'.cell? ⟨b,o+q*7+6,none⟩=some (.slice sa6 (x.body).length sc6)):=hide (fun w' hb=>(hb.cell (p:=⟨b,_,none⟩) (qj zi (uh Ic))).trans a0q);clear a0q;clear HH hc hcs zi hlo HA;have c0:=uh Xu wr (uh Ah)
   have HT1:Hid (Calls Tryz.prog 41 #[.int .i64 ((kq:Int))] wr.drew fun e w'=>e=.returned (.string (Hg (kq+0)))∧Hid (Below w.heap.size w w')∧w'.cell? ⟨b,o+q*7,none⟩=some (.string (Hg (kq+0)))):=by
    refine hide ((Lu _ (kq+0) _ (by omega) (by omega)).mono ?_);rintro e w' ⟨rfl,hb⟩;have yu:Below w.heap.size w w':=(uh Ah).drew.trans (hb.mono (uh Ah).size);exact⟨rfl,yu,uh Xu w' yu⟩
   go_wp2_with fail
   go_region_held3 (fun w'=>w'.cell? ⟨b,o+q*7,none⟩=some (.string (Hg (kq+0)))) (go_keep) (first|(go_at_call 41;refine(uh HT1).mono ?_;rintro e w1 ⟨rfl,HB1,d0⟩))
   clear d0;clear c0;have c1:=uh Aw w1 (uh HB1);obtain⟨r2,hr2⟩:∃r,kq+1+l1.length=r:=⟨_,rfl⟩;have ac5:r2<=1000000000:=by omega
   have HR2:=hide hr2;clear hr2;go_wp2_with fail;refine(ahp _ _ _ _ (kq+1) r2 lo hi w _ (uh HB1) (by omega) (uh HR2) ac5 (uh G1) (by have h9:=uh HJ1;first|exact h9|(refine Held.at h9 ?_;simp;omega)) (uh Ic)).mono ?_
   rintro e w2 ⟨rfl,HB2⟩;clear c1;have c2:=uh HC2 w2 (uh HB2);obtain⟨r3,hr3⟩:∃r,r2+0+l2.length=r:=⟨_,rfl⟩;have aio:r3<=1000000000:=by have:=uh HR2;omega
   have HR3:=hide hr3;clear hr3;go_wp2_with fail;refine(ahp _ _ _ _ (r2+0) r3 lo hi w _ (uh HB2) (by omega) (uh HR3) aio (uh G2) (by have h9:=uh HJ2;have:=uh HR2;first|exact h9|(refine Held.at h9 ?_;simp;omega)) (uh Ic)).mono ?_
   rintro e w3 ⟨rfl,HB3⟩;clear c2;have c3:=uh Vm w3 (uh HB3);obtain⟨r4,hr4⟩:∃r,r3+0+l3.length=r:=⟨_,rfl⟩;have aip:r4<=1000000000:=by have:=uh HR2;have:=uh HR3;omega
   have HR4:=hide hr4;clear hr4;go_wp2_with fail;refine(afl _ _ _ _ (r3+0) r4 lo hi w _ (uh HB3) (by omega) (uh HR4) aip (uh G3) (by have h9:=uh HJ3;have:=uh HR2;have:=uh HR3;first|exact h9|(refine Held.at h9 ?_;simp;omega)) (uh Ic)).mono ?_
   rintro e w4 ⟨rfl,HB4⟩;clear c3;have c4:=uh HC4 w4 (uh HB4);obtain⟨r5,hr5⟩:∃r,r4+0+l4.length=r:=⟨_,rfl⟩;have a0k:r5<=1000000000:=by have:=uh HR2;have:=uh HR3;have:=uh HR4;omega
   have Xk:=hide hr5;clear hr5;go_wp2_with fail;refine(ajw _ _ _ _ (r4+0) r5 lo hi w _ (uh HB4) (by omega) (uh Xk) a0k (uh G4) (by have h9:=uh HJ4;have:=uh HR2;have:=uh HR3;have:=uh HR4;first|exact h9|(refine Held.at h9 ?_;simp;omega)) (uh Ic)).mono ?_
   rintro e w5 ⟨rfl,Hf⟩;clear c4;have c5:=uh HC5 w5 (uh Hf);obtain⟨r6,hr6⟩:∃r,r5+0+l5.length=r:=⟨_,rfl⟩;have a0l:r6<=1000000000:=by have:=uh HR2;have:=uh HR3;have:=uh HR4;have:=uh Xk;omega
   have HR6:=hide hr6;clear hr6;go_wp2_with fail;refine(ajw _ _ _ _ (r5+0) r6 lo hi w _ (uh Hf) (by omega) (uh HR6) a0l (uh G5) (by have h9:=uh HJ5;have:=uh HR2;have:=uh HR3;have:=uh HR4;have:=uh Xk;first|exact h9|(refine Held.at h9 ?_;simp;omega)) (uh Ic)).mono ?_
   rintro e w6 ⟨rfl,Wx⟩;clear c5;have c6:=uh HC6 w6 (uh Wx);obtain⟨r7,hr7⟩:∃r,r6+0+l6.length=r:=⟨_,rfl⟩;have a0m:r7<=1000000000:=by have:=uh HR2;have:=uh HR3;have:=uh HR4;have:=uh Xk;have:=uh HR6;omega
   have HR7:=hide hr7;clear hr7;go_wp2_with fail;refine(atz _ _ _ _ (r6+0) r7 lo hi w _ (uh Wx) (by omega) (uh HR7) a0m (uh G6) (by have h9:=uh HJ6;have:=uh HR2;have:=uh HR3;have:=uh HR4;have:=uh Xk;have:=uh HR6;first|exact h9|(refine Held.at h9 ?_;simp;omega)) (uh Ic)).mono ?_
   rintro e w7 ⟨rfl,Zp⟩;clear c6;go_wp2
   go_roundg (xs.length-(q+1))
   case measure=>have:=uh HG;omega
   case rel=>exact⟨q+1,r7+0,by omega,rfl,by go_num,by go_num,(by refine hide ?_;have:=uh HST;have:=uh HR2;have:=uh HR3;have:=uh HR4;have:=uh Xk;have:=uh HR6;have:=uh HR7;omega),Zp⟩
  ·have e:q=xs.length:=by omega
   have Lh:lss.length<=q:=by rw[uh Ey];omega
   have hfa:=Me lss q Lh;rw[hfa,←uh Ij] at D5
   have HE:Hid (kq=r):=by
    refine hide ?_;rw[←uh D5,←uh HR]
   clear e Lh hfa;go_wp2;go_ret;exact⟨(by rw[uh HE];rfl),Ah⟩
theorem a5a {α:Type} (f:α->Nat) (xs:List α):Vh f xs xs.length=(xs.map f).sum:=by unfold Vh;rw[Eb]
theorem Le.len {α:Type} {sz:Nat} {R:Nat->Nat->bf->Nat->Nat->List Value->α->Lf->Prop} {f:α->Nat} (hR:∀lo hi w b o cs x l,R lo hi w b o cs x l->l.length=f x) {lo hi:Nat} {w:bf} {v:Value} {xs:List α} {l:Lf} (h:Le sz R lo hi w v xs l):l.length=Vh f xs xs.length:=by
 obtain⟨a,cap,lss,h1,h2,h3,rfl,h5⟩:=h
 have h9:lss.map List.length=xs.map f:=by
  refine List.ext_getElem (by simp[h3]) (fun i g1 g2=>?_);rw[List.getElem_map,List.getElem_map];obtain⟨b,o,_,_,_,cs,_,_,hr⟩:=h5 i (by simpa using g2) (by simpa using g1);exact hR _ _ _ _ _ _ _ _ hr
 rw[a5a,←h9,List.length_flatten]
theorem aot (lo hi:Nat) (w:bf) (b o:Nat) (cs:List Value) (x:dh) (l:Lf) (h:ae2 lo hi w b o cs x l):l.length=mStr x:=by rw[h.2];rfl
theorem aou (lo hi:Nat) (w:bf) (b o:Nat) (cs:List Value) (x:Int) (l:Lf) (h:ae3 lo hi w b o cs x l):l.length=akz x:=by rw[h.2];rfl
theorem al7 (lo hi:Nat) (w:bf) (b o:Nat) (cs:List Value) (x:ku) (l:Lf) (h:abk lo hi w b o cs x l):l.length=ajx x:=by rw[h.2];rfl
theorem al8 (lo hi:Nat) (w:bf) (b o:Nat) (cs:List Value) (x:jw) (l:Lf) (h:abl lo hi w b o cs x l):l.length=ajy x:=by rw[h.2];rfl
theorem at1 (lo hi:Nat) (w:bf) (b o:Nat) (cs:List Value) (x:List ku) (l:Lf) (h:ab1 lo hi w b o cs x l):l.length=ajz x:=by
 obtain⟨v,l0,_,h1,rfl⟩:=h;exact h1.len al7
theorem a0r (lo hi:Nat) (w:bf) (b o:Nat) (cs:List Value) (x:lu) (l:Lf) (h:ain lo hi w b o cs x l):l.length=aov x:=by
 obtain⟨_,_,_,_,_,_,l3,l4,l5,_,h3,h4,h5,rfl⟩:=h;simp only[je,uf,A8,h3.len aot,h4.len al7,h5.len at1];unfold aov;omega
theorem at6 (lo hi:Nat) (w:bf) (b o:Nat) (cs:List Value) (x:dw) (l:Lf) (h:aa0 lo hi w b o cs x l):l.length=aga x:=by
 obtain⟨_,_,_,_,_,_,_,l1,l2,l3,l4,l5,l6,_,h1,h2,h3,h4,h5,h6,rfl⟩:=h;simp only[je,uf,A8,h1.len al8,h2.len al8,h3.len aot,h4.len aou,h5.len aou,h6.len a0r];unfold aga;omega
theorem am1 (ks:List dw) (v:Value) (l:Lf) (lo hi r:Nat) (w:bf) (hv:Le 7 aa0 lo hi w v ks l) (hhi:hi<=w.heap.size) (hr:1+l.length=r) (hb:r<=1000000000) :
  Calls Tryz.prog 7 #[.agg #[v],.int .i64 1] w (aa4 lo hi 1 r l w):=by
 obtain⟨a,cap,rfl⟩:=hv.shape;have hA:Below w.heap.size w (w.alloc (.cells #[.slice a ks.length cap] 24)):=(gy _ _).alloc (gq _) _;have hM:Mk lo hi w (w.alloc (.cells #[.slice a ks.length cap] 24)):=Mk.of_below hA hhi;have HX:Hid (X lo hi [] w (w.alloc (.cells #[.slice a ks.length cap] 24))):=hide (X.of_below hA hhi);have HC:=hide (aoq ks _ l 1 1 r lo hi _ rfl hr hb (hv.stays ada hM) (jq hhi hM.size));clear hv hhi hb hA hM hr;go_enter Tryz.func7,Tryz.ntmps7;go_wp2_with fail;refine(uh HC).mono ?_;rintro e w1 ⟨rfl,hm⟩;have H1:=hide ((uh HX).trans hm);clear hm;go_wp2;go_ret;exact⟨rfl,uh H1⟩
theorem am2 (ks:List dw) (v:Value) (l:Lf) (lo hi r:Nat) (w:bf) (hv:Le 7 aa0 lo hi w v ks l) (hH:Held 1 l w) (hhi:hi<=w.heap.size) (hr:1+l.length=r) (hb:r<=1000000000) :
  Calls Tryz.prog 8 #[.agg #[v],.int .i64 1] w (fun e w'=>e=.returned (.int .i64 (r:Int))∧Hid (Below w.heap.size w w')):=by
 obtain⟨a,cap,rfl⟩:=hv.shape;have hA:Below w.heap.size w (w.alloc (.cells #[.slice a ks.length cap] 24)):=(gy _ _).alloc (gq _) _;have HC:=hide (aos ks _ l 1 1 r lo hi w _ hA rfl hr hb hv hH hhi);have m0:decide ((r:Int)<0)=false:=iw (by omega);clear hv hhi hb hA hr hH;go_enter Tryz.func8,Tryz.ntmps8;go_wp2_with fail;refine(uh HC).mono ?_;rintro e w1 ⟨rfl,HB⟩;go_wp2;go_ret;exact⟨rfl,HB⟩
theorem am5 {B:Nat} {w w':bf} {v:Value} {ns:List dw} {bs:List Nat} (h:yh Fa Dj B w v ns bs) (hb:Below w.heap.size w w'):yh Fa Dj B w' v ns bs:=h.fr I8 (fun b yu=>hb.block b (h.nd.2 b yu).2) hb.size
theorem att (t:dh) (w:bf) (hE:Zc w):Calls Tryz.prog 3 #[.string t] w (Ans (.bool true) w):=by
 by_cases hs:t.size<=1048576
 case neg =>
  have d0:(1048576:Int)<(t.size:Int):=by omega
  clear hs hE;go_enter Tryz.func3,Tryz.ntmps3;go_wp2;go_ret;exact⟨rfl,gy _ _⟩
 have d0:¬(1048576:Int)<(t.size:Int):=by omega
 have hcl:=aw3 (L9 t).1
 have hwt:oq qx (L9 t).1<=1048576:=by
  unfold L9
  split
  ·exact jq (alx t) hs
  ·simp[oq]
 have hsp:=ap7 t w hs;have him:∀W,Below w.heap.size w W->Calls Tryz.prog 5 #[.string t] W (RdP (L9 t).1 (L9 t).2 W):=fun W hW=>aqd t W (hE.below hW hE.env.three) hs
 generalize (L9 t).1=ns at hcl hwt hsp him;generalize (L9 t).2=code at hsp him;have HST:Hid (Vh aga ns ns.length<=100000000):=hide (by omega);have HSP:=hide hsp;have HIM:=hide him;clear hcl hwt hsp him hE hs;go_enter Tryz.func3,Tryz.ntmps3;go_wp2_with fail;refine(uh HSP).mono ?_;rintro e w1 ⟨v,bs,rfl,hmk,hb1⟩;obtain⟨ra,rc,rfl⟩:=hmk.slice;obtain⟨wS,hwS⟩:∃z,z=w1.alloc (.cells #[.slice ra ns.length rc] 24):=⟨_,rfl⟩;have hSS:Below w1.heap.size w1 wS:=by rw[hwS];exact(gy _ _).alloc (gq _) _
 have Sm:Hid (jc wS w1.heap.size 24 #[.slice ra ns.length rc]):=hide (by rw[hwS];exact og _ _ _);have BS:Hid (Below w.heap.size w wS):=hide (hb1.trans (hSS.mono hb1.size));have HRV:Hid (iy 7 160 Dl 0 wS (.slice ra ns.length rc) ns):=hide (am5 hmk hSS).slC;have a9s:=hide (uh HIM wS (uh BS));have HWS:=hide hwS;clear hmk hb1 hSS hwS HSP;go_wp2_with fail;rw[←uh HWS];refine(uh a9s).mono ?_;rintro e w2 ⟨v,bs2,rfl,ah6,hb2⟩;obtain⟨ga,gc,rfl⟩:=ah6.slice;obtain⟨wG,hwG⟩:∃z,z=w2.alloc (.cells #[.slice ga ns.length gc] 24):=⟨_,rfl⟩;have hGG:Below w2.heap.size w2 wG:=by rw[hwG];exact(gy _ _).alloc (gq _) _
 have HBG:Hid (jc wG w2.heap.size 24 #[.slice ga ns.length gc]):=hide (by rw[hwG];exact og _ _ _);have HGR:=hide (am5 ah6 hGG);have HSG:Hid (Below wS.heap.size wS wG):=hide (hb2.trans (hGG.mono hb2.size));have HZ2:Hid (wS.heap.size<=w2.heap.size):=hide hb2.size;have HEG:=hide (agb ns _ _ wG (uh HGR).slC ((uh HRV).stays Ei (uh HSG)));have c1:wG.cell? ⟨w1.heap.size,0,none⟩=some (.slice ra ns.length rc):=((uh Sm).below (uh HSG) (uh Sm).lt).cell (i:=0) (v:=.slice ra ns.length rc) rfl;have c2:wG.cell? ⟨w2.heap.size,0,none⟩=some (.slice ga ns.length gc):=(uh HBG).cell (i:=0) (v:=.slice ga ns.length gc) rfl;have c3:w2.cell? ⟨w1.heap.size,0,none⟩=some (.slice ra ns.length rc):=((uh Sm).below hb2 (uh Sm).lt).cell (i:=0) (v:=.slice ra ns.length rc) rfl;have l1:w1.heap.size<w2.heap.size:=qj (uh Sm).lt hb2.size;have HWG:=hide hwG;clear ah6 hb2 hGG hwG a9s;go_wp2_with fail;rw[←uh HWG];refine(uh HEG).mono ?_;rintro e w3 ⟨rfl,hb3⟩;have hG3:=am5 (uh HGR) hb3;have hB3:=(uh HBG).below hb3 (uh HBG).lt;have Vo:Hid (Below wS.heap.size wS w3):=hide ((uh HSG).trans (hb3.mono (uh HSG).size));obtain⟨l,hL,a3u⟩:=a9p (lo:=wS.heap.size) (hi:=w3.heap.size) hG3.rowT hG3.nd.1 (fun c hc=>hG3.nd.2 c hc);obtain⟨r,hr⟩:∃r,1+l.length=r:=⟨_,rfl⟩
 have hrb:r<=1000000000:=by
  have h9:=hL.len at6;have h8:=uh HST;omega
 have j3:w3.cell? ⟨w2.heap.size,0,none⟩=some (.slice ga ns.length gc):=hB3.cell (i:=0) (v:=.slice ga ns.length gc) rfl;have l3:w2.heap.size<w3.heap.size:=hB3.lt;have HMX:=hide (am1 ns _ l wS.heap.size w3.heap.size r w3 hL (gq _) hr hrb);have HL:=hide hL;have HGD:=hide a3u;have HBD:=hide hG3.nd.2;have HR:=hide hr;have Jc:=hide hrb;have hcc:(code != code)=false:=by simp
 clear hb3 hG3 hB3 hL a3u hr hrb c1 c2 c3 HGR HEG HWG;go_wp2_with fail;refine(uh HMX).mono ?_;rintro e w4 ⟨rfl,hX4⟩;have Rl:Hid (Below wS.heap.size wS w4):=hide ((uh Vo).trans (hX4.md.below (uh Vo).size));have hHeld:Held 1 l w4:=hX4.held (uh HGD).1 (fun p hp=>⟨((uh HGD).2 p hp).1,(uh HBD _ ((uh HGD).2 p hp).2.1).2,((uh HGD).2 p hp).2.2⟩);have HHX:=hide (am2 ns _ l wS.heap.size w3.heap.size r w4 ((uh HL).stays ada hX4.md) hHeld hX4.md.size (uh HR) (uh Jc));have j4:w4.cell? ⟨w2.heap.size,0,none⟩=some (.slice ga ns.length gc):=hX4.csl (uh HZ2) l3 j3;clear hX4 hHeld j3 HMX;go_wp2_with fail;refine(uh HHX).mono ?_;rintro e w5 ⟨rfl,Hf⟩;have HS5:Hid (Below wS.heap.size wS w5):=hide ((uh Rl).trans ((uh Hf).mono (uh Rl).size));have a9t:=hide (uh HIM w5 ((uh BS).trans ((uh HS5).mono (uh BS).size)));have m1:decide ((r:Int)<0)=false:=iw (by omega);have m2:((r:Int) != (r:Int))=false:=by simp
 clear j4;go_wp2_with fail;refine(uh a9t).mono ?_;rintro e w6 ⟨v,bs6,rfl,a0s,hb6⟩;obtain⟨ha,hc,rfl⟩:=a0s.slice;obtain⟨wH,hwH⟩:∃z,z=w6.alloc (.cells #[.slice ha ns.length hc] 24):=⟨_,rfl⟩;have hHH:Below w6.heap.size w6 wH:=by rw[hwH];exact(gy _ _).alloc (gq _) _
 have hBH:jc wH w6.heap.size 24 #[.slice ha ns.length hc]:=by rw[hwH];exact og _ _ _
 have HS6:Hid (Below wS.heap.size wS w6):=hide ((uh HS5).trans (hb6.mono (uh HS5).size));have HSH:Hid (Below wS.heap.size wS wH):=hide ((uh HS6).trans (hHH.mono (uh HS6).size));have HEH:=hide (agb ns _ _ wH (am5 a0s hHH).slC ((uh HRV).stays Ei (uh HSH)));have c1:wH.cell? ⟨w1.heap.size,0,none⟩=some (.slice ra ns.length rc):=((uh Sm).below (uh HSH) (uh Sm).lt).cell (i:=0) (v:=.slice ra ns.length rc) rfl;have c2:wH.cell? ⟨w6.heap.size,0,none⟩=some (.slice ha ns.length hc):=hBH.cell (i:=0) (v:=.slice ha ns.length hc) rfl;have c3:w6.cell? ⟨w1.heap.size,0,none⟩=some (.slice ra ns.length rc):=((uh Sm).below (uh HS6) (uh Sm).lt).cell (i:=0) (v:=.slice ra ns.length rc) rfl;have l6:w1.heap.size<w6.heap.size:=qj (uh Sm).lt (uh HS6).size;have HWH:=hide hwH;clear a0s hb6 hHH hBH hwH a9t;go_wp2_with fail;rw[←uh HWH];refine(uh HEH).mono ?_;rintro e w7 ⟨rfl,hb7⟩;have Om:Hid (Below w.heap.size w w7):=hide ((uh BS).trans (((uh HSH).trans (hb7.mono (uh HSH).size)).mono (uh BS).size));clear hb7 c1 c2 c3;go_wp2;go_ret;exact⟨rfl,uh Om⟩
end Go.Proofs.YtfeejeflmcapoaaGreatDoor
