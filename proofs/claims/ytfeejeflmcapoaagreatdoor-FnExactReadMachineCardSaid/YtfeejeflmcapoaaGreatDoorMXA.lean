import Derived.Test.YtfeejeflmcapoaaGreatDoorRT1
set_option linter.unusedSimpArgs false
set_option linter.unusedVariables false
set_option maxHeartbeats 2000000
namespace Go.Proofs.YtfeejeflmcapoaaGreatDoor
open Go.RowKit
theorem afi (xs:List dh) (v:Value) (l:Lf) (K:Int) (k r lo hi:Nat) (w:cu) (hK:K=(k:Int)) (hr:k+l.length=r) (hrb:r<=1000000000) (hv:Lc 1 ae0 lo hi w v xs l) (hhi:hi<=w.heap.size) :
  Calls Tryz.prog 43 #[v,.int .i64 K] w (aav lo hi k r l w):=by
 subst hK;obtain⟨a,cap,lss,rfl,hn,hls,hfl,hx⟩:=hv;unfold Len at hn;have HX:=ak hx;have Ib:=ak hfl;have Eo:=ak hls;have Hy:=ak hhi;have HR:=ak hr;have Jb:=ak hrb;clear hx hhi hr hrb hfl hls;go_enter Tryz.func43,Tryz.ntmps43;go_wp2
 go_loopg [1,5] xs.length (fun g kk i wr=>∃(q kq:Nat),q<=xs.length/\g=xs.length-q/\i=.int .i64 q/\kk=.int .i64 (kq:Int)/\Hid (k+(lss.take q).flatten.length=kq)/\Hid (X lo hi (Jd k (lss.take q).flatten) w wr))
 case atStart=>exact⟨0,k,jg _,by omega,rfl,rfl,by simp[Hid],X.refl _ _ _⟩
 case round =>
  obtain⟨q,kq,hq,hg,rfl,rfl,Dp,Jy⟩:=hrel;have HG:=ak hg;clear hg
  by_cases hlt:q<xs.length
  ·have hlq:q<lss.length:=by rw[uh Eo];exact hlt
   obtain⟨b,o,rfl,hel⟩:=uh HX q hlt hlq;have hel:=hel.stays aaw (uh Jy).md
   have hst:k+(lss.take (q+1)).flatten.length=kq+lss[q].length:=by
    rw[Dt _ _ hlq,jh,←uh Dp];omega
   have U8:Hid (Jd k (lss.take (q+1)).flatten=Jd k (lss.take q).flatten++Jd kq lss[q]):=by
    rw[Dt _ _ hlq,Ik,uh Dp];exact ak rfl
   have hkb:kq+lss[q].length<=1000000000:=by
    have h1:=Oz lss (q+1);have h2:=uh HR;have h3:=uh Jb;rw[uh Ib] at h2;omega
   generalize lss[q]=lq at hel hst hkb U8;generalize xs[q]=x at hel;have hh0:hi<=wr.heap.size:=ku (uh Hy) (uh Jy).md.size;obtain⟨hlo,zh,cs,hcs,hc,⟨s0,rfl⟩,hll⟩:=hel;have C0:=ak (hc 0 (by simp)).1;have Z0:=ak (hc 0 (by simp)).2;simp only[jr,ji,og,ou] at C0 Z0;have hlen:lq.length=1:=by simp[hll]<;>omega
   rw[hlen] at hst hkb;have HST:=ak hst;have HLL:=ak hll;have R0:=ak (X.refl lo hi wr);clear hst hcs hc hll hlen;go_wp2_with fail;refine(Ls _ (kq+0) _ (by omega) (by omega)).mono ?_;rintro e w1 ⟨rfl,hb⟩;have seg:X lo hi _ wr w1:=X.then (X.refl lo hi wr) hb hh0;have R1:=ak ((uh R0).trans seg);have hh1:hi<=w1.heap.size:=ku hh0 seg.md.size;clear hb seg;obtain⟨y0,c0⟩:=(uh R1).aol hlo zh (uh C0);have f0:=(uh R1).Xo hlo zh (uh Z0);go_wp2
   go_roundg (xs.length-(q+1))
   case measure=>have:=uh HG;omega
   case rel =>
    refine⟨q+1,kq+1,by omega,rfl,by go_num,by go_num,(by refine ak ?_;have:=uh HST;omega),?_⟩;rw[uh U8];refine ak ((uh Jy).trans ?_);refine X.eq ((uh R1).trans ((X.refl lo hi w1).setCell hlo zh c0 (Kind2.strs _ _))) ?_;rw[uh HLL];simp only[Ik,Jd,mkV,Gl,Gm,Ew,jh,ug,Ar,ji,Ba,jr,Aq]
    try (simp<;>omega)
  ·have e:q=xs.length:=by omega
   have Ld:lss.length<=q:=by rw[uh Eo];omega
   have hfa:=Md lss q Ld;rw[hfa,←uh Ib] at Dp Jy
   have HE:Hid (kq=r):=by
    refine ak ?_;rw[←uh Dp,←uh HR]
   clear e Ld hfa;go_wp2;go_ret;exact⟨(by rw[uh HE];rfl),uh Jy⟩
theorem ajs (xs:List Int) (v:Value) (l:Lf) (K:Int) (k r lo hi:Nat) (w:cu) (hK:K=(k:Int)) (hr:k+l.length=r) (hrb:r<=1000000000) (hv:Lc 1 ae1 lo hi w v xs l) (hhi:hi<=w.heap.size) :
  Calls Tryz.prog 44 #[v,.int .i64 K] w (aav lo hi k r l w):=by
 subst hK;obtain⟨a,cap,lss,rfl,hn,hls,hfl,hx⟩:=hv;unfold Len at hn;have HX:=ak hx;have Ib:=ak hfl;have Eo:=ak hls;have Hy:=ak hhi;have HR:=ak hr;have Jb:=ak hrb;clear hx hhi hr hrb hfl hls;go_enter Tryz.func44,Tryz.ntmps44;go_wp2
 go_loopg [1,5] xs.length (fun g kk i wr=>∃(q kq:Nat),q<=xs.length/\g=xs.length-q/\i=.int .i64 q/\kk=.int .i64 (kq:Int)/\Hid (k+(lss.take q).flatten.length=kq)/\Hid (X lo hi (Jd k (lss.take q).flatten) w wr))
 case atStart=>exact⟨0,k,jg _,by omega,rfl,rfl,by simp[Hid],X.refl _ _ _⟩
 case round =>
  obtain⟨q,kq,hq,hg,rfl,rfl,Dp,Jy⟩:=hrel;have HG:=ak hg;clear hg
  by_cases hlt:q<xs.length
  ·have hlq:q<lss.length:=by rw[uh Eo];exact hlt
   obtain⟨b,o,rfl,hel⟩:=uh HX q hlt hlq;have hel:=hel.stays aax (uh Jy).md
   have hst:k+(lss.take (q+1)).flatten.length=kq+lss[q].length:=by
    rw[Dt _ _ hlq,jh,←uh Dp];omega
   have U8:Hid (Jd k (lss.take (q+1)).flatten=Jd k (lss.take q).flatten++Jd kq lss[q]):=by
    rw[Dt _ _ hlq,Ik,uh Dp];exact ak rfl
   have hkb:kq+lss[q].length<=1000000000:=by
    have h1:=Oz lss (q+1);have h2:=uh HR;have h3:=uh Jb;rw[uh Ib] at h2;omega
   generalize lss[q]=lq at hel hst hkb U8;generalize xs[q]=x at hel;have hh0:hi<=wr.heap.size:=ku (uh Hy) (uh Jy).md.size;obtain⟨hlo,zh,cs,hcs,hc,⟨s0,rfl⟩,hll⟩:=hel;have C0:=ak (hc 0 (by simp)).1;have Z0:=ak (hc 0 (by simp)).2;simp only[jr,ji,og,ou] at C0 Z0;have hlen:lq.length=1:=by simp[hll]<;>omega
   rw[hlen] at hst hkb;have HST:=ak hst;have HLL:=ak hll;have R0:=ak (X.refl lo hi wr);clear hst hcs hc hll hlen;obtain⟨y0,c0⟩:=(uh R0).akv hlo zh (uh C0);have f0:=(uh R0).Xo hlo zh (uh Z0);go_wp2
   go_roundg (xs.length-(q+1))
   case measure=>have:=uh HG;omega
   case rel =>
    refine⟨q+1,kq+1,by omega,rfl,by go_num,by go_num,(by refine ak ?_;have:=uh HST;omega),?_⟩;rw[uh U8];refine ak ((uh Jy).trans ?_);refine X.eq ((uh R0).trans ((X.refl lo hi wr).setCell hlo zh c0 (Kind2.ints _ _))) ?_;rw[uh HLL];simp only[Ik,Jd,mkV,Gl,Gm,Ew,jh,ug,Ar,ji,Ba,jr,Aq]
    try (simp<;>omega)
  ·have e:q=xs.length:=by omega
   have Ld:lss.length<=q:=by rw[uh Eo];omega
   have hfa:=Md lss q Ld;rw[hfa,←uh Ib] at Dp Jy
   have HE:Hid (kq=r):=by
    refine ak ?_;rw[←uh Dp,←uh HR]
   clear e Ld hfa;go_wp2;go_ret;exact⟨(by rw[uh HE];rfl),uh Jy⟩
theorem ahk (xs:List l9) (v:Value) (l:Lf) (K:Int) (k r lo hi:Nat) (w:cu) (hK:K=(k:Int)) (hr:k+l.length=r) (hrb:r<=1000000000) (hv:Lc 3 abg lo hi w v xs l) (hhi:hi<=w.heap.size) :
  Calls Tryz.prog 75 #[v,.int .i64 K] w (aav lo hi k r l w):=by
 subst hK;obtain⟨a,cap,lss,rfl,hn,hls,hfl,hx⟩:=hv;unfold Len at hn;have HX:=ak hx;have Ib:=ak hfl;have Eo:=ak hls;have Hy:=ak hhi;have HR:=ak hr;have Jb:=ak hrb;clear hx hhi hr hrb hfl hls;go_enter Tryz.func75,Tryz.ntmps75;go_wp2
 go_loopg [1,5] xs.length (fun g kk i wr=>∃(q kq:Nat),q<=xs.length/\g=xs.length-q/\i=.int .i64 q/\kk=.int .i64 (kq:Int)/\Hid (k+(lss.take q).flatten.length=kq)/\Hid (X lo hi (Jd k (lss.take q).flatten) w wr))
 case atStart=>exact⟨0,k,jg _,by omega,rfl,rfl,by simp[Hid],X.refl _ _ _⟩
 case round =>
  obtain⟨q,kq,hq,hg,rfl,rfl,Dp,Jy⟩:=hrel;have HG:=ak hg;clear hg
  by_cases hlt:q<xs.length
  ·have hlq:q<lss.length:=by rw[uh Eo];exact hlt
   obtain⟨b,o,rfl,hel⟩:=uh HX q hlt hlq;have hel:=hel.stays Zb (uh Jy).md
   have hst:k+(lss.take (q+1)).flatten.length=kq+lss[q].length:=by
    rw[Dt _ _ hlq,jh,←uh Dp];omega
   have U8:Hid (Jd k (lss.take (q+1)).flatten=Jd k (lss.take q).flatten++Jd kq lss[q]):=by
    rw[Dt _ _ hlq,Ik,uh Dp];exact ak rfl
   have hkb:kq+lss[q].length<=1000000000:=by
    have h1:=Oz lss (q+1);have h2:=uh HR;have h3:=uh Jb;rw[uh Ib] at h2;omega
   generalize lss[q]=lq at hel hst hkb U8;generalize xs[q]=x at hel;have hh0:hi<=wr.heap.size:=ku (uh Hy) (uh Jy).md.size;obtain⟨hlo,zh,cs,hcs,hc,⟨s0,s1,s2,rfl⟩,hll⟩:=hel;have C0:=ak (hc 0 (by simp)).1;have Z0:=ak (hc 0 (by simp)).2;have C1:=ak (hc 1 (by simp)).1;have Z1:=ak (hc 1 (by simp)).2;have C2:=ak (hc 2 (by simp)).1;have Z2:=ak (hc 2 (by simp)).2;simp only[jr,ji,og,ou] at C0 Z0;simp only[jr,ji,og,ou] at C1 Z1;simp only[jr,ji,og,ou] at C2 Z2;have hlen:lq.length=3:=by simp[hll]<;>omega
   rw[hlen] at hst hkb;have HST:=ak hst;have HLL:=ak hll;have R0:=ak (X.refl lo hi wr);clear hst hcs hc hll hlen;obtain⟨y0,c0⟩:=(uh R0).akv hlo zh (uh C0);have f0:=(uh R0).Xo hlo zh (uh Z0);obtain⟨y1,c1⟩:=(uh R0).akv hlo zh (uh C1);have f1:=(uh R0).Xo hlo zh (uh Z1);go_wp2_with fail;refine(Ls _ (kq+2) _ (by omega) (by omega)).mono ?_;rintro e w1 ⟨rfl,hb⟩;have seg:X lo hi _ wr w1:=X.then (((X.refl lo hi wr).setCell hlo zh c0 (Kind2.ints _ _)).setCell hlo zh (by rw[Ky _ _ _ _ _ (Or.inr (by simp))];exact c1) (Kind2.ints _ _)) hb hh0;have R1:=ak ((uh R0).trans seg);have hh1:hi<=w1.heap.size:=ku hh0 seg.md.size;clear hb seg;clear c0 f0 c1 f1;obtain⟨y2,c2⟩:=(uh R1).aol hlo zh (uh C2);have f2:=(uh R1).Xo hlo zh (uh Z2);go_wp2
   go_roundg (xs.length-(q+1))
   case measure=>have:=uh HG;omega
   case rel =>
    refine⟨q+1,kq+3,by omega,rfl,by go_num,by go_num,(by refine ak ?_;have:=uh HST;omega),?_⟩;rw[uh U8];refine ak ((uh Jy).trans ?_);refine X.eq ((uh R1).trans ((X.refl lo hi w1).setCell hlo zh c2 (Kind2.strs _ _))) ?_;rw[uh HLL];simp only[Ik,Jd,mkV,Gl,Gm,Ew,jh,ug,Ar,ji,Ba,jr,Aq]
    try (simp<;>omega)
  ·have e:q=xs.length:=by omega
   have Ld:lss.length<=q:=by rw[uh Eo];omega
   have hfa:=Md lss q Ld;rw[hfa,←uh Ib] at Dp Jy
   have HE:Hid (kq=r):=by
    refine ak ?_;rw[←uh Dp,←uh HR]
   clear e Ld hfa;go_wp2;go_ret;exact⟨(by rw[uh HE];rfl),uh Jy⟩
theorem aom (xs:List (List l9)) (v:Value) (l:Lf) (K:Int) (k r lo hi:Nat) (w:cu) (hK:K=(k:Int)) (hr:k+l.length=r) (hrb:r<=1000000000) (hv:Lc 1 abx lo hi w v xs l) (hhi:hi<=w.heap.size) :
  Calls Tryz.prog 76 #[v,.int .i64 K] w (aav lo hi k r l w):=by
 subst hK;obtain⟨a,cap,lss,rfl,hn,hls,hfl,hx⟩:=hv;unfold Len at hn;have HX:=ak hx;have Ib:=ak hfl;have Eo:=ak hls;have Hy:=ak hhi;have HR:=ak hr;have Jb:=ak hrb;clear hx hhi hr hrb hfl hls;go_enter Tryz.func76,Tryz.ntmps76;go_wp2
 go_loopg [1,5] xs.length (fun g kk i wr=>∃(q kq:Nat),q<=xs.length/\g=xs.length-q/\i=.int .i64 q/\kk=.int .i64 (kq:Int)/\Hid (k+(lss.take q).flatten.length=kq)/\Hid (X lo hi (Jd k (lss.take q).flatten) w wr))
 case atStart=>exact⟨0,k,jg _,by omega,rfl,rfl,by simp[Hid],X.refl _ _ _⟩
 case round =>
  obtain⟨q,kq,hq,hg,rfl,rfl,Dp,Jy⟩:=hrel;have HG:=ak hg;clear hg
  by_cases hlt:q<xs.length
  ·have hlq:q<lss.length:=by rw[uh Eo];exact hlt
   obtain⟨b,o,rfl,hel⟩:=uh HX q hlt hlq;have hel:=hel.stays ac6 (uh Jy).md
   have hst:k+(lss.take (q+1)).flatten.length=kq+lss[q].length:=by
    rw[Dt _ _ hlq,jh,←uh Dp];omega
   have U8:Hid (Jd k (lss.take (q+1)).flatten=Jd k (lss.take q).flatten++Jd kq lss[q]):=by
    rw[Dt _ _ hlq,Ik,uh Dp];exact ak rfl
   have hkb:kq+lss[q].length<=1000000000:=by
    have h1:=Oz lss (q+1);have h2:=uh HR;have h3:=uh Jb;rw[uh Ib] at h2;omega
   generalize lss[q]=lq at hel hst hkb U8;generalize xs[q]=x at hel;have hh0:hi<=wr.heap.size:=ku (uh Hy) (uh Jy).md.size;obtain⟨hlo,zh,cs,hcs,hc,v0,l0,rfl,g0,hll⟩:=hel;have C0:=ak (hc 0 (by simp)).1;have Z0:=ak (hc 0 (by simp)).2;simp only[jr,ji,og,ou] at C0 Z0;obtain⟨sa0,sc0,rfl⟩:=g0.shape;have G0:=ak g0;have hlen:lq.length=l0.length:=by simp[hll]<;>omega
   rw[hlen] at hst hkb;have HST:=ak hst;have HLL:=ak hll;have R0:=ak (X.refl lo hi wr);clear hst hcs hc hll hlen g0;have c0:=(uh R0).csl hlo zh (uh C0);have f0:=(uh R0).Xo hlo zh (uh Z0);obtain⟨r1,hr1⟩:∃r,kq+0+l0.length=r:=⟨_,rfl⟩;have a0d:r1<=1000000000:=by omega
   have HR1:=ak hr1;clear hr1;go_wp2_with fail;refine(ahk _ _ _ _ (kq+0) r1 lo hi _ (by omega) (uh HR1) a0d ((uh G0).stays Zb ((uh R0).trans (X.refl lo hi wr)).md) (ku hh0 (X.refl lo hi wr).md.size)).mono ?_;rintro e w1 ⟨rfl,hm⟩;have seg:X lo hi _ wr w1:=X.trans (X.refl lo hi wr) hm;have R1:=ak ((uh R0).trans seg);have hh1:hi<=w1.heap.size:=ku hh0 seg.md.size;clear hm seg;clear c0 f0;go_wp2
   go_roundg (xs.length-(q+1))
   case measure=>have:=uh HG;omega
   case rel =>
    refine⟨q+1,r1+0,by omega,rfl,by go_num,by go_num,(by refine ak ?_;have:=uh HST;have:=uh HR1;omega),?_⟩;rw[uh U8];refine ak ((uh Jy).trans ?_);refine X.eq ((uh R1).trans (X.refl lo hi w1)) ?_;have e1:=uh HR1;rw[uh HLL];simp only[Ik,Jd,mkV,Gl,Gm,Ew,jh,ug,Ar,ji,Ba,jr,Aq,←e1]
    try (simp[Nat.add_assoc,Nat.add_comm,Nat.add_left_comm]<;>omega)
  ·have e:q=xs.length:=by omega
   have Ld:lss.length<=q:=by rw[uh Eo];omega
   have hfa:=Md lss q Ld;rw[hfa,←uh Ib] at Dp Jy
   have HE:Hid (kq=r):=by
    refine ak ?_;rw[←uh Dp,←uh HR]
   clear e Ld hfa;go_wp2;go_ret;exact⟨(by rw[uh HE];rfl),uh Jy⟩
theorem ahl (xs:List jw) (v:Value) (l:Lf) (K:Int) (k r lo hi:Nat) (w:cu) (hK:K=(k:Int)) (hr:k+l.length=r) (hrb:r<=1000000000) (hv:Lc 2 abh lo hi w v xs l) (hhi:hi<=w.heap.size) :
  Calls Tryz.prog 42 #[v,.int .i64 K] w (aav lo hi k r l w):=by
 subst hK;obtain⟨a,cap,lss,rfl,hn,hls,hfl,hx⟩:=hv;unfold Len at hn;have HX:=ak hx;have Ib:=ak hfl;have Eo:=ak hls;have Hy:=ak hhi;have HR:=ak hr;have Jb:=ak hrb;clear hx hhi hr hrb hfl hls;go_enter Tryz.func42,Tryz.ntmps42;go_wp2
 go_loopg [1,5] xs.length (fun g kk i wr=>∃(q kq:Nat),q<=xs.length/\g=xs.length-q/\i=.int .i64 q/\kk=.int .i64 (kq:Int)/\Hid (k+(lss.take q).flatten.length=kq)/\Hid (X lo hi (Jd k (lss.take q).flatten) w wr))
 case atStart=>exact⟨0,k,jg _,by omega,rfl,rfl,by simp[Hid],X.refl _ _ _⟩
 case round =>
  obtain⟨q,kq,hq,hg,rfl,rfl,Dp,Jy⟩:=hrel;have HG:=ak hg;clear hg
  by_cases hlt:q<xs.length
  ·have hlq:q<lss.length:=by rw[uh Eo];exact hlt
   obtain⟨b,o,rfl,hel⟩:=uh HX q hlt hlq;have hel:=hel.stays Zc (uh Jy).md
   have hst:k+(lss.take (q+1)).flatten.length=kq+lss[q].length:=by
    rw[Dt _ _ hlq,jh,←uh Dp];omega
   have U8:Hid (Jd k (lss.take (q+1)).flatten=Jd k (lss.take q).flatten++Jd kq lss[q]):=by
    rw[Dt _ _ hlq,Ik,uh Dp];exact ak rfl
   have hkb:kq+lss[q].length<=1000000000:=by
    have h1:=Oz lss (q+1);have h2:=uh HR;have h3:=uh Jb;rw[uh Ib] at h2;omega
   generalize lss[q]=lq at hel hst hkb U8;generalize xs[q]=x at hel;have hh0:hi<=wr.heap.size:=ku (uh Hy) (uh Jy).md.size;obtain⟨hlo,zh,cs,hcs,hc,⟨s0,s1,rfl⟩,hll⟩:=hel;have C0:=ak (hc 0 (by simp)).1;have Z0:=ak (hc 0 (by simp)).2;have C1:=ak (hc 1 (by simp)).1;have Z1:=ak (hc 1 (by simp)).2;simp only[jr,ji,og,ou] at C0 Z0;simp only[jr,ji,og,ou] at C1 Z1;have hlen:lq.length=2:=by simp[hll]<;>omega
   rw[hlen] at hst hkb;have HST:=ak hst;have HLL:=ak hll;have R0:=ak (X.refl lo hi wr);clear hst hcs hc hll hlen;go_wp2_with fail;refine(Ls _ (kq+0) _ (by omega) (by omega)).mono ?_;rintro e w1 ⟨rfl,hb⟩;have seg:X lo hi _ wr w1:=X.then (X.refl lo hi wr) hb hh0;have R1:=ak ((uh R0).trans seg);have hh1:hi<=w1.heap.size:=ku hh0 seg.md.size;clear hb seg;obtain⟨y0,c0⟩:=(uh R1).aol hlo zh (uh C0);have f0:=(uh R1).Xo hlo zh (uh Z0);obtain⟨y1,c1⟩:=(uh R1).akv hlo zh (uh C1);have f1:=(uh R1).Xo hlo zh (uh Z1);go_wp2
   go_roundg (xs.length-(q+1))
   case measure=>have:=uh HG;omega
   case rel =>
    refine⟨q+1,kq+2,by omega,rfl,by go_num,by go_num,(by refine ak ?_;have:=uh HST;omega),?_⟩;rw[uh U8];refine ak ((uh Jy).trans ?_);refine X.eq ((uh R1).trans (((X.refl lo hi w1).setCell hlo zh c0 (Kind2.strs _ _)).setCell hlo zh (by rw[Ky _ _ _ _ _ (Or.inr (by simp))];exact c1) (Kind2.ints _ _))) ?_;rw[uh HLL];simp only[Ik,Jd,mkV,Gl,Gm,Ew,jh,ug,Ar,ji,Ba,jr,Aq]
    try (simp<;>omega)
  ·have e:q=xs.length:=by omega
   have Ld:lss.length<=q:=by rw[uh Eo];omega
   have hfa:=Md lss q Ld;rw[hfa,←uh Ib] at Dp Jy
   have HE:Hid (kq=r):=by
    refine ak ?_;rw[←uh Dp,←uh HR]
   clear e Ld hfa;go_wp2;go_ret;exact⟨(by rw[uh HE];rfl),uh Jy⟩
theorem atw (xs:List lu) (v:Value) (l:Lf) (K:Int) (k r lo hi:Nat) (w:cu) (hK:K=(k:Int)) (hr:k+l.length=r) (hrb:r<=1000000000) (hv:Lc 6 aik lo hi w v xs l) (hhi:hi<=w.heap.size) :
  Calls Tryz.prog 45 #[v,.int .i64 K] w (aav lo hi k r l w):=by
 subst hK;obtain⟨a,cap,lss,rfl,hn,hls,hfl,hx⟩:=hv;unfold Len at hn;have HX:=ak hx;have Ib:=ak hfl;have Eo:=ak hls;have Hy:=ak hhi;have HR:=ak hr;have Jb:=ak hrb;clear hx hhi hr hrb hfl hls;go_enter Tryz.func45,Tryz.ntmps45;go_wp2
 go_loopg [1,5] xs.length (fun g kk i wr=>∃(q kq:Nat),q<=xs.length/\g=xs.length-q/\i=.int .i64 q/\kk=.int .i64 (kq:Int)/\Hid (k+(lss.take q).flatten.length=kq)/\Hid (X lo hi (Jd k (lss.take q).flatten) w wr))
 case atStart=>exact⟨0,k,jg _,by omega,rfl,rfl,by simp[Hid],X.refl _ _ _⟩
 case round =>
  obtain⟨q,kq,hq,hg,rfl,rfl,Dp,Jy⟩:=hrel;have HG:=ak hg;clear hg
  by_cases hlt:q<xs.length
  ·have hlq:q<lss.length:=by rw[uh Eo];exact hlt
   obtain⟨b,o,rfl,hel⟩:=uh HX q hlt hlq;have hel:=hel.stays af7 (uh Jy).md
   have hst:k+(lss.take (q+1)).flatten.length=kq+lss[q].length:=by
    rw[Dt _ _ hlq,jh,←uh Dp];omega
   have U8:Hid (Jd k (lss.take (q+1)).flatten=Jd k (lss.take q).flatten++Jd kq lss[q]):=by
    rw[Dt _ _ hlq,Ik,uh Dp];exact ak rfl
   have hkb:kq+lss[q].length<=1000000000:=by
    have h1:=Oz lss (q+1);have h2:=uh HR;have h3:=uh Jb;rw[uh Ib] at h2;omega
   generalize lss[q]=lq at hel hst hkb U8;generalize xs[q]=x at hel;have hh0:hi<=wr.heap.size:=ku (uh Hy) (uh Jy).md.size;obtain⟨hlo,zh,cs,hcs,hc,s0,s1,s2,v3,v4,v5,l3,l4,l5,rfl,g3,g4,g5,hll⟩:=hel;have C0:=ak (hc 0 (by simp)).1;have Z0:=ak (hc 0 (by simp)).2;have C1:=ak (hc 1 (by simp)).1;have Z1:=ak (hc 1 (by simp)).2;have C2:=ak (hc 2 (by simp)).1;have Z2:=ak (hc 2 (by simp)).2;have C3:=ak (hc 3 (by simp)).1;have Z3:=ak (hc 3 (by simp)).2;have C4:=ak (hc 4 (by simp)).1;have Z4:=ak (hc 4 (by simp)).2;have C5:=ak (hc 5 (by simp)).1;have Z5:=ak (hc 5 (by simp)).2;simp only[jr,ji,og,ou] at C0 Z0;simp only[jr,ji,og,ou] at C1 Z1;simp only[jr,ji,og,ou] at C2 Z2;simp only[jr,ji,og,ou] at C3 Z3;simp only[jr,ji,og,ou] at C4 Z4;simp only[jr,ji,og,ou] at C5 Z5;obtain⟨sa3,sc3,rfl⟩:=g3.shape;have G3:=ak g3;obtain⟨sa4,sc4,rfl⟩:=g4.shape;have G4:=ak g4;obtain⟨sa5,sc5,rfl⟩:=g5.shape;have G5:=ak g5;have hlen:lq.length=3+l3.length+l4.length+l5.length:=by simp[hll]<;>omega
   rw[hlen] at hst hkb;have HST:=ak hst;have HLL:=ak hll;have R0:=ak (X.refl lo hi wr);clear hst hcs hc hll hlen g3 g4 g5;obtain⟨y0,c0⟩:=(uh R0).akv hlo zh (uh C0);have f0:=(uh R0).Xo hlo zh (uh Z0);go_wp2_with fail;refine(Ls _ (kq+1) _ (by omega) (by omega)).mono ?_;rintro e w1 ⟨rfl,hb⟩;have seg:X lo hi _ wr w1:=X.then ((X.refl lo hi wr).setCell hlo zh c0 (Kind2.ints _ _)) hb hh0;have R1:=ak ((uh R0).trans seg);have hh1:hi<=w1.heap.size:=ku hh0 seg.md.size;clear hb seg;clear c0 f0;obtain⟨y1,c1⟩:=(uh R1).aol hlo zh (uh C1);have f1:=(uh R1).Xo hlo zh (uh Z1);obtain⟨y2,c2⟩:=(uh R1).akv hlo zh (uh C2);have f2:=(uh R1).Xo hlo zh (uh Z2);have c3:=(uh R1).csl hlo zh (uh C3);have f3:=(uh R1).Xo hlo zh (uh Z3);obtain⟨r2,hr2⟩:∃r,kq+3+l3.length=r:=⟨_,rfl⟩;have ac2:r2<=1000000000:=by omega
   have HR2:=ak hr2;clear hr2;go_wp2_with fail;refine(afi _ _ _ _ (kq+3) r2 lo hi _ (by omega) (uh HR2) ac2 ((uh G3).stays aaw ((uh R1).trans (((X.refl lo hi w1).setCell hlo zh c1 (Kind2.strs _ _)).setCell hlo zh (by rw[Ky _ _ _ _ _ (Or.inr (by simp))];exact c2) (Kind2.ints _ _))).md) (ku hh1 (((X.refl lo hi w1).setCell hlo zh c1 (Kind2.strs _ _)).setCell hlo zh (by rw[Ky _ _ _ _ _ (Or.inr (by simp))];exact c2) (Kind2.ints _ _)).md.size)).mono ?_;rintro e w2 ⟨rfl,hm⟩;have seg:X lo hi _ w1 w2:=X.trans (((X.refl lo hi w1).setCell hlo zh c1 (Kind2.strs _ _)).setCell hlo zh (by rw[Ky _ _ _ _ _ (Or.inr (by simp))];exact c2) (Kind2.ints _ _)) hm;have R2:=ak ((uh R1).trans seg);have hh2:hi<=w2.heap.size:=ku hh1 seg.md.size;clear hm seg;clear c1 f1 c2 f2 c3 f3;have c4:=(uh R2).csl hlo zh (uh C4);have f4:=(uh R2).Xo hlo zh (uh Z4);obtain⟨r3,hr3⟩:∃r,r2+0+l4.length=r:=⟨_,rfl⟩;have ail:r3<=1000000000:=by have:=uh HR2;omega
   have HR3:=ak hr3;clear hr3;go_wp2_with fail;refine(ahk _ _ _ _ (r2+0) r3 lo hi _ (by omega) (uh HR3) ail ((uh G4).stays Zb ((uh R2).trans (X.refl lo hi w2)).md) (ku hh2 (X.refl lo hi w2).md.size)).mono ?_;rintro e w3 ⟨rfl,hm⟩;have seg:X lo hi _ w2 w3:=X.trans (X.refl lo hi w2) hm;have R3:=ak ((uh R2).trans seg);have hh3:hi<=w3.heap.size:=ku hh2 seg.md.size;clear hm seg;clear c4 f4;have c5:=(uh R3).csl hlo zh (uh C5);have f5:=(uh R3).Xo hlo zh (uh Z5);obtain⟨r4,hr4⟩:∃r,r3+0+l5.length=r:=⟨_,rfl⟩;have ain:r4<=1000000000:=by have:=uh HR2;have:=uh HR3;omega
   have HR4:=ak hr4;clear hr4;go_wp2_with fail;refine(aom _ _ _ _ (r3+0) r4 lo hi _ (by omega) (uh HR4) ain ((uh G5).stays ac6 ((uh R3).trans (X.refl lo hi w3)).md) (ku hh3 (X.refl lo hi w3).md.size)).mono ?_;rintro e w4 ⟨rfl,hm⟩;have seg:X lo hi _ w3 w4:=X.trans (X.refl lo hi w3) hm;have R4:=ak ((uh R3).trans seg);have hh4:hi<=w4.heap.size:=ku hh3 seg.md.size;clear hm seg;clear c5 f5;go_wp2
   go_roundg (xs.length-(q+1))
   case measure=>have:=uh HG;omega
   case rel =>
    refine⟨q+1,r4+0,by omega,rfl,by go_num,by go_num,(by refine ak ?_;have:=uh HST;have:=uh HR2;have:=uh HR3;have:=uh HR4;omega),?_⟩;rw[uh U8];refine ak ((uh Jy).trans ?_);refine X.eq ((uh R4).trans (X.refl lo hi w4)) ?_;have e2:=uh HR2;have e3:=uh HR3;have e4:=uh HR4;rw[uh HLL];simp only[Ik,Jd,mkV,Gl,Gm,Ew,jh,ug,Ar,ji,Ba,jr,Aq,←e2,←e3,←e4]
    try (simp[Nat.add_assoc,Nat.add_comm,Nat.add_left_comm]<;>omega)
  ·have e:q=xs.length:=by omega
   have Ld:lss.length<=q:=by rw[uh Eo];omega
   have hfa:=Md lss q Ld;rw[hfa,←uh Ib] at Dp Jy
   have HE:Hid (kq=r):=by
    refine ak ?_;rw[←uh Dp,←uh HR]
   clear e Ld hfa;go_wp2;go_ret;exact⟨(by rw[uh HE];rfl),uh Jy⟩
theorem aon (xs:List dw) (v:Value) (l:Lf) (K:Int) (k r lo hi:Nat) (w:cu) (hK:K=(k:Int)) (hr:k+l.length=r) (hrb:r<=1000000000) (hv:Lc 7 aay lo hi w v xs l) (hhi:hi<=w.heap.size) :
  Calls Tryz.prog 17 #[v,.int .i64 K] w (aav lo hi k r l w):=by
 subst hK;obtain⟨a,cap,lss,rfl,hn,hls,hfl,hx⟩:=hv;unfold Len at hn;have HX:=ak hx;have Ib:=ak hfl;have Eo:=ak hls;have Hy:=ak hhi;have HR:=ak hr;have Jb:=ak hrb;clear hx hhi hr hrb hfl hls;go_enter Tryz.func17,Tryz.ntmps17;go_wp2
 go_loopg [1,5] xs.length (fun g kk i wr=>∃(q kq:Nat),q<=xs.length/\g=xs.length-q/\i=.int .i64 q/\kk=.int .i64 (kq:Int)/\Hid (k+(lss.take q).flatten.length=kq)/\Hid (X lo hi (Jd k (lss.take q).flatten) w wr))
 case atStart=>exact⟨0,k,jg _,by omega,rfl,rfl,by simp[Hid],X.refl _ _ _⟩
 case round =>
  obtain⟨q,kq,hq,hg,rfl,rfl,Dp,Jy⟩:=hrel;have HG:=ak hg;clear hg
  by_cases hlt:q<xs.length
  ·have hlq:q<lss.length:=by rw[uh Eo];exact hlt
   obtain⟨b,o,rfl,hel⟩:=uh HX q hlt hlq;have hel:=hel.stays ac7 (uh Jy).md
   have hst:k+(lss.take (q+1)).flatten.length=kq+lss[q].length:=by
    rw[Dt _ _ hlq,jh,←uh Dp];omega
   have U8:Hid (Jd k (lss.take (q+1)).flatten=Jd k (lss.take q).flatten++Jd kq lss[q]):=by
    rw[Dt _ _ hlq,Ik,uh Dp];exact ak rfl
   have hkb:kq+lss[q].length<=1000000000:=by
    have h1:=Oz lss (q+1);have h2:=uh HR;have h3:=uh Jb;rw[uh Ib] at h2;omega
   generalize lss[q]=lq at hel hst hkb U8;generalize xs[q]=x at hel;have hh0:hi<=wr.heap.size:=ku (uh Hy) (uh Jy).md.size;obtain⟨hlo,zh,cs,hcs,hc,s0,v1,v2,v3,v4,v5,v6,l1,l2,l3,l4,l5,l6,rfl,g1,g2,g3,g4,g5,g6,hll⟩:=hel;have C0:=ak (hc 0 (by simp)).1;have Z0:=ak (hc 0 (by simp)).2;have C1:=ak (hc 1 (by simp)).1;have Z1:=ak (hc 1 (by simp)).2;have C2:=ak (hc 2 (by simp)).1;have Z2:=ak (hc 2 (by simp)).2;have C3:=ak (hc 3 (by simp)).1;have Z3:=ak (hc 3 (by simp)).2;have C4:=ak (hc 4 (by simp)).1;have Z4:=ak (hc 4 (by simp)).2;have C5:=ak (hc 5 (by simp)).1;have Z5:=ak (hc 5 (by simp)).2;have C6:=ak (hc 6 (by simp)).1;have Z6:=ak (hc 6 (by simp)).2;simp only[jr,ji,og,ou] at C0 Z0;simp only[jr,ji,og,ou] at C1 Z1;simp only[jr,ji,og,ou] at C2 Z2;simp only[jr,ji,og,ou] at C3 Z3;simp only[jr,ji,og,ou] at C4 Z4;simp only[jr,ji,og,ou] at C5 Z5;simp only[jr,ji,og,ou] at C6 Z6;obtain⟨sa1,sc1,rfl⟩:=g1.shape;have G1:=ak g1;obtain⟨sa2,sc2,rfl⟩:=g2.shape;have G2:=ak g2;obtain⟨sa3,sc3,rfl⟩:=g3.shape;have G3:=ak g3;obtain⟨sa4,sc4,rfl⟩:=g4.shape;have G4:=ak g4;obtain⟨sa5,sc5,rfl⟩:=g5.shape;have G5:=ak g5;obtain⟨sa6,sc6,rfl⟩:=g6.shape;have G6:=ak g6;have hlen:lq.length=1+l1.length+l2.length+l3.length+l4.length+l5.length+l6.length:=by simp[hll]<;>omega
   rw[hlen] at hst hkb;have HST:=ak hst;have HLL:=ak hll;have R0:=ak (X.refl lo hi wr);clear hst hcs hc hll hlen g1 g2 g3 g4 g5 g6;go_wp2_with fail;refine(Ls _ (kq+0) _ (by omega) (by omega)).mono ?_;rintro e w1 ⟨rfl,hb⟩;have seg:X lo hi _ wr w1:=X.then (X.refl lo hi wr) hb hh0;have R1:=ak ((uh R0).trans seg);have hh1:hi<=w1.heap.size:=ku hh0 seg.md.size;clear hb seg;obtain⟨y0,c0⟩:=(uh R1).aol hlo zh (uh C0);have f0:=(uh R1).Xo hlo zh (uh Z0);have c1:=(uh R1).csl hlo zh (uh C1);have f1:=(uh R1).Xo hlo zh (uh Z1);obtain⟨r2,hr2⟩:∃r,kq+1+l1.length=r:=⟨_,rfl⟩;have ac2:r2<=1000000000:=by omega
   have HR2:=ak hr2;clear hr2;go_wp2_with fail;refine(ahl _ _ _ _ (kq+1) r2 lo hi _ (by omega) (uh HR2) ac2 ((uh G1).stays Zc ((uh R1).trans ((X.refl lo hi w1).setCell hlo zh c0 (Kind2.strs _ _))).md) (ku hh1 ((X.refl lo hi w1).setCell hlo zh c0 (Kind2.strs _ _)).md.size)).mono ?_;rintro e w2 ⟨rfl,hm⟩;have seg:X lo hi _ w1 w2:=X.trans ((X.refl lo hi w1).setCell hlo zh c0 (Kind2.strs _ _)) hm;have R2:=ak ((uh R1).trans seg);have hh2:hi<=w2.heap.size:=ku hh1 seg.md.size;clear hm seg;clear c0 f0 c1 f1;have c2:=(uh R2).csl hlo zh (uh C2);have f2:=(uh R2).Xo hlo zh (uh Z2);obtain⟨r3,hr3⟩:∃r,r2+0+l2.length=r:=⟨_,rfl⟩;have ail:r3<=1000000000:=by have:=uh HR2;omega
   have HR3:=ak hr3;clear hr3;go_wp2_with fail;refine(ahl _ _ _ _ (r2+0) r3 lo hi _ (by omega) (uh HR3) ail ((uh G2).stays Zc ((uh R2).trans (X.refl lo hi w2)).md) (ku hh2 (X.refl lo hi w2).md.size)).mono ?_;rintro e w3 ⟨rfl,hm⟩;have seg:X lo hi _ w2 w3:=X.trans (X.refl lo hi w2) hm;have R3:=ak ((uh R2).trans seg);have hh3:hi<=w3.heap.size:=ku hh2 seg.md.size;clear hm seg;clear c2 f2;have c3:=(uh R3).csl hlo zh (uh C3);have f3:=(uh R3).Xo hlo zh (uh Z3);obtain⟨r4,hr4⟩:∃r,r3+0+l3.length=r:=⟨_,rfl⟩;have ain:r4<=1000000000:=by have:=uh HR2;have:=uh HR3;omega
   have HR4:=ak hr4;clear hr4;go_wp2_with fail;refine(afi _ _ _ _ (r3+0) r4 lo hi _ (by omega) (uh HR4) ain ((uh G3).stays aaw ((uh R3).trans (X.refl lo hi w3)).md) (ku hh3 (X.refl lo hi w3).md.size)).mono ?_;rintro e w4 ⟨rfl,hm⟩;have seg:X lo hi _ w3 w4:=X.trans (X.refl lo hi w3) hm;have R4:=ak ((uh R3).trans seg);have hh4:hi<=w4.heap.size:=ku hh3 seg.md.size;clear hm seg;clear c3 f3;have c4:=(uh R4).csl hlo zh (uh C4);have f4:=(uh R4).Xo hlo zh (uh Z4);obtain⟨r5,hr5⟩:∃r,r4+0+l4.length=r:=⟨_,rfl⟩;have a0e:r5<=1000000000:=by have:=uh HR2;have:=uh HR3;have:=uh HR4;omega
   have Xg:=ak hr5;clear hr5;go_wp2_with fail;refine(ajs _ _ _ _ (r4+0) r5 lo hi _ (by omega) (uh Xg) a0e ((uh G4).stays aax ((uh R4).trans (X.refl lo hi w4)).md) (ku hh4 (X.refl lo hi w4).md.size)).mono ?_;rintro e w5 ⟨rfl,hm⟩;have seg:X lo hi _ w4 w5:=X.trans (X.refl lo hi w4) hm;have R5:=ak ((uh R4).trans seg);have hh5:hi<=w5.heap.size:=ku hh4 seg.md.size;clear hm seg;clear c4 f4;have c5:=(uh R5).csl hlo zh (uh C5);have f5:=(uh R5).Xo hlo zh (uh Z5);obtain⟨r6,hr6⟩:∃r,r5+0+l5.length=r:=⟨_,rfl⟩;have a0f:r6<=1000000000:=by have:=uh HR2;have:=uh HR3;have:=uh HR4;have:=uh Xg;omega
   have HR6:=ak hr6;clear hr6;go_wp2_with fail;refine(ajs _ _ _ _ (r5+0) r6 lo hi _ (by omega) (uh HR6) a0f ((uh G5).stays aax ((uh R5).trans (X.refl lo hi w5)).md) (ku hh5 (X.refl lo hi w5).md.size)).mono ?_;rintro e w6 ⟨rfl,hm⟩;have seg:X lo hi _ w5 w6:=X.trans (X.refl lo hi w5) hm;have R6:=ak ((uh R5).trans seg);have hh6:hi<=w6.heap.size:=ku hh5 seg.md.size;clear hm seg;clear c5 f5;have c6:=(uh R6).csl hlo zh (uh C6);have f6:=(uh R6).Xo hlo zh (uh Z6);obtain⟨r7,hr7⟩:∃r,r6+0+l6.length=r:=⟨_,rfl⟩;have a0g:r7<=1000000000:=by have:=uh HR2;have:=uh HR3;have:=uh HR4;have:=uh Xg;have:=uh HR6;omega
   have HR7:=ak hr7;clear hr7;go_wp2_with fail;refine(atw _ _ _ _ (r6+0) r7 lo hi _ (by omega) (uh HR7) a0g ((uh G6).stays af7 ((uh R6).trans (X.refl lo hi w6)).md) (ku hh6 (X.refl lo hi w6).md.size)).mono ?_;rintro e w7 ⟨rfl,hm⟩;have seg:X lo hi _ w6 w7:=X.trans (X.refl lo hi w6) hm;have R7:=ak ((uh R6).trans seg);have hh7:hi<=w7.heap.size:=ku hh6 seg.md.size;clear hm seg;clear c6 f6;go_wp2
   go_roundg (xs.length-(q+1))
   case measure=>have:=uh HG;omega
   case rel =>
    refine⟨q+1,r7+0,by omega,rfl,by go_num,by go_num,(by refine ak ?_;have:=uh HST;have:=uh HR2;have:=uh HR3;have:=uh HR4;have:=uh Xg;have:=uh HR6;have:=uh HR7;omega),?_⟩;rw[uh U8];refine ak ((uh Jy).trans ?_);refine X.eq ((uh R7).trans (X.refl lo hi w7)) ?_;have e2:=uh HR2;have e3:=uh HR3;have e4:=uh HR4;have e5:=uh Xg;have e6:=uh HR6;have e7:=uh HR7;rw[uh HLL];simp only[Ik,Jd,mkV,Gl,Gm,Ew,jh,ug,Ar,ji,Ba,jr,Aq,←e2,←e3,←e4,←e5,←e6,←e7]
    try (simp[Nat.add_assoc,Nat.add_comm,Nat.add_left_comm]<;>omega)
  ·have e:q=xs.length:=by omega
   have Ld:lss.length<=q:=by rw[uh Eo];omega
   have hfa:=Md lss q Ld;rw[hfa,←uh Ib] at Dp Jy
   have HE:Hid (kq=r):=by
    refine ak ?_;rw[←uh Dp,←uh HR]
   clear e Ld hfa;go_wp2;go_ret;exact⟨(by rw[uh HE];rfl),uh Jy⟩
end Go.Proofs.YtfeejeflmcapoaaGreatDoor
