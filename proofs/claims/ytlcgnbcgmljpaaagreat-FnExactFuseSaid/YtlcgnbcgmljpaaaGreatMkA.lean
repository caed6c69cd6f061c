import Derived.Test.YtlcgnbcgmljpaaaGreatFB1
namespace Go.Proofs.YtlcgnbcgmljpaaaGreat
open Go.RowKit
set_option linter.unusedSimpArgs false
set_option linter.unusedVariables false
set_option maxHeartbeats 1000000 in
theorem Zi (xs:List ByteArray) (v:Value) (K:Int) (k r lo hi:Nat) (w:World) (hK:K=(k:Int)) (hr:k+qo mStr xs xs.length=r) (hrb:r<=1000000000) (hv:Dy 1 ah7 lo hi w v xs) (hhi:hi<=w.heap.size) :
  Calls Tryz.prog 35 #[v,.int .i64 K] w (Wn lo hi w r):=by
 subst hK
 obtain⟨a,cap,rfl,hn,hx⟩:=hv
 unfold Len at hn
 have HX:=hide hx
 have Ie:=hide (fun q hq=>Wj mStr xs q hq)
 have yt:=hide hhi
 have HR:=hide hr
 have qm:=hide hrb
 clear hx hhi hr hrb
 go_enter Tryz.func35,Tryz.ntmps35
 go_wp2
 go_loopg [1,5] xs.length (fun g kk i wr=>∃(q kq:Nat),q<=xs.length∧g=xs.length-q∧i=.int .i64 q∧kk=.int .i64 (kq:Int)∧Hid (k+qo mStr xs q=kq)∧Hid (Mk lo hi w wr))
 case atStart=>exact⟨0,k,Nat.zero_le _,by omega,rfl,rfl,by rw[En];rfl,Mk.refl _ _ _⟩
 case round =>
  obtain⟨q,kq,hq,hg,rfl,rfl,qj,qy⟩:=hrel
  have HG:=hide hg
  clear hg
  by_cases hlt:q<xs.length
  ·obtain⟨b,o,rfl,hel⟩:=uh HX q hlt
   have hel:=hel.stays Lm (uh qy)
   have hst:k+qo mStr xs (q+1)=kq+mStr xs[q]:=by
    rw[Dx _ _ _ hlt,←uh qj]
    omega
   have hkb:kq+mStr xs[q]<=1000000000:=by
    have h1:=uh Ie (q+1) (by omega)
    have h2:=uh HR
    have h3:=uh qm
    omega
   generalize xs[q]=x at hel hst hkb
   have em:mStr x=1:=rfl
   rw[em] at hst hkb
   have HST:=hide hst
   have Ig:=hide hel
   have hh0:hi<=wr.heap.size:=Nat.le_trans (uh yt) (uh qy).size
   have R0:=hide (Mk.refl lo hi wr)
   clear hst hel em
   obtain⟨hlo,ji,cs,hcs,hc,⟨s0,rfl⟩⟩:=(uh Ig).stays Lm (uh R0)
   clear hc hcs
   go_wp2_with fail
   refine(Ac _ (kq+0) _ (by omega) (by omega)).mono ?_
   rintro e w1 ⟨rfl,hb⟩
   have seg:Mk lo hi wr w1:=Mk.then (Mk.refl lo hi wr) hb hh0
   have R1:=hide ((uh R0).trans seg)
   have hh1:hi<=w1.heap.size:=Nat.le_trans hh0 seg.size
   clear hb seg
   clear hlo ji
   obtain⟨hlo,ji,cs,hcs,hc,⟨s0,rfl⟩⟩:=(uh Ig).stays Lm (uh R1)
   have c0:=(hc 0 (by simp)).1
   have f0:=(hc 0 (by simp)).2
   simp only[Nat.mul_one,Nat.add_zero,List.getElem_cons_zero,List.getElem_cons_succ] at c0 f0
   clear hc hcs
   go_wp2
   go_roundg (xs.length-(q+1))
   case measure=>have:=uh HG;omega
   case rel=>exact⟨q+1,kq+1,by omega,rfl,by go_num,by go_num,(by refine hide ?_;have:=uh HST;omega),(by refine hide ?_;exact(uh qy).trans ((uh R1).trans ((Mk.refl lo hi w1).setCell hlo ji c0 (Kind2.strs _ _))))⟩
  ·have e:q=xs.length:=by omega
   have HE:Hid (kq=r):=by
    refine hide ?_
    rw[←uh qj,←uh HR,e]
   clear e
   go_wp2
   go_ret
   exact⟨(by rw[uh HE];rfl),uh qy⟩
set_option maxHeartbeats 1000000 in
theorem ac8 (xs:List Int) (v:Value) (K:Int) (k r lo hi:Nat) (w:World) (hK:K=(k:Int)) (hr:k+qo Lp xs xs.length=r) (hrb:r<=1000000000) (hv:Dy 1 ah8 lo hi w v xs) (hhi:hi<=w.heap.size) :
  Calls Tryz.prog 36 #[v,.int .i64 K] w (Wn lo hi w r):=by
 subst hK
 obtain⟨a,cap,rfl,hn,hx⟩:=hv
 unfold Len at hn
 have HX:=hide hx
 have Ie:=hide (fun q hq=>Wj Lp xs q hq)
 have yt:=hide hhi
 have HR:=hide hr
 have qm:=hide hrb
 clear hx hhi hr hrb
 go_enter Tryz.func36,Tryz.ntmps36
 go_wp2
 go_loopg [1,5] xs.length (fun g kk i wr=>∃(q kq:Nat),q<=xs.length∧g=xs.length-q∧i=.int .i64 q∧kk=.int .i64 (kq:Int)∧Hid (k+qo Lp xs q=kq)∧Hid (Mk lo hi w wr))
 case atStart=>exact⟨0,k,Nat.zero_le _,by omega,rfl,rfl,by rw[En];rfl,Mk.refl _ _ _⟩
 case round =>
  obtain⟨q,kq,hq,hg,rfl,rfl,qj,qy⟩:=hrel
  have HG:=hide hg
  clear hg
  by_cases hlt:q<xs.length
  ·obtain⟨b,o,rfl,hel⟩:=uh HX q hlt
   have hel:=hel.stays Pv (uh qy)
   have hst:k+qo Lp xs (q+1)=kq+Lp xs[q]:=by
    rw[Dx _ _ _ hlt,←uh qj]
    omega
   have hkb:kq+Lp xs[q]<=1000000000:=by
    have h1:=uh Ie (q+1) (by omega)
    have h2:=uh HR
    have h3:=uh qm
    omega
   generalize xs[q]=x at hel hst hkb
   have em:Lp x=1:=rfl
   rw[em] at hst hkb
   have HST:=hide hst
   have Ig:=hide hel
   have hh0:hi<=wr.heap.size:=Nat.le_trans (uh yt) (uh qy).size
   have R0:=hide (Mk.refl lo hi wr)
   clear hst hel em
   obtain⟨hlo,ji,cs,hcs,hc,⟨s0,rfl⟩⟩:=(uh Ig).stays Pv (uh R0)
   have c0:=(hc 0 (by simp)).1
   have f0:=(hc 0 (by simp)).2
   simp only[Nat.mul_one,Nat.add_zero,List.getElem_cons_zero,List.getElem_cons_succ] at c0 f0
   clear hc hcs
   go_wp2
   go_roundg (xs.length-(q+1))
   case measure=>have:=uh HG;omega
   case rel=>exact⟨q+1,kq+1,by omega,rfl,by go_num,by go_num,(by refine hide ?_;have:=uh HST;omega),(by refine hide ?_;exact(uh qy).trans ((uh R0).trans ((Mk.refl lo hi wr).setCell hlo ji c0 (Kind2.ints _ _))))⟩
  ·have e:q=xs.length:=by omega
   have HE:Hid (kq=r):=by
    refine hide ?_
    rw[←uh qj,←uh HR,e]
   clear e
   go_wp2
   go_ret
   exact⟨(by rw[uh HE];rfl),uh qy⟩
set_option maxHeartbeats 1000000 in
theorem ab3 (xs:List iw) (v:Value) (K:Int) (k r lo hi:Nat) (w:World) (hK:K=(k:Int)) (hr:k+qo Ir xs xs.length=r) (hrb:r<=1000000000) (hv:Dy 3 aed lo hi w v xs) (hhi:hi<=w.heap.size) :
  Calls Tryz.prog 66 #[v,.int .i64 K] w (Wn lo hi w r):=by
 subst hK
 obtain⟨a,cap,rfl,hn,hx⟩:=hv
 unfold Len at hn
 have HX:=hide hx
 have Ie:=hide (fun q hq=>Wj Ir xs q hq)
 have yt:=hide hhi
 have HR:=hide hr
 have qm:=hide hrb
 clear hx hhi hr hrb
 go_enter Tryz.func66,Tryz.ntmps66
 go_wp2
 go_loopg [1,5] xs.length (fun g kk i wr=>∃(q kq:Nat),q<=xs.length∧g=xs.length-q∧i=.int .i64 q∧kk=.int .i64 (kq:Int)∧Hid (k+qo Ir xs q=kq)∧Hid (Mk lo hi w wr))
 case atStart=>exact⟨0,k,Nat.zero_le _,by omega,rfl,rfl,by rw[En];rfl,Mk.refl _ _ _⟩
 case round =>
  obtain⟨q,kq,hq,hg,rfl,rfl,qj,qy⟩:=hrel
  have HG:=hide hg
  clear hg
  by_cases hlt:q<xs.length
  ·obtain⟨b,o,rfl,hel⟩:=uh HX q hlt
   have hel:=hel.stays Ju (uh qy)
   have hst:k+qo Ir xs (q+1)=kq+Ir xs[q]:=by
    rw[Dx _ _ _ hlt,←uh qj]
    omega
   have hkb:kq+Ir xs[q]<=1000000000:=by
    have h1:=uh Ie (q+1) (by omega)
    have h2:=uh HR
    have h3:=uh qm
    omega
   generalize xs[q]=x at hel hst hkb
   have em:Ir x=3:=rfl
   rw[em] at hst hkb
   have HST:=hide hst
   have Ig:=hide hel
   have hh0:hi<=wr.heap.size:=Nat.le_trans (uh yt) (uh qy).size
   have R0:=hide (Mk.refl lo hi wr)
   clear hst hel em
   obtain⟨hlo,ji,cs,hcs,hc,⟨s0,s1,s2,rfl⟩⟩:=(uh Ig).stays Ju (uh R0)
   have c0:=(hc 0 (by simp)).1
   have f0:=(hc 0 (by simp)).2
   have c1:=(hc 1 (by simp)).1
   have f1:=(hc 1 (by simp)).2
   simp only[Nat.mul_one,Nat.add_zero,List.getElem_cons_zero,List.getElem_cons_succ] at c0 f0 c1 f1
   clear hc hcs
   go_wp2_with fail
   refine(Ac _ (kq+2) _ (by omega) (by omega)).mono ?_
   rintro e w1 ⟨rfl,hb⟩
   have seg:Mk lo hi wr w1:=Mk.then (((Mk.refl lo hi wr).setCell hlo ji c0 (Kind2.ints _ _)).setCell hlo ji (by rw[yw _ _ _ _ _ (Or.inr (by simp))];exact c1) (Kind2.ints _ _)) hb hh0
   have R1:=hide ((uh R0).trans seg)
   have hh1:hi<=w1.heap.size:=Nat.le_trans hh0 seg.size
   clear hb seg
   clear c0 f0 c1 f1
   clear hlo ji
   obtain⟨hlo,ji,cs,hcs,hc,⟨s0,s1,s2,rfl⟩⟩:=(uh Ig).stays Ju (uh R1)
   have c2:=(hc 2 (by simp)).1
   have f2:=(hc 2 (by simp)).2
   simp only[Nat.mul_one,Nat.add_zero,List.getElem_cons_zero,List.getElem_cons_succ] at c2 f2
   clear hc hcs
   go_wp2
   go_roundg (xs.length-(q+1))
   case measure=>have:=uh HG;omega
   case rel=>exact⟨q+1,kq+3,by omega,rfl,by go_num,by go_num,(by refine hide ?_;have:=uh HST;omega),(by refine hide ?_;exact(uh qy).trans ((uh R1).trans ((Mk.refl lo hi w1).setCell hlo ji c2 (Kind2.strs _ _))))⟩
  ·have e:q=xs.length:=by omega
   have HE:Hid (kq=r):=by
    refine hide ?_
    rw[←uh qj,←uh HR,e]
   clear e
   go_wp2
   go_ret
   exact⟨(by rw[uh HE];rfl),uh qy⟩
set_option maxHeartbeats 1000000 in
theorem ahr (xs:List (List iw)) (v:Value) (K:Int) (k r lo hi:Nat) (w:World) (hK:K=(k:Int)) (hr:k+qo Je xs xs.length=r) (hrb:r<=1000000000) (hv:Dy 1 aee lo hi w v xs) (hhi:hi<=w.heap.size) :
  Calls Tryz.prog 67 #[v,.int .i64 K] w (Wn lo hi w r):=by
 subst hK
 obtain⟨a,cap,rfl,hn,hx⟩:=hv
 unfold Len at hn
 have HX:=hide hx
 have Ie:=hide (fun q hq=>Wj Je xs q hq)
 have yt:=hide hhi
 have HR:=hide hr
 have qm:=hide hrb
 clear hx hhi hr hrb
 go_enter Tryz.func67,Tryz.ntmps67
 go_wp2
 go_loopg [1,5] xs.length (fun g kk i wr=>∃(q kq:Nat),q<=xs.length∧g=xs.length-q∧i=.int .i64 q∧kk=.int .i64 (kq:Int)∧Hid (k+qo Je xs q=kq)∧Hid (Mk lo hi w wr))
 case atStart=>exact⟨0,k,Nat.zero_le _,by omega,rfl,rfl,by rw[En];rfl,Mk.refl _ _ _⟩
 case round =>
  obtain⟨q,kq,hq,hg,rfl,rfl,qj,qy⟩:=hrel
  have HG:=hide hg
  clear hg
  by_cases hlt:q<xs.length
  ·obtain⟨b,o,rfl,hel⟩:=uh HX q hlt
   have hel:=hel.stays Tj (uh qy)
   have hst:k+qo Je xs (q+1)=kq+Je xs[q]:=by
    rw[Dx _ _ _ hlt,←uh qj]
    omega
   have hkb:kq+Je xs[q]<=1000000000:=by
    have h1:=uh Ie (q+1) (by omega)
    have h2:=uh HR
    have h3:=uh qm
    omega
   generalize xs[q]=x at hel hst hkb
   have em:Je x=qo Ir x x.length:=rfl
   rw[em] at hst hkb
   have HST:=hide hst
   have Ig:=hide hel
   have hh0:hi<=wr.heap.size:=Nat.le_trans (uh yt) (uh qy).size
   have R0:=hide (Mk.refl lo hi wr)
   clear hst hel em
   obtain⟨hlo,ji,cs,hcs,hc,⟨v0,rfl,g0⟩⟩:=(uh Ig).stays Tj (uh R0)
   have c0:=(hc 0 (by simp)).1
   have f0:=(hc 0 (by simp)).2
   simp only[Nat.mul_one,Nat.add_zero,List.getElem_cons_zero,List.getElem_cons_succ] at c0 f0
   obtain⟨sa0,sc0,rfl⟩:=g0.shape
   have G0:=hide g0
   clear g0
   clear hc hcs
   obtain⟨r1,hr1⟩:∃r,kq+0+qo Ir x (x).length=r:=⟨_,rfl⟩
   have akb:r1<=1000000000:=by omega
   have HR1:=hide hr1
   clear hr1
   go_wp2_with fail
   refine(ab3 _ _ _ (kq+0) r1 lo hi _ (by omega) (uh HR1) akb ((uh G0).stays Ju (Mk.refl lo hi wr)) (Nat.le_trans hh0 (Mk.size (Mk.refl lo hi wr)))).mono ?_
   rintro e w1 ⟨rfl,hm⟩
   have seg:Mk lo hi wr w1:=Mk.trans (Mk.refl lo hi wr) hm
   have R1:=hide ((uh R0).trans seg)
   have hh1:hi<=w1.heap.size:=Nat.le_trans hh0 seg.size
   clear hm seg
   clear c0 f0
   clear G0
   clear hlo ji
   go_wp2
   go_roundg (xs.length-(q+1))
   case measure=>have:=uh HG;omega
   case rel=>exact⟨q+1,r1+0,by omega,rfl,by go_num,by go_num,(by refine hide ?_;have:=uh HST;have:=uh HR1;omega),(by refine hide ?_;exact(uh qy).trans ((uh R1).trans (Mk.refl lo hi w1)))⟩
  ·have e:q=xs.length:=by omega
   have HE:Hid (kq=r):=by
    refine hide ?_
    rw[←uh qj,←uh HR,e]
   clear e
   go_wp2
   go_ret
   exact⟨(by rw[uh HE];rfl),uh qy⟩
set_option maxHeartbeats 1000000 in
theorem ab4 (xs:List gy) (v:Value) (K:Int) (k r lo hi:Nat) (w:World) (hK:K=(k:Int)) (hr:k+qo Iu xs xs.length=r) (hrb:r<=1000000000) (hv:Dy 2 aef lo hi w v xs) (hhi:hi<=w.heap.size) :
  Calls Tryz.prog 34 #[v,.int .i64 K] w (Wn lo hi w r):=by
 subst hK
 obtain⟨a,cap,rfl,hn,hx⟩:=hv
 unfold Len at hn
 have HX:=hide hx
 have Ie:=hide (fun q hq=>Wj Iu xs q hq)
 have yt:=hide hhi
 have HR:=hide hr
 have qm:=hide hrb
 clear hx hhi hr hrb
 go_enter Tryz.func34,Tryz.ntmps34
 go_wp2
 go_loopg [1,5] xs.length (fun g kk i wr=>∃(q kq:Nat),q<=xs.length∧g=xs.length-q∧i=.int .i64 q∧kk=.int .i64 (kq:Int)∧Hid (k+qo Iu xs q=kq)∧Hid (Mk lo hi w wr))
 case atStart=>exact⟨0,k,Nat.zero_le _,by omega,rfl,rfl,by rw[En];rfl,Mk.refl _ _ _⟩
 case round =>
  obtain⟨q,kq,hq,hg,rfl,rfl,qj,qy⟩:=hrel
  have HG:=hide hg
  clear hg
  by_cases hlt:q<xs.length
  ·obtain⟨b,o,rfl,hel⟩:=uh HX q hlt
   have hel:=hel.stays Jw (uh qy)
   have hst:k+qo Iu xs (q+1)=kq+Iu xs[q]:=by
    rw[Dx _ _ _ hlt,←uh qj]
    omega
   have hkb:kq+Iu xs[q]<=1000000000:=by
    have h1:=uh Ie (q+1) (by omega)
    have h2:=uh HR
    have h3:=uh qm
    omega
   generalize xs[q]=x at hel hst hkb
   have em:Iu x=2:=rfl
   rw[em] at hst hkb
   have HST:=hide hst
   have Ig:=hide hel
   have hh0:hi<=wr.heap.size:=Nat.le_trans (uh yt) (uh qy).size
   have R0:=hide (Mk.refl lo hi wr)
   clear hst hel em
   obtain⟨hlo,ji,cs,hcs,hc,⟨s0,s1,rfl⟩⟩:=(uh Ig).stays Jw (uh R0)
   clear hc hcs
   go_wp2_with fail
   refine(Ac _ (kq+0) _ (by omega) (by omega)).mono ?_
   rintro e w1 ⟨rfl,hb⟩
   have seg:Mk lo hi wr w1:=Mk.then (Mk.refl lo hi wr) hb hh0
   have R1:=hide ((uh R0).trans seg)
   have hh1:hi<=w1.heap.size:=Nat.le_trans hh0 seg.size
   clear hb seg
   clear hlo ji
   obtain⟨hlo,ji,cs,hcs,hc,⟨s0,s1,rfl⟩⟩:=(uh Ig).stays Jw (uh R1)
   have c0:=(hc 0 (by simp)).1
   have f0:=(hc 0 (by simp)).2
   have c1:=(hc 1 (by simp)).1
   have f1:=(hc 1 (by simp)).2
   simp only[Nat.mul_one,Nat.add_zero,List.getElem_cons_zero,List.getElem_cons_succ] at c0 f0 c1 f1
   clear hc hcs
   go_wp2
   go_roundg (xs.length-(q+1))
   case measure=>have:=uh HG;omega
   case rel=>exact⟨q+1,kq+2,by omega,rfl,by go_num,by go_num,(by refine hide ?_;have:=uh HST;omega),(by refine hide ?_;exact(uh qy).trans ((uh R1).trans (((Mk.refl lo hi w1).setCell hlo ji c0 (Kind2.strs _ _)).setCell hlo ji (by rw[yw _ _ _ _ _ (Or.inr (by simp))];exact c1) (Kind2.ints _ _))))⟩
  ·have e:q=xs.length:=by omega
   have HE:Hid (kq=r):=by
    refine hide ?_
    rw[←uh qj,←uh HR,e]
   clear e
   go_wp2
   go_ret
   exact⟨(by rw[uh HE];rfl),uh qy⟩
set_option maxHeartbeats 1000000 in
theorem alc (xs:List dh) (v:Value) (K:Int) (k r lo hi:Nat) (w:World) (hK:K=(k:Int)) (hr:k+qo O7 xs xs.length=r) (hrb:r<=1000000000) (hv:Dy 6 amo lo hi w v xs) (hhi:hi<=w.heap.size) :
  Calls Tryz.prog 37 #[v,.int .i64 K] w (Wn lo hi w r):=by
 subst hK
 obtain⟨a,cap,rfl,hn,hx⟩:=hv
 unfold Len at hn
 have HX:=hide hx
 have Ie:=hide (fun q hq=>Wj O7 xs q hq)
 have yt:=hide hhi
 have HR:=hide hr
 have qm:=hide hrb
 clear hx hhi hr hrb
 go_enter Tryz.func37,Tryz.ntmps37
 go_wp2
 go_loopg [1,5] xs.length (fun g kk i wr=>∃(q kq:Nat),q<=xs.length∧g=xs.length-q∧i=.int .i64 q∧kk=.int .i64 (kq:Int)∧Hid (k+qo O7 xs q=kq)∧Hid (Mk lo hi w wr))
 case atStart=>exact⟨0,k,Nat.zero_le _,by omega,rfl,rfl,by rw[En];rfl,Mk.refl _ _ _⟩
 case round =>
  obtain⟨q,kq,hq,hg,rfl,rfl,qj,qy⟩:=hrel
  have HG:=hide hg
  clear hg
  by_cases hlt:q<xs.length
  ·obtain⟨b,o,rfl,hel⟩:=uh HX q hlt
   have hel:=hel.stays Lr (uh qy)
   have hst:k+qo O7 xs (q+1)=kq+O7 xs[q]:=by
    rw[Dx _ _ _ hlt,←uh qj]
    omega
   have hkb:kq+O7 xs[q]<=1000000000:=by
    have h1:=uh Ie (q+1) (by omega)
    have h2:=uh HR
    have h3:=uh qm
    omega
   generalize xs[q]=x at hel hst hkb
   have em:O7 x=3+qo mStr x.outs x.outs.length+qo Ir x.code x.code.length+qo Je x.args x.args.length:=rfl
   rw[em] at hst hkb
   have HST:=hide hst
   have Ig:=hide hel
   have hh0:hi<=wr.heap.size:=Nat.le_trans (uh yt) (uh qy).size
   have R0:=hide (Mk.refl lo hi wr)
   clear hst hel em
   obtain⟨hlo,ji,cs,hcs,hc,⟨s0,s1,s2,v3,v4,v5,rfl,g3,g4,g5⟩⟩:=(uh Ig).stays Lr (uh R0)
   have c0:=(hc 0 (by simp)).1
   have f0:=(hc 0 (by simp)).2
   simp only[Nat.mul_one,Nat.add_zero,List.getElem_cons_zero,List.getElem_cons_succ] at c0 f0
   obtain⟨Uf,Vj,rfl⟩:=g3.shape
   have G3:=hide g3
   clear g3
   obtain⟨Vk,Vl,rfl⟩:=g4.shape
   have G4:=hide g4
   clear g4
   obtain⟨Vm,Vo,rfl⟩:=g5.shape
   have G5:=hide g5
   clear g5
   clear hc hcs
   go_wp2_with fail
   refine(Ac _ (kq+1) _ (by omega) (by omega)).mono ?_
   rintro e w1 ⟨rfl,hb⟩
   have seg:Mk lo hi wr w1:=Mk.then ((Mk.refl lo hi wr).setCell hlo ji c0 (Kind2.ints _ _)) hb hh0
   have R1:=hide ((uh R0).trans seg)
   have hh1:hi<=w1.heap.size:=Nat.le_trans hh0 seg.size
   clear hb seg
   clear c0 f0
   clear G3 G4 G5
   clear hlo ji
   obtain⟨hlo,ji,cs,hcs,hc,⟨s0,s1,s2,v3,v4,v5,rfl,g3,g4,g5⟩⟩:=(uh Ig).stays Lr (uh R1)
   have c1:=(hc 1 (by simp)).1
   have f1:=(hc 1 (by simp)).2
   have c2:=(hc 2 (by simp)).1
   have f2:=(hc 2 (by simp)).2
   have c3:=(hc 3 (by simp)).1
   have f3:=(hc 3 (by simp)).2
   simp only[Nat.mul_one,Nat.add_zero,List.getElem_cons_zero,List.getElem_cons_succ] at c1 f1 c2 f2 c3 f3
   obtain⟨Uf,Vj,rfl⟩:=g3.shape
   have G3:=hide g3
   clear g3
   obtain⟨Vk,Vl,rfl⟩:=g4.shape
   have G4:=hide g4
   clear g4
   obtain⟨Vm,Vo,rfl⟩:=g5.shape
   have G5:=hide g5
   clear g5
   clear hc hcs
   obtain⟨r2,hr2⟩:∃r,kq+3+qo mStr x.outs (x.outs).length=r:=⟨_,rfl⟩
   have Xj:r2<=1000000000:=by omega
   have HR2:=hide hr2
   clear hr2
   go_wp2_with fail
   refine(Zi _ _ _ (kq+3) r2 lo hi _ (by omega) (uh HR2) Xj ((uh G3).stays Lm (((Mk.refl lo hi w1).setCell hlo ji c1 (Kind2.strs _ _)).setCell hlo ji (by rw[yw _ _ _ _ _ (Or.inr (by simp))];exact c2) (Kind2.ints _ _))) (Nat.le_trans hh1 (Mk.size (((Mk.refl lo hi w1).setCell hlo ji c1 (Kind2.strs _ _)).setCell hlo ji (by rw[yw _ _ _ _ _ (Or.inr (by simp))];exact c2) (Kind2.ints _ _))))).mono ?_
   rintro e w2 ⟨rfl,hm⟩
   have seg:Mk lo hi w1 w2:=Mk.trans (((Mk.refl lo hi w1).setCell hlo ji c1 (Kind2.strs _ _)).setCell hlo ji (by rw[yw _ _ _ _ _ (Or.inr (by simp))];exact c2) (Kind2.ints _ _)) hm
   have R2:=hide ((uh R1).trans seg)
   have hh2:hi<=w2.heap.size:=Nat.le_trans hh1 seg.size
   clear hm seg
   clear c1 f1 c2 f2 c3 f3
   clear G3 G4 G5
   clear hlo ji
   obtain⟨hlo,ji,cs,hcs,hc,⟨s0,s1,s2,v3,v4,v5,rfl,g3,g4,g5⟩⟩:=(uh Ig).stays Lr (uh R2)
   have c4:=(hc 4 (by simp)).1
   have f4:=(hc 4 (by simp)).2
   simp only[Nat.mul_one,Nat.add_zero,List.getElem_cons_zero,List.getElem_cons_succ] at c4 f4
   obtain⟨Uf,Vj,rfl⟩:=g3.shape
   have G3:=hide g3
   clear g3
   obtain⟨Vk,Vl,rfl⟩:=g4.shape
   have G4:=hide g4
   clear g4
   obtain⟨Vm,Vo,rfl⟩:=g5.shape
   have G5:=hide g5
   clear g5
   clear hc hcs
   obtain⟨r3,hr3⟩:∃r,r2+0+qo Ir x.code (x.code).length=r:=⟨_,rfl⟩
   have Xk:r3<=1000000000:=by have:=uh HR2;omega
   have HR3:=hide hr3
   clear hr3
   go_wp2_with fail
   refine(ab3 _ _ _ (r2+0) r3 lo hi _ (by omega) (uh HR3) Xk ((uh G4).stays Ju (Mk.refl lo hi w2)) (Nat.le_trans hh2 (Mk.size (Mk.refl lo hi w2)))).mono ?_
   rintro e w3 ⟨rfl,hm⟩
   have seg:Mk lo hi w2 w3:=Mk.trans (Mk.refl lo hi w2) hm
   have R3:=hide ((uh R2).trans seg)
   have hh3:hi<=w3.heap.size:=Nat.le_trans hh2 seg.size
   clear hm seg
   clear c4 f4
   clear G3 G4 G5
   clear hlo ji
   obtain⟨hlo,ji,cs,hcs,hc,⟨s0,s1,s2,v3,v4,v5,rfl,g3,g4,g5⟩⟩:=(uh Ig).stays Lr (uh R3)
   have c5:=(hc 5 (by simp)).1
   have f5:=(hc 5 (by simp)).2
   simp only[Nat.mul_one,Nat.add_zero,List.getElem_cons_zero,List.getElem_cons_succ] at c5 f5
   obtain⟨Uf,Vj,rfl⟩:=g3.shape
   have G3:=hide g3
   clear g3
   obtain⟨Vk,Vl,rfl⟩:=g4.shape
   have G4:=hide g4
   clear g4
   obtain⟨Vm,Vo,rfl⟩:=g5.shape
   have G5:=hide g5
   clear g5
   clear hc hcs
   obtain⟨r4,hr4⟩:∃r,r3+0+qo Je x.args (x.args).length=r:=⟨_,rfl⟩
   have Xl:r4<=1000000000:=by have:=uh HR2;have:=uh HR3;omega
   have HR4:=hide hr4
   clear hr4
   go_wp2_with fail
   refine(ahr _ _ _ (r3+0) r4 lo hi _ (by omega) (uh HR4) Xl ((uh G5).stays Tj (Mk.refl lo hi w3)) (Nat.le_trans hh3 (Mk.size (Mk.refl lo hi w3)))).mono ?_
   rintro e w4 ⟨rfl,hm⟩
   have seg:Mk lo hi w3 w4:=Mk.trans (Mk.refl lo hi w3) hm
   have R4:=hide ((uh R3).trans seg)
   have hh4:hi<=w4.heap.size:=Nat.le_trans hh3 seg.size
   clear hm seg
   clear c5 f5
   clear G3 G4 G5
   clear hlo ji
   go_wp2
   go_roundg (xs.length-(q+1))
   case measure=>have:=uh HG;omega
   case rel=>exact⟨q+1,r4+0,by omega,rfl,by go_num,by go_num,(by refine hide ?_;have:=uh HST;have:=uh HR2;have:=uh HR3;have:=uh HR4;omega),(by refine hide ?_;exact(uh qy).trans ((uh R4).trans (Mk.refl lo hi w4)))⟩
  ·have e:q=xs.length:=by omega
   have HE:Hid (kq=r):=by
    refine hide ?_
    rw[←uh qj,←uh HR,e]
   clear e
   go_wp2
   go_ret
   exact⟨(by rw[uh HE];rfl),uh qy⟩
set_option maxHeartbeats 1000000 in
theorem ahs (xs:List ak) (v:Value) (K:Int) (k r lo hi:Nat) (w:World) (hK:K=(k:Int)) (hr:k+qo Dh xs xs.length=r) (hrb:r<=1000000000) (hv:Dy 7 aeg lo hi w v xs) (hhi:hi<=w.heap.size) :
  Calls Tryz.prog 20 #[v,.int .i64 K] w (Wn lo hi w r):=by
 subst hK
 obtain⟨a,cap,rfl,hn,hx⟩:=hv
 unfold Len at hn
 have HX:=hide hx
 have Ie:=hide (fun q hq=>Wj Dh xs q hq)
 have yt:=hide hhi
 have HR:=hide hr
 have qm:=hide hrb
 clear hx hhi hr hrb
 go_enter Tryz.func20,Tryz.ntmps20
 go_wp2
 go_loopg [1,5] xs.length (fun g kk i wr=>∃(q kq:Nat),q<=xs.length∧g=xs.length-q∧i=.int .i64 q∧kk=.int .i64 (kq:Int)∧Hid (k+qo Dh xs q=kq)∧Hid (Mk lo hi w wr))
 case atStart=>exact⟨0,k,Nat.zero_le _,by omega,rfl,rfl,by rw[En];rfl,Mk.refl _ _ _⟩
 case round =>
  obtain⟨q,kq,hq,hg,rfl,rfl,qj,qy⟩:=hrel
  have HG:=hide hg
  clear hg
  by_cases hlt:q<xs.length
  ·obtain⟨b,o,rfl,hel⟩:=uh HX q hlt
   have hel:=hel.stays Dt (uh qy)
   have hst:k+qo Dh xs (q+1)=kq+Dh xs[q]:=by
    rw[Dx _ _ _ hlt,←uh qj]
    omega
   have hkb:kq+Dh xs[q]<=1000000000:=by
    have h1:=uh Ie (q+1) (by omega)
    have h2:=uh HR
    have h3:=uh qm
    omega
   generalize xs[q]=x at hel hst hkb
   have em:Dh x=1+qo Iu x.ins x.ins.length+qo Iu x.outs x.outs.length+qo mStr x.ay x.ay.length+qo Lp x.aj x.aj.length+qo Lp x.insts x.insts.length+qo O7 x.body x.body.length:=rfl
   rw[em] at hst hkb
   have HST:=hide hst
   have Ig:=hide hel
   have hh0:hi<=wr.heap.size:=Nat.le_trans (uh yt) (uh qy).size
   have R0:=hide (Mk.refl lo hi wr)
   clear hst hel em
   obtain⟨hlo,ji,cs,hcs,hc,⟨s0,v1,v2,v3,v4,v5,v6,rfl,g1,g2,g3,g4,g5,g6⟩⟩:=(uh Ig).stays Dt (uh R0)
   obtain⟨sa1,sc1,rfl⟩:=g1.shape
   have G1:=hide g1
   clear g1
   obtain⟨sa2,N9,rfl⟩:=g2.shape
   have G2:=hide g2
   clear g2
   obtain⟨Uf,Vj,rfl⟩:=g3.shape
   have G3:=hide g3
   clear g3
   obtain⟨Vk,Vl,rfl⟩:=g4.shape
   have G4:=hide g4
   clear g4
   obtain⟨Vm,Vo,rfl⟩:=g5.shape
   have G5:=hide g5
   clear g5
   obtain⟨sa6,sc6,rfl⟩:=g6.shape
   have G6:=hide g6
   clear g6
   clear hc hcs
   go_wp2_with fail
   refine(Ac _ (kq+0) _ (by omega) (by omega)).mono ?_
   rintro e w1 ⟨rfl,hb⟩
   have seg:Mk lo hi wr w1:=Mk.then (Mk.refl lo hi wr) hb hh0
   have R1:=hide ((uh R0).trans seg)
   have hh1:hi<=w1.heap.size:=Nat.le_trans hh0 seg.size
   clear hb seg
   clear G1 G2 G3 G4 G5 G6
   clear hlo ji
   obtain⟨hlo,ji,cs,hcs,hc,⟨s0,v1,v2,v3,v4,v5,v6,rfl,g1,g2,g3,g4,g5,g6⟩⟩:=(uh Ig).stays Dt (uh R1)
   have c0:=(hc 0 (by simp)).1
   have f0:=(hc 0 (by simp)).2
   have c1:=(hc 1 (by simp)).1
   have f1:=(hc 1 (by simp)).2
   simp only[Nat.mul_one,Nat.add_zero,List.getElem_cons_zero,List.getElem_cons_succ] at c0 f0 c1 f1
   obtain⟨sa1,sc1,rfl⟩:=g1.shape
   have G1:=hide g1
   clear g1
   obtain⟨sa2,N9,rfl⟩:=g2.shape
   have G2:=hide g2
   clear g2
   obtain⟨Uf,Vj,rfl⟩:=g3.shape
   have G3:=hide g3
   clear g3
   obtain⟨Vk,Vl,rfl⟩:=g4.shape
   have G4:=hide g4
   clear g4
   obtain⟨Vm,Vo,rfl⟩:=g5.shape
   have G5:=hide g5
   clear g5
   obtain⟨sa6,sc6,rfl⟩:=g6.shape
   have G6:=hide g6
   clear g6
   clear hc hcs
   obtain⟨r2,hr2⟩:∃r,kq+1+qo Iu x.ins (x.ins).length=r:=⟨_,rfl⟩
   have Xj:r2<=1000000000:=by omega
   have HR2:=hide hr2
   clear hr2
   go_wp2_with fail
   refine(ab4 _ _ _ (kq+1) r2 lo hi _ (by omega) (uh HR2) Xj ((uh G1).stays Jw ((Mk.refl lo hi w1).setCell hlo ji c0 (Kind2.strs _ _))) (Nat.le_trans hh1 (Mk.size ((Mk.refl lo hi w1).setCell hlo ji c0 (Kind2.strs _ _))))).mono ?_
   rintro e w2 ⟨rfl,hm⟩
   have seg:Mk lo hi w1 w2:=Mk.trans ((Mk.refl lo hi w1).setCell hlo ji c0 (Kind2.strs _ _)) hm
   have R2:=hide ((uh R1).trans seg)
   have hh2:hi<=w2.heap.size:=Nat.le_trans hh1 seg.size
   clear hm seg
   clear c0 f0 c1 f1
   clear G1 G2 G3 G4 G5 G6
   clear hlo ji
   obtain⟨hlo,ji,cs,hcs,hc,⟨s0,v1,v2,v3,v4,v5,v6,rfl,g1,g2,g3,g4,g5,g6⟩⟩:=(uh Ig).stays Dt (uh R2)
   have c2:=(hc 2 (by simp)).1
   have f2:=(hc 2 (by simp)).2
   simp only[Nat.mul_one,Nat.add_zero,List.getElem_cons_zero,List.getElem_cons_succ] at c2 f2
   obtain⟨sa1,sc1,rfl⟩:=g1.shape
   have G1:=hide g1
   clear g1
   obtain⟨sa2,N9,rfl⟩:=g2.shape
   have G2:=hide g2
   clear g2
   obtain⟨Uf,Vj,rfl⟩:=g3.shape
   have G3:=hide g3
   clear g3
   obtain⟨Vk,Vl,rfl⟩:=g4.shape
   have G4:=hide g4
   clear g4
   obtain⟨Vm,Vo,rfl⟩:=g5.shape
   have G5:=hide g5
   clear g5
   obtain⟨sa6,sc6,rfl⟩:=g6.shape
   have G6:=hide g6
   clear g6
   clear hc hcs
   obtain⟨r3,hr3⟩:∃r,r2+0+qo Iu x.outs (x.outs).length=r:=⟨_,rfl⟩
   have Xk:r3<=1000000000:=by have:=uh HR2;omega
   have HR3:=hide hr3
   clear hr3
   go_wp2_with fail
   refine(ab4 _ _ _ (r2+0) r3 lo hi _ (by omega) (uh HR3) Xk ((uh G2).stays Jw (Mk.refl lo hi w2)) (Nat.le_trans hh2 (Mk.size (Mk.refl lo hi w2)))).mono ?_
   rintro e w3 ⟨rfl,hm⟩
   have seg:Mk lo hi w2 w3:=Mk.trans (Mk.refl lo hi w2) hm
   have R3:=hide ((uh R2).trans seg)
   have hh3:hi<=w3.heap.size:=Nat.le_trans hh2 seg.size
   clear hm seg
   clear c2 f2
   clear G1 G2 G3 G4 G5 G6
   clear hlo ji
   obtain⟨hlo,ji,cs,hcs,hc,⟨s0,v1,v2,v3,v4,v5,v6,rfl,g1,g2,g3,g4,g5,g6⟩⟩:=(uh Ig).stays Dt (uh R3)
   have c3:=(hc 3 (by simp)).1
   have f3:=(hc 3 (by simp)).2
   simp only[Nat.mul_one,Nat.add_zero,List.getElem_cons_zero,List.getElem_cons_succ] at c3 f3
   obtain⟨sa1,sc1,rfl⟩:=g1.shape
   have G1:=hide g1
   clear g1
   obtain⟨sa2,N9,rfl⟩:=g2.shape
   have G2:=hide g2
   clear g2
   obtain⟨Uf,Vj,rfl⟩:=g3.shape
   have G3:=hide g3
   clear g3
   obtain⟨Vk,Vl,rfl⟩:=g4.shape
   have G4:=hide g4
   clear g4
   obtain⟨Vm,Vo,rfl⟩:=g5.shape
   have G5:=hide g5
   clear g5
   obtain⟨sa6,sc6,rfl⟩:=g6.shape
   have G6:=hide g6
   clear g6
   clear hc hcs
   obtain⟨r4,hr4⟩:∃r,r3+0+qo mStr x.ay (x.ay).length=r:=⟨_,rfl⟩
   have Xl:r4<=1000000000:=by have:=uh HR2;have:=uh HR3;omega
   have HR4:=hide hr4
   clear hr4
   go_wp2_with fail
   refine(Zi _ _ _ (r3+0) r4 lo hi _ (by omega) (uh HR4) Xl ((uh G3).stays Lm (Mk.refl lo hi w3)) (Nat.le_trans hh3 (Mk.size (Mk.refl lo hi w3)))).mono ?_
   rintro e w4 ⟨rfl,hm⟩
   have seg:Mk lo hi w3 w4:=Mk.trans (Mk.refl lo hi w3) hm
   have R4:=hide ((uh R3).trans seg)
   have hh4:hi<=w4.heap.size:=Nat.le_trans hh3 seg.size
   clear hm seg
   clear c3 f3
   clear G1 G2 G3 G4 G5 G6
   clear hlo ji
   obtain⟨hlo,ji,cs,hcs,hc,⟨s0,v1,v2,v3,v4,v5,v6,rfl,g1,g2,g3,g4,g5,g6⟩⟩:=(uh Ig).stays Dt (uh R4)
   have c4:=(hc 4 (by simp)).1
   have f4:=(hc 4 (by simp)).2
   simp only[Nat.mul_one,Nat.add_zero,List.getElem_cons_zero,List.getElem_cons_succ] at c4 f4
   obtain⟨sa1,sc1,rfl⟩:=g1.shape
   have G1:=hide g1
   clear g1
   obtain⟨sa2,N9,rfl⟩:=g2.shape
   have G2:=hide g2
   clear g2
   obtain⟨Uf,Vj,rfl⟩:=g3.shape
   have G3:=hide g3
   clear g3
   obtain⟨Vk,Vl,rfl⟩:=g4.shape
   have G4:=hide g4
   clear g4
   obtain⟨Vm,Vo,rfl⟩:=g5.shape
   have G5:=hide g5
   clear g5
   obtain⟨sa6,sc6,rfl⟩:=g6.shape
   have G6:=hide g6
   clear g6
   clear hc hcs
   obtain⟨r5,N8⟩:∃r,r4+0+qo Lp x.aj (x.aj).length=r:=⟨_,rfl⟩
   have akc:r5<=1000000000:=by have:=uh HR2;have:=uh HR3;have:=uh HR4;omega
   have Dz:=hide N8
   clear N8
   go_wp2_with fail
   refine(ac8 _ _ _ (r4+0) r5 lo hi _ (by omega) (uh Dz) akc ((uh G4).stays Pv (Mk.refl lo hi w4)) (Nat.le_trans hh4 (Mk.size (Mk.refl lo hi w4)))).mono ?_
   rintro e w5 ⟨rfl,hm⟩
   have seg:Mk lo hi w4 w5:=Mk.trans (Mk.refl lo hi w4) hm
   have R5:=hide ((uh R4).trans seg)
   have hh5:hi<=w5.heap.size:=Nat.le_trans hh4 seg.size
   clear hm seg
   clear c4 f4
   clear G1 G2 G3 G4 G5 G6
   clear hlo ji
   obtain⟨hlo,ji,cs,hcs,hc,⟨s0,v1,v2,v3,v4,v5,v6,rfl,g1,g2,g3,g4,g5,g6⟩⟩:=(uh Ig).stays Dt (uh R5)
   have c5:=(hc 5 (by simp)).1
   have f5:=(hc 5 (by simp)).2
   simp only[Nat.mul_one,Nat.add_zero,List.getElem_cons_zero,List.getElem_cons_succ] at c5 f5
   obtain⟨sa1,sc1,rfl⟩:=g1.shape
   have G1:=hide g1
   clear g1
   obtain⟨sa2,N9,rfl⟩:=g2.shape
   have G2:=hide g2
   clear g2
   obtain⟨Uf,Vj,rfl⟩:=g3.shape
   have G3:=hide g3
   clear g3
   obtain⟨Vk,Vl,rfl⟩:=g4.shape
   have G4:=hide g4
   clear g4
   obtain⟨Vm,Vo,rfl⟩:=g5.shape
   have G5:=hide g5
   clear g5
   obtain⟨sa6,sc6,rfl⟩:=g6.shape
   have G6:=hide g6
   clear g6
   clear hc hcs
   obtain⟨r6,hr6⟩:∃r,r5+0+qo Lp x.insts (x.insts).length=r:=⟨_,rfl⟩
   have akd:r6<=1000000000:=by have:=uh HR2;have:=uh HR3;have:=uh HR4;have:=uh Dz;omega
   have Um:=hide hr6
   clear hr6
   go_wp2_with fail
   refine(ac8 _ _ _ (r5+0) r6 lo hi _ (by omega) (uh Um) akd ((uh G5).stays Pv (Mk.refl lo hi w5)) (Nat.le_trans hh5 (Mk.size (Mk.refl lo hi w5)))).mono ?_
   rintro e w6 ⟨rfl,hm⟩
   have seg:Mk lo hi w5 w6:=Mk.trans (Mk.refl lo hi w5) hm
   have R6:=hide ((uh R5).trans seg)
   have hh6:hi<=w6.heap.size:=Nat.le_trans hh5 seg.size
   clear hm seg
   clear c5 f5
   clear G1 G2 G3 G4 G5 G6
   clear hlo ji
   obtain⟨hlo,ji,cs,hcs,hc,⟨s0,v1,v2,v3,v4,v5,v6,rfl,g1,g2,g3,g4,g5,g6⟩⟩:=(uh Ig).stays Dt (uh R6)
   have c6:=(hc 6 (by simp)).1
   have f6:=(hc 6 (by simp)).2
   simp only[Nat.mul_one,Nat.add_zero,List.getElem_cons_zero,List.getElem_cons_succ] at c6 f6
   obtain⟨sa1,sc1,rfl⟩:=g1.shape
   have G1:=hide g1
   clear g1
   obtain⟨sa2,N9,rfl⟩:=g2.shape
   have G2:=hide g2
   clear g2
   obtain⟨Uf,Vj,rfl⟩:=g3.shape
   have G3:=hide g3
   clear g3
   obtain⟨Vk,Vl,rfl⟩:=g4.shape
   have G4:=hide g4
   clear g4
   obtain⟨Vm,Vo,rfl⟩:=g5.shape
   have G5:=hide g5
   clear g5
   obtain⟨sa6,sc6,rfl⟩:=g6.shape
   have G6:=hide g6
   clear g6
   clear hc hcs
   obtain⟨r7,Qr⟩:∃r,r6+0+qo O7 x.body (x.body).length=r:=⟨_,rfl⟩
   have ake:r7<=1000000000:=by have:=uh HR2;have:=uh HR3;have:=uh HR4;have:=uh Dz;have:=uh Um;omega
   have Ve:=hide Qr
   clear Qr
   go_wp2_with fail
   refine(alc _ _ _ (r6+0) r7 lo hi _ (by omega) (uh Ve) ake ((uh G6).stays Lr (Mk.refl lo hi w6)) (Nat.le_trans hh6 (Mk.size (Mk.refl lo hi w6)))).mono ?_
   rintro e w7 ⟨rfl,hm⟩
   have seg:Mk lo hi w6 w7:=Mk.trans (Mk.refl lo hi w6) hm
   have R7:=hide ((uh R6).trans seg)
   have hh7:hi<=w7.heap.size:=Nat.le_trans hh6 seg.size
   clear hm seg
   clear c6 f6
   clear G1 G2 G3 G4 G5 G6
   clear hlo ji
   go_wp2
   go_roundg (xs.length-(q+1))
   case measure=>have:=uh HG;omega
   case rel=>exact⟨q+1,r7+0,by omega,rfl,by go_num,by go_num,(by refine hide ?_;have:=uh HST;have:=uh HR2;have:=uh HR3;have:=uh HR4;have:=uh Dz;have:=uh Um;have:=uh Ve;omega),(by refine hide ?_;exact(uh qy).trans ((uh R7).trans (Mk.refl lo hi w7)))⟩
  ·have e:q=xs.length:=by omega
   have HE:Hid (kq=r):=by
    refine hide ?_
    rw[←uh qj,←uh HR,e]
   clear e
   go_wp2
   go_ret
   exact⟨(by rw[uh HE];rfl),uh qy⟩
set_option maxHeartbeats 1000000 in
theorem afu (ks:List ak) (v:Value) (lo hi:Nat) (w:World) (hv:Dy 7 aeg lo hi w v ks) (hhi:hi<=w.heap.size) (hb:qo Dh ks ks.length<=100000000) :
  Calls Tryz.prog 9 #[.agg #[v],.int .i64 1] w (fun e w'=>∃r:Nat,e=.returned (.int .i64 (r:Int))∧Mk lo hi w w'):=by
 obtain⟨a,cap,rfl⟩:=hv.shape
 have hA:Below w.heap.size w (w.alloc (.cells #[.slice a ks.length cap] 28)):=(Below.refl _ _).alloc (Nat.le_refl _) _
 have hM:Mk lo hi w (w.alloc (.cells #[.slice a ks.length cap] 28)):=Mk.of_below hA hhi
 have HC:=hide (ahs ks _ 1 1 _ lo hi _ rfl rfl (by omega) (hv.stays Dt hM) (Nat.le_trans hhi hM.size))
 have HM:=hide hM
 clear hv hhi hb hA hM
 generalize 1+qo Dh ks ks.length=r at *
 go_enter Tryz.func9,Tryz.ntmps9
 go_wp2_with fail
 refine(uh HC).mono ?_
 rintro e w1 ⟨rfl,hm⟩
 have H1:=hide ((uh HM).trans hm)
 clear hm
 go_wp2
 go_ret
 exact⟨r,rfl,uh H1⟩
end Go.Proofs.YtlcgnbcgmljpaaaGreat
