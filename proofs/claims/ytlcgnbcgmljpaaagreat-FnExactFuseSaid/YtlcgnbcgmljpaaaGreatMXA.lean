import Derived.Test.YtlcgnbcgmljpaaaGreatMX
namespace Go.Proofs.YtlcgnbcgmljpaaaGreat
open Go.RowKit
set_option linter.unusedSimpArgs false
set_option linter.unusedVariables false
set_option maxHeartbeats 2000000 in
theorem aau (xs:List ByteArray) (v:Value) (l:Lf) (K:Int) (k r lo hi:Nat) (w:World) (hK:K=(k:Int)) (hr:k+l.length=r) (hrb:r<=1000000000) (hv:Dk 1 Z7 lo hi w v xs l) (hhi:hi<=w.heap.size) :
  Calls Tryz.prog 35 #[v,.int .i64 K] w (Uk lo hi k r l w):=by
 subst hK
 obtain⟨a,cap,lss,rfl,hn,hls,hfl,hx⟩:=hv
 unfold Len at hn
 have HX:=hide hx
 have Ap:=hide hfl
 have Cb:=hide hls
 have yt:=hide hhi
 have HR:=hide hr
 have qm:=hide hrb
 clear hx hhi hr hrb hfl hls
 go_enter Tryz.func35,Tryz.ntmps35
 go_wp2
 go_loopg [1,5] xs.length (fun g kk i wr=>∃(q kq:Nat),q<=xs.length∧g=xs.length-q∧i=.int .i64 q∧kk=.int .i64 (kq:Int)∧Hid (k+(lss.take q).flatten.length=kq)∧Hid (X lo hi (Bl k (lss.take q).flatten) w wr))
 case atStart=>exact⟨0,k,Nat.zero_le _,by omega,rfl,rfl,by simp[Hid],X.refl _ _ _⟩
 case round =>
  obtain⟨q,kq,hq,hg,rfl,rfl,qj,qy⟩:=hrel
  have HG:=hide hg
  clear hg
  by_cases hlt:q<xs.length
  ·have hlq:q<lss.length:=by rw[uh Cb];exact hlt
   obtain⟨b,o,rfl,hel⟩:=uh HX q hlt hlq
   have hel:=hel.stays Ut (uh qy).md
   have hst:k+(lss.take (q+1)).flatten.length=kq+lss[q].length:=by
    rw[xw _ _ hlq,List.length_append,←uh qj]
    omega
   have Qc:Hid (Bl k (lss.take (q+1)).flatten=Bl k (lss.take q).flatten++Bl kq lss[q]):=by
    rw[xw _ _ hlq,Ar,uh qj]
    exact hide rfl
   have hkb:kq+lss[q].length<=1000000000:=by
    have h1:=F9 lss (q+1)
    have h2:=uh HR
    have h3:=uh qm
    rw[uh Ap] at h2
    omega
   generalize lss[q]=lq at hel hst hkb Qc
   generalize xs[q]=x at hel
   have hh0:hi<=wr.heap.size:=Nat.le_trans (uh yt) (uh qy).md.size
   obtain⟨hlo,ji,cs,hcs,hc,⟨s0,rfl⟩,hll⟩:=hel
   have C0:=hide (hc 0 (by simp)).1
   have Z0:=hide (hc 0 (by simp)).2
   simp only[Nat.mul_one,Nat.add_zero,List.getElem_cons_zero,List.getElem_cons_succ] at C0 Z0
   have hlen:lq.length=1:=by simp[hll]<;>omega
   rw[hlen] at hst hkb
   have HST:=hide hst
   have I9:=hide hll
   have R0:=hide (X.refl lo hi wr)
   clear hst hcs hc hll hlen
   go_wp2_with fail
   refine(Ac _ (kq+0) _ (by omega) (by omega)).mono ?_
   rintro e w1 ⟨rfl,hb⟩
   have seg:X lo hi _ wr w1:=X.then (X.refl lo hi wr) hb hh0
   have R1:=hide ((uh R0).trans seg)
   have hh1:hi<=w1.heap.size:=Nat.le_trans hh0 seg.md.size
   clear hb seg
   obtain⟨y0,c0⟩:=(uh R1).aj8 hlo ji (uh C0)
   have f0:=(uh R1).Ox hlo ji (uh Z0)
   go_wp2
   go_roundg (xs.length-(q+1))
   case measure=>have:=uh HG;omega
   case rel =>
    refine⟨q+1,kq+1,by omega,rfl,by go_num,by go_num,(by refine hide ?_;have:=uh HST;omega),?_⟩
    rw[uh Qc]
    refine hide ((uh qy).trans ?_)
    refine X.eq ((uh R1).trans ((X.refl lo hi w1).setCell hlo ji c0 (Kind2.strs _ _))) ?_
    rw[uh I9]
    simp only[Ar,Bl,mkV,List.append_assoc,List.nil_append,List.cons_append,List.length_append,List.length_cons,List.length_nil,Nat.add_zero,Nat.zero_add,Nat.mul_one,List.append_nil]
    try (simp<;>omega)
  ·have e:q=xs.length:=by omega
   have Dl:lss.length<=q:=by rw[uh Cb];omega
   have hfa:=D8 lss q Dl
   rw[hfa,←uh Ap] at qj qy
   have HE:Hid (kq=r):=by
    refine hide ?_
    rw[←uh qj,←uh HR]
   clear e Dl hfa
   go_wp2
   go_ret
   exact⟨(by rw[uh HE];rfl),uh qy⟩
set_option maxHeartbeats 2000000 in
theorem afc (xs:List Int) (v:Value) (l:Lf) (K:Int) (k r lo hi:Nat) (w:World) (hK:K=(k:Int)) (hr:k+l.length=r) (hrb:r<=1000000000) (hv:Dk 1 Z8 lo hi w v xs l) (hhi:hi<=w.heap.size) :
  Calls Tryz.prog 36 #[v,.int .i64 K] w (Uk lo hi k r l w):=by
 subst hK
 obtain⟨a,cap,lss,rfl,hn,hls,hfl,hx⟩:=hv
 unfold Len at hn
 have HX:=hide hx
 have Ap:=hide hfl
 have Cb:=hide hls
 have yt:=hide hhi
 have HR:=hide hr
 have qm:=hide hrb
 clear hx hhi hr hrb hfl hls
 go_enter Tryz.func36,Tryz.ntmps36
 go_wp2
 go_loopg [1,5] xs.length (fun g kk i wr=>∃(q kq:Nat),q<=xs.length∧g=xs.length-q∧i=.int .i64 q∧kk=.int .i64 (kq:Int)∧Hid (k+(lss.take q).flatten.length=kq)∧Hid (X lo hi (Bl k (lss.take q).flatten) w wr))
 case atStart=>exact⟨0,k,Nat.zero_le _,by omega,rfl,rfl,by simp[Hid],X.refl _ _ _⟩
 case round =>
  obtain⟨q,kq,hq,hg,rfl,rfl,qj,qy⟩:=hrel
  have HG:=hide hg
  clear hg
  by_cases hlt:q<xs.length
  ·have hlq:q<lss.length:=by rw[uh Cb];exact hlt
   obtain⟨b,o,rfl,hel⟩:=uh HX q hlt hlq
   have hel:=hel.stays Uu (uh qy).md
   have hst:k+(lss.take (q+1)).flatten.length=kq+lss[q].length:=by
    rw[xw _ _ hlq,List.length_append,←uh qj]
    omega
   have Qc:Hid (Bl k (lss.take (q+1)).flatten=Bl k (lss.take q).flatten++Bl kq lss[q]):=by
    rw[xw _ _ hlq,Ar,uh qj]
    exact hide rfl
   have hkb:kq+lss[q].length<=1000000000:=by
    have h1:=F9 lss (q+1)
    have h2:=uh HR
    have h3:=uh qm
    rw[uh Ap] at h2
    omega
   generalize lss[q]=lq at hel hst hkb Qc
   generalize xs[q]=x at hel
   have hh0:hi<=wr.heap.size:=Nat.le_trans (uh yt) (uh qy).md.size
   obtain⟨hlo,ji,cs,hcs,hc,⟨s0,rfl⟩,hll⟩:=hel
   have C0:=hide (hc 0 (by simp)).1
   have Z0:=hide (hc 0 (by simp)).2
   simp only[Nat.mul_one,Nat.add_zero,List.getElem_cons_zero,List.getElem_cons_succ] at C0 Z0
   have hlen:lq.length=1:=by simp[hll]<;>omega
   rw[hlen] at hst hkb
   have HST:=hide hst
   have I9:=hide hll
   have R0:=hide (X.refl lo hi wr)
   clear hst hcs hc hll hlen
   obtain⟨y0,c0⟩:=(uh R0).af8 hlo ji (uh C0)
   have f0:=(uh R0).Ox hlo ji (uh Z0)
   go_wp2
   go_roundg (xs.length-(q+1))
   case measure=>have:=uh HG;omega
   case rel =>
    refine⟨q+1,kq+1,by omega,rfl,by go_num,by go_num,(by refine hide ?_;have:=uh HST;omega),?_⟩
    rw[uh Qc]
    refine hide ((uh qy).trans ?_)
    refine X.eq ((uh R0).trans ((X.refl lo hi wr).setCell hlo ji c0 (Kind2.ints _ _))) ?_
    rw[uh I9]
    simp only[Ar,Bl,mkV,List.append_assoc,List.nil_append,List.cons_append,List.length_append,List.length_cons,List.length_nil,Nat.add_zero,Nat.zero_add,Nat.mul_one,List.append_nil]
    try (simp<;>omega)
  ·have e:q=xs.length:=by omega
   have Dl:lss.length<=q:=by rw[uh Cb];omega
   have hfa:=D8 lss q Dl
   rw[hfa,←uh Ap] at qj qy
   have HE:Hid (kq=r):=by
    refine hide ?_
    rw[←uh qj,←uh HR]
   clear e Dl hfa
   go_wp2
   go_ret
   exact⟨(by rw[uh HE];rfl),uh qy⟩
set_option maxHeartbeats 2000000 in
theorem ac4 (xs:List iw) (v:Value) (l:Lf) (K:Int) (k r lo hi:Nat) (w:World) (hK:K=(k:Int)) (hr:k+l.length=r) (hrb:r<=1000000000) (hv:Dk 3 Vr lo hi w v xs l) (hhi:hi<=w.heap.size) :
  Calls Tryz.prog 66 #[v,.int .i64 K] w (Uk lo hi k r l w):=by
 subst hK
 obtain⟨a,cap,lss,rfl,hn,hls,hfl,hx⟩:=hv
 unfold Len at hn
 have HX:=hide hx
 have Ap:=hide hfl
 have Cb:=hide hls
 have yt:=hide hhi
 have HR:=hide hr
 have qm:=hide hrb
 clear hx hhi hr hrb hfl hls
 go_enter Tryz.func66,Tryz.ntmps66
 go_wp2
 go_loopg [1,5] xs.length (fun g kk i wr=>∃(q kq:Nat),q<=xs.length∧g=xs.length-q∧i=.int .i64 q∧kk=.int .i64 (kq:Int)∧Hid (k+(lss.take q).flatten.length=kq)∧Hid (X lo hi (Bl k (lss.take q).flatten) w wr))
 case atStart=>exact⟨0,k,Nat.zero_le _,by omega,rfl,rfl,by simp[Hid],X.refl _ _ _⟩
 case round =>
  obtain⟨q,kq,hq,hg,rfl,rfl,qj,qy⟩:=hrel
  have HG:=hide hg
  clear hg
  by_cases hlt:q<xs.length
  ·have hlq:q<lss.length:=by rw[uh Cb];exact hlt
   obtain⟨b,o,rfl,hel⟩:=uh HX q hlt hlq
   have hel:=hel.stays Rf (uh qy).md
   have hst:k+(lss.take (q+1)).flatten.length=kq+lss[q].length:=by
    rw[xw _ _ hlq,List.length_append,←uh qj]
    omega
   have Qc:Hid (Bl k (lss.take (q+1)).flatten=Bl k (lss.take q).flatten++Bl kq lss[q]):=by
    rw[xw _ _ hlq,Ar,uh qj]
    exact hide rfl
   have hkb:kq+lss[q].length<=1000000000:=by
    have h1:=F9 lss (q+1)
    have h2:=uh HR
    have h3:=uh qm
    rw[uh Ap] at h2
    omega
   generalize lss[q]=lq at hel hst hkb Qc
   generalize xs[q]=x at hel
   have hh0:hi<=wr.heap.size:=Nat.le_trans (uh yt) (uh qy).md.size
   obtain⟨hlo,ji,cs,hcs,hc,⟨s0,s1,s2,rfl⟩,hll⟩:=hel
   have C0:=hide (hc 0 (by simp)).1
   have Z0:=hide (hc 0 (by simp)).2
   have C1:=hide (hc 1 (by simp)).1
   have Z1:=hide (hc 1 (by simp)).2
   have C2:=hide (hc 2 (by simp)).1
   have Z2:=hide (hc 2 (by simp)).2
   simp only[Nat.mul_one,Nat.add_zero,List.getElem_cons_zero,List.getElem_cons_succ] at C0 Z0
   simp only[Nat.mul_one,Nat.add_zero,List.getElem_cons_zero,List.getElem_cons_succ] at C1 Z1
   simp only[Nat.mul_one,Nat.add_zero,List.getElem_cons_zero,List.getElem_cons_succ] at C2 Z2
   have hlen:lq.length=3:=by simp[hll]<;>omega
   rw[hlen] at hst hkb
   have HST:=hide hst
   have I9:=hide hll
   have R0:=hide (X.refl lo hi wr)
   clear hst hcs hc hll hlen
   obtain⟨y0,c0⟩:=(uh R0).af8 hlo ji (uh C0)
   have f0:=(uh R0).Ox hlo ji (uh Z0)
   obtain⟨y1,c1⟩:=(uh R0).af8 hlo ji (uh C1)
   have f1:=(uh R0).Ox hlo ji (uh Z1)
   go_wp2_with fail
   refine(Ac _ (kq+2) _ (by omega) (by omega)).mono ?_
   rintro e w1 ⟨rfl,hb⟩
   have seg:X lo hi _ wr w1:=X.then (((X.refl lo hi wr).setCell hlo ji c0 (Kind2.ints _ _)).setCell hlo ji (by rw[yw _ _ _ _ _ (Or.inr (by simp))];exact c1) (Kind2.ints _ _)) hb hh0
   have R1:=hide ((uh R0).trans seg)
   have hh1:hi<=w1.heap.size:=Nat.le_trans hh0 seg.md.size
   clear hb seg
   clear c0 f0 c1 f1
   obtain⟨y2,c2⟩:=(uh R1).aj8 hlo ji (uh C2)
   have f2:=(uh R1).Ox hlo ji (uh Z2)
   go_wp2
   go_roundg (xs.length-(q+1))
   case measure=>have:=uh HG;omega
   case rel =>
    refine⟨q+1,kq+3,by omega,rfl,by go_num,by go_num,(by refine hide ?_;have:=uh HST;omega),?_⟩
    rw[uh Qc]
    refine hide ((uh qy).trans ?_)
    refine X.eq ((uh R1).trans ((X.refl lo hi w1).setCell hlo ji c2 (Kind2.strs _ _))) ?_
    rw[uh I9]
    simp only[Ar,Bl,mkV,List.append_assoc,List.nil_append,List.cons_append,List.length_append,List.length_cons,List.length_nil,Nat.add_zero,Nat.zero_add,Nat.mul_one,List.append_nil]
    try (simp<;>omega)
  ·have e:q=xs.length:=by omega
   have Dl:lss.length<=q:=by rw[uh Cb];omega
   have hfa:=D8 lss q Dl
   rw[hfa,←uh Ap] at qj qy
   have HE:Hid (kq=r):=by
    refine hide ?_
    rw[←uh qj,←uh HR]
   clear e Dl hfa
   go_wp2
   go_ret
   exact⟨(by rw[uh HE];rfl),uh qy⟩
set_option maxHeartbeats 2000000 in
theorem aj9 (xs:List (List iw)) (v:Value) (l:Lf) (K:Int) (k r lo hi:Nat) (w:World) (hK:K=(k:Int)) (hr:k+l.length=r) (hrb:r<=1000000000) (hv:Dk 1 W9 lo hi w v xs l) (hhi:hi<=w.heap.size) :
  Calls Tryz.prog 67 #[v,.int .i64 K] w (Uk lo hi k r l w):=by
 subst hK
 obtain⟨a,cap,lss,rfl,hn,hls,hfl,hx⟩:=hv
 unfold Len at hn
 have HX:=hide hx
 have Ap:=hide hfl
 have Cb:=hide hls
 have yt:=hide hhi
 have HR:=hide hr
 have qm:=hide hrb
 clear hx hhi hr hrb hfl hls
 go_enter Tryz.func67,Tryz.ntmps67
 go_wp2
 go_loopg [1,5] xs.length (fun g kk i wr=>∃(q kq:Nat),q<=xs.length∧g=xs.length-q∧i=.int .i64 q∧kk=.int .i64 (kq:Int)∧Hid (k+(lss.take q).flatten.length=kq)∧Hid (X lo hi (Bl k (lss.take q).flatten) w wr))
 case atStart=>exact⟨0,k,Nat.zero_le _,by omega,rfl,rfl,by simp[Hid],X.refl _ _ _⟩
 case round =>
  obtain⟨q,kq,hq,hg,rfl,rfl,qj,qy⟩:=hrel
  have HG:=hide hg
  clear hg
  by_cases hlt:q<xs.length
  ·have hlq:q<lss.length:=by rw[uh Cb];exact hlt
   obtain⟨b,o,rfl,hel⟩:=uh HX q hlt hlq
   have hel:=hel.stays Yi (uh qy).md
   have hst:k+(lss.take (q+1)).flatten.length=kq+lss[q].length:=by
    rw[xw _ _ hlq,List.length_append,←uh qj]
    omega
   have Qc:Hid (Bl k (lss.take (q+1)).flatten=Bl k (lss.take q).flatten++Bl kq lss[q]):=by
    rw[xw _ _ hlq,Ar,uh qj]
    exact hide rfl
   have hkb:kq+lss[q].length<=1000000000:=by
    have h1:=F9 lss (q+1)
    have h2:=uh HR
    have h3:=uh qm
    rw[uh Ap] at h2
    omega
   generalize lss[q]=lq at hel hst hkb Qc
   generalize xs[q]=x at hel
   have hh0:hi<=wr.heap.size:=Nat.le_trans (uh yt) (uh qy).md.size
   obtain⟨hlo,ji,cs,hcs,hc,v0,l0,rfl,g0,hll⟩:=hel
   have C0:=hide (hc 0 (by simp)).1
   have Z0:=hide (hc 0 (by simp)).2
   simp only[Nat.mul_one,Nat.add_zero,List.getElem_cons_zero,List.getElem_cons_succ] at C0 Z0
   obtain⟨sa0,sc0,rfl⟩:=g0.shape
   have G0:=hide g0
   have hlen:lq.length=l0.length:=by simp[hll]<;>omega
   rw[hlen] at hst hkb
   have HST:=hide hst
   have I9:=hide hll
   have R0:=hide (X.refl lo hi wr)
   clear hst hcs hc hll hlen g0
   have c0:=(uh R0).csl hlo ji (uh C0)
   have f0:=(uh R0).Ox hlo ji (uh Z0)
   obtain⟨r1,hr1⟩:∃r,kq+0+l0.length=r:=⟨_,rfl⟩
   have akb:r1<=1000000000:=by omega
   have HR1:=hide hr1
   clear hr1
   go_wp2_with fail
   refine(ac4 _ _ _ _ (kq+0) r1 lo hi _ (by omega) (uh HR1) akb ((uh G0).stays Rf ((uh R0).trans (X.refl lo hi wr)).md) (Nat.le_trans hh0 (X.refl lo hi wr).md.size)).mono ?_
   rintro e w1 ⟨rfl,hm⟩
   have seg:X lo hi _ wr w1:=X.trans (X.refl lo hi wr) hm
   have R1:=hide ((uh R0).trans seg)
   have hh1:hi<=w1.heap.size:=Nat.le_trans hh0 seg.md.size
   clear hm seg
   clear c0 f0
   go_wp2
   go_roundg (xs.length-(q+1))
   case measure=>have:=uh HG;omega
   case rel =>
    refine⟨q+1,r1+0,by omega,rfl,by go_num,by go_num,(by refine hide ?_;have:=uh HST;have:=uh HR1;omega),?_⟩
    rw[uh Qc]
    refine hide ((uh qy).trans ?_)
    refine X.eq ((uh R1).trans (X.refl lo hi w1)) ?_
    have e1:=uh HR1
    rw[uh I9]
    simp only[Ar,Bl,mkV,List.append_assoc,List.nil_append,List.cons_append,List.length_append,List.length_cons,List.length_nil,Nat.add_zero,Nat.zero_add,Nat.mul_one,List.append_nil,←e1]
    try (simp[Nat.add_assoc,Nat.add_comm,Nat.add_left_comm]<;>omega)
  ·have e:q=xs.length:=by omega
   have Dl:lss.length<=q:=by rw[uh Cb];omega
   have hfa:=D8 lss q Dl
   rw[hfa,←uh Ap] at qj qy
   have HE:Hid (kq=r):=by
    refine hide ?_
    rw[←uh qj,←uh HR]
   clear e Dl hfa
   go_wp2
   go_ret
   exact⟨(by rw[uh HE];rfl),uh qy⟩
set_option maxHeartbeats 2000000 in
theorem ac5 (xs:List gy) (v:Value) (l:Lf) (K:Int) (k r lo hi:Nat) (w:World) (hK:K=(k:Int)) (hr:k+l.length=r) (hrb:r<=1000000000) (hv:Dk 2 Vs lo hi w v xs l) (hhi:hi<=w.heap.size) :
  Calls Tryz.prog 34 #[v,.int .i64 K] w (Uk lo hi k r l w):=by
 subst hK
 obtain⟨a,cap,lss,rfl,hn,hls,hfl,hx⟩:=hv
 unfold Len at hn
 have HX:=hide hx
 have Ap:=hide hfl
 have Cb:=hide hls
 have yt:=hide hhi
 have HR:=hide hr
 have qm:=hide hrb
 clear hx hhi hr hrb hfl hls
 go_enter Tryz.func34,Tryz.ntmps34
 go_wp2
 go_loopg [1,5] xs.length (fun g kk i wr=>∃(q kq:Nat),q<=xs.length∧g=xs.length-q∧i=.int .i64 q∧kk=.int .i64 (kq:Int)∧Hid (k+(lss.take q).flatten.length=kq)∧Hid (X lo hi (Bl k (lss.take q).flatten) w wr))
 case atStart=>exact⟨0,k,Nat.zero_le _,by omega,rfl,rfl,by simp[Hid],X.refl _ _ _⟩
 case round =>
  obtain⟨q,kq,hq,hg,rfl,rfl,qj,qy⟩:=hrel
  have HG:=hide hg
  clear hg
  by_cases hlt:q<xs.length
  ·have hlq:q<lss.length:=by rw[uh Cb];exact hlt
   obtain⟨b,o,rfl,hel⟩:=uh HX q hlt hlq
   have hel:=hel.stays Rh (uh qy).md
   have hst:k+(lss.take (q+1)).flatten.length=kq+lss[q].length:=by
    rw[xw _ _ hlq,List.length_append,←uh qj]
    omega
   have Qc:Hid (Bl k (lss.take (q+1)).flatten=Bl k (lss.take q).flatten++Bl kq lss[q]):=by
    rw[xw _ _ hlq,Ar,uh qj]
    exact hide rfl
   have hkb:kq+lss[q].length<=1000000000:=by
    have h1:=F9 lss (q+1)
    have h2:=uh HR
    have h3:=uh qm
    rw[uh Ap] at h2
    omega
   generalize lss[q]=lq at hel hst hkb Qc
   generalize xs[q]=x at hel
   have hh0:hi<=wr.heap.size:=Nat.le_trans (uh yt) (uh qy).md.size
   obtain⟨hlo,ji,cs,hcs,hc,⟨s0,s1,rfl⟩,hll⟩:=hel
   have C0:=hide (hc 0 (by simp)).1
   have Z0:=hide (hc 0 (by simp)).2
   have C1:=hide (hc 1 (by simp)).1
   have Z1:=hide (hc 1 (by simp)).2
   simp only[Nat.mul_one,Nat.add_zero,List.getElem_cons_zero,List.getElem_cons_succ] at C0 Z0
   simp only[Nat.mul_one,Nat.add_zero,List.getElem_cons_zero,List.getElem_cons_succ] at C1 Z1
   have hlen:lq.length=2:=by simp[hll]<;>omega
   rw[hlen] at hst hkb
   have HST:=hide hst
   have I9:=hide hll
   have R0:=hide (X.refl lo hi wr)
   clear hst hcs hc hll hlen
   go_wp2_with fail
   refine(Ac _ (kq+0) _ (by omega) (by omega)).mono ?_
   rintro e w1 ⟨rfl,hb⟩
   have seg:X lo hi _ wr w1:=X.then (X.refl lo hi wr) hb hh0
   have R1:=hide ((uh R0).trans seg)
   have hh1:hi<=w1.heap.size:=Nat.le_trans hh0 seg.md.size
   clear hb seg
   obtain⟨y0,c0⟩:=(uh R1).aj8 hlo ji (uh C0)
   have f0:=(uh R1).Ox hlo ji (uh Z0)
   obtain⟨y1,c1⟩:=(uh R1).af8 hlo ji (uh C1)
   have f1:=(uh R1).Ox hlo ji (uh Z1)
   go_wp2
   go_roundg (xs.length-(q+1))
   case measure=>have:=uh HG;omega
   case rel =>
    refine⟨q+1,kq+2,by omega,rfl,by go_num,by go_num,(by refine hide ?_;have:=uh HST;omega),?_⟩
    rw[uh Qc]
    refine hide ((uh qy).trans ?_)
    refine X.eq ((uh R1).trans (((X.refl lo hi w1).setCell hlo ji c0 (Kind2.strs _ _)).setCell hlo ji (by rw[yw _ _ _ _ _ (Or.inr (by simp))];exact c1) (Kind2.ints _ _))) ?_
    rw[uh I9]
    simp only[Ar,Bl,mkV,List.append_assoc,List.nil_append,List.cons_append,List.length_append,List.length_cons,List.length_nil,Nat.add_zero,Nat.zero_add,Nat.mul_one,List.append_nil]
    try (simp<;>omega)
  ·have e:q=xs.length:=by omega
   have Dl:lss.length<=q:=by rw[uh Cb];omega
   have hfa:=D8 lss q Dl
   rw[hfa,←uh Ap] at qj qy
   have HE:Hid (kq=r):=by
    refine hide ?_
    rw[←uh qj,←uh HR]
   clear e Dl hfa
   go_wp2
   go_ret
   exact⟨(by rw[uh HE];rfl),uh qy⟩
set_option maxHeartbeats 2000000 in
theorem ao8 (xs:List dh) (v:Value) (l:Lf) (K:Int) (k r lo hi:Nat) (w:World) (hK:K=(k:Int)) (hr:k+l.length=r) (hrb:r<=1000000000) (hv:Dk 6 adh lo hi w v xs l) (hhi:hi<=w.heap.size) :
  Calls Tryz.prog 37 #[v,.int .i64 K] w (Uk lo hi k r l w):=by
 subst hK
 obtain⟨a,cap,lss,rfl,hn,hls,hfl,hx⟩:=hv
 unfold Len at hn
 have HX:=hide hx
 have Ap:=hide hfl
 have Cb:=hide hls
 have yt:=hide hhi
 have HR:=hide hr
 have qm:=hide hrb
 clear hx hhi hr hrb hfl hls
 go_enter Tryz.func37,Tryz.ntmps37
 go_wp2
 go_loopg [1,5] xs.length (fun g kk i wr=>∃(q kq:Nat),q<=xs.length∧g=xs.length-q∧i=.int .i64 q∧kk=.int .i64 (kq:Int)∧Hid (k+(lss.take q).flatten.length=kq)∧Hid (X lo hi (Bl k (lss.take q).flatten) w wr))
 case atStart=>exact⟨0,k,Nat.zero_le _,by omega,rfl,rfl,by simp[Hid],X.refl _ _ _⟩
 case round =>
  obtain⟨q,kq,hq,hg,rfl,rfl,qj,qy⟩:=hrel
  have HG:=hide hg
  clear hg
  by_cases hlt:q<xs.length
  ·have hlq:q<lss.length:=by rw[uh Cb];exact hlt
   obtain⟨b,o,rfl,hel⟩:=uh HX q hlt hlq
   have hel:=hel.stays ab2 (uh qy).md
   have hst:k+(lss.take (q+1)).flatten.length=kq+lss[q].length:=by
    rw[xw _ _ hlq,List.length_append,←uh qj]
    omega
   have Qc:Hid (Bl k (lss.take (q+1)).flatten=Bl k (lss.take q).flatten++Bl kq lss[q]):=by
    rw[xw _ _ hlq,Ar,uh qj]
    exact hide rfl
   have hkb:kq+lss[q].length<=1000000000:=by
    have h1:=F9 lss (q+1)
    have h2:=uh HR
    have h3:=uh qm
    rw[uh Ap] at h2
    omega
   generalize lss[q]=lq at hel hst hkb Qc
   generalize xs[q]=x at hel
   have hh0:hi<=wr.heap.size:=Nat.le_trans (uh yt) (uh qy).md.size
   obtain⟨hlo,ji,cs,hcs,hc,s0,s1,s2,v3,v4,v5,l3,l4,l5,rfl,g3,g4,g5,hll⟩:=hel
   have C0:=hide (hc 0 (by simp)).1
   have Z0:=hide (hc 0 (by simp)).2
   have C1:=hide (hc 1 (by simp)).1
   have Z1:=hide (hc 1 (by simp)).2
   have C2:=hide (hc 2 (by simp)).1
   have Z2:=hide (hc 2 (by simp)).2
   have C3:=hide (hc 3 (by simp)).1
   have Z3:=hide (hc 3 (by simp)).2
   have C4:=hide (hc 4 (by simp)).1
   have Z4:=hide (hc 4 (by simp)).2
   have C5:=hide (hc 5 (by simp)).1
   have Z5:=hide (hc 5 (by simp)).2
   simp only[Nat.mul_one,Nat.add_zero,List.getElem_cons_zero,List.getElem_cons_succ] at C0 Z0
   simp only[Nat.mul_one,Nat.add_zero,List.getElem_cons_zero,List.getElem_cons_succ] at C1 Z1
   simp only[Nat.mul_one,Nat.add_zero,List.getElem_cons_zero,List.getElem_cons_succ] at C2 Z2
   simp only[Nat.mul_one,Nat.add_zero,List.getElem_cons_zero,List.getElem_cons_succ] at C3 Z3
   simp only[Nat.mul_one,Nat.add_zero,List.getElem_cons_zero,List.getElem_cons_succ] at C4 Z4
   simp only[Nat.mul_one,Nat.add_zero,List.getElem_cons_zero,List.getElem_cons_succ] at C5 Z5
   obtain⟨Uf,Vj,rfl⟩:=g3.shape
   have G3:=hide g3
   obtain⟨Vk,Vl,rfl⟩:=g4.shape
   have G4:=hide g4
   obtain⟨Vm,Vo,rfl⟩:=g5.shape
   have G5:=hide g5
   have hlen:lq.length=3+l3.length+l4.length+l5.length:=by simp[hll]<;>omega
   rw[hlen] at hst hkb
   have HST:=hide hst
   have I9:=hide hll
   have R0:=hide (X.refl lo hi wr)
   clear hst hcs hc hll hlen g3 g4 g5
   obtain⟨y0,c0⟩:=(uh R0).af8 hlo ji (uh C0)
   have f0:=(uh R0).Ox hlo ji (uh Z0)
   go_wp2_with fail
   refine(Ac _ (kq+1) _ (by omega) (by omega)).mono ?_
   rintro e w1 ⟨rfl,hb⟩
   have seg:X lo hi _ wr w1:=X.then ((X.refl lo hi wr).setCell hlo ji c0 (Kind2.ints _ _)) hb hh0
   have R1:=hide ((uh R0).trans seg)
   have hh1:hi<=w1.heap.size:=Nat.le_trans hh0 seg.md.size
   clear hb seg
   clear c0 f0
   obtain⟨y1,c1⟩:=(uh R1).aj8 hlo ji (uh C1)
   have f1:=(uh R1).Ox hlo ji (uh Z1)
   obtain⟨y2,c2⟩:=(uh R1).af8 hlo ji (uh C2)
   have f2:=(uh R1).Ox hlo ji (uh Z2)
   have c3:=(uh R1).csl hlo ji (uh C3)
   have f3:=(uh R1).Ox hlo ji (uh Z3)
   obtain⟨r2,hr2⟩:∃r,kq+3+l3.length=r:=⟨_,rfl⟩
   have Xj:r2<=1000000000:=by omega
   have HR2:=hide hr2
   clear hr2
   go_wp2_with fail
   refine(aau _ _ _ _ (kq+3) r2 lo hi _ (by omega) (uh HR2) Xj ((uh G3).stays Ut ((uh R1).trans (((X.refl lo hi w1).setCell hlo ji c1 (Kind2.strs _ _)).setCell hlo ji (by rw[yw _ _ _ _ _ (Or.inr (by simp))];exact c2) (Kind2.ints _ _))).md) (Nat.le_trans hh1 (((X.refl lo hi w1).setCell hlo ji c1 (Kind2.strs _ _)).setCell hlo ji (by rw[yw _ _ _ _ _ (Or.inr (by simp))];exact c2) (Kind2.ints _ _)).md.size)).mono ?_
   rintro e w2 ⟨rfl,hm⟩
   have seg:X lo hi _ w1 w2:=X.trans (((X.refl lo hi w1).setCell hlo ji c1 (Kind2.strs _ _)).setCell hlo ji (by rw[yw _ _ _ _ _ (Or.inr (by simp))];exact c2) (Kind2.ints _ _)) hm
   have R2:=hide ((uh R1).trans seg)
   have hh2:hi<=w2.heap.size:=Nat.le_trans hh1 seg.md.size
   clear hm seg
   clear c1 f1 c2 f2 c3 f3
   have c4:=(uh R2).csl hlo ji (uh C4)
   have f4:=(uh R2).Ox hlo ji (uh Z4)
   obtain⟨r3,hr3⟩:∃r,r2+0+l4.length=r:=⟨_,rfl⟩
   have Xk:r3<=1000000000:=by have:=uh HR2;omega
   have HR3:=hide hr3
   clear hr3
   go_wp2_with fail
   refine(ac4 _ _ _ _ (r2+0) r3 lo hi _ (by omega) (uh HR3) Xk ((uh G4).stays Rf ((uh R2).trans (X.refl lo hi w2)).md) (Nat.le_trans hh2 (X.refl lo hi w2).md.size)).mono ?_
   rintro e w3 ⟨rfl,hm⟩
   have seg:X lo hi _ w2 w3:=X.trans (X.refl lo hi w2) hm
   have R3:=hide ((uh R2).trans seg)
   have hh3:hi<=w3.heap.size:=Nat.le_trans hh2 seg.md.size
   clear hm seg
   clear c4 f4
   have c5:=(uh R3).csl hlo ji (uh C5)
   have f5:=(uh R3).Ox hlo ji (uh Z5)
   obtain⟨r4,hr4⟩:∃r,r3+0+l5.length=r:=⟨_,rfl⟩
   have Xl:r4<=1000000000:=by have:=uh HR2;have:=uh HR3;omega
   have HR4:=hide hr4
   clear hr4
   go_wp2_with fail
   refine(aj9 _ _ _ _ (r3+0) r4 lo hi _ (by omega) (uh HR4) Xl ((uh G5).stays Yi ((uh R3).trans (X.refl lo hi w3)).md) (Nat.le_trans hh3 (X.refl lo hi w3).md.size)).mono ?_
   rintro e w4 ⟨rfl,hm⟩
   have seg:X lo hi _ w3 w4:=X.trans (X.refl lo hi w3) hm
   have R4:=hide ((uh R3).trans seg)
   have hh4:hi<=w4.heap.size:=Nat.le_trans hh3 seg.md.size
   clear hm seg
   clear c5 f5
   go_wp2
   go_roundg (xs.length-(q+1))
   case measure=>have:=uh HG;omega
   case rel =>
    refine⟨q+1,r4+0,by omega,rfl,by go_num,by go_num,(by refine hide ?_;have:=uh HST;have:=uh HR2;have:=uh HR3;have:=uh HR4;omega),?_⟩
    rw[uh Qc]
    refine hide ((uh qy).trans ?_)
    refine X.eq ((uh R4).trans (X.refl lo hi w4)) ?_
    have e2:=uh HR2
    have e3:=uh HR3
    have e4:=uh HR4
    rw[uh I9]
    simp only[Ar,Bl,mkV,List.append_assoc,List.nil_append,List.cons_append,List.length_append,List.length_cons,List.length_nil,Nat.add_zero,Nat.zero_add,Nat.mul_one,List.append_nil,←e2,←e3,←e4]
    try (simp[Nat.add_assoc,Nat.add_comm,Nat.add_left_comm]<;>omega)
  ·have e:q=xs.length:=by omega
   have Dl:lss.length<=q:=by rw[uh Cb];omega
   have hfa:=D8 lss q Dl
   rw[hfa,←uh Ap] at qj qy
   have HE:Hid (kq=r):=by
    refine hide ?_
    rw[←uh qj,←uh HR]
   clear e Dl hfa
   go_wp2
   go_ret
   exact⟨(by rw[uh HE];rfl),uh qy⟩
set_option maxHeartbeats 2000000 in
theorem ai5 (xs:List ak) (v:Value) (l:Lf) (K:Int) (k r lo hi:Nat) (w:World) (hK:K=(k:Int)) (hr:k+l.length=r) (hrb:r<=1000000000) (hv:Dk 7 Uj lo hi w v xs l) (hhi:hi<=w.heap.size) :
  Calls Tryz.prog 20 #[v,.int .i64 K] w (Uk lo hi k r l w):=by
 subst hK
 obtain⟨a,cap,lss,rfl,hn,hls,hfl,hx⟩:=hv
 unfold Len at hn
 have HX:=hide hx
 have Ap:=hide hfl
 have Cb:=hide hls
 have yt:=hide hhi
 have HR:=hide hr
 have qm:=hide hrb
 clear hx hhi hr hrb hfl hls
 go_enter Tryz.func20,Tryz.ntmps20
 go_wp2
 go_loopg [1,5] xs.length (fun g kk i wr=>∃(q kq:Nat),q<=xs.length∧g=xs.length-q∧i=.int .i64 q∧kk=.int .i64 (kq:Int)∧Hid (k+(lss.take q).flatten.length=kq)∧Hid (X lo hi (Bl k (lss.take q).flatten) w wr))
 case atStart=>exact⟨0,k,Nat.zero_le _,by omega,rfl,rfl,by simp[Hid],X.refl _ _ _⟩
 case round =>
  obtain⟨q,kq,hq,hg,rfl,rfl,qj,qy⟩:=hrel
  have HG:=hide hg
  clear hg
  by_cases hlt:q<xs.length
  ·have hlq:q<lss.length:=by rw[uh Cb];exact hlt
   obtain⟨b,o,rfl,hel⟩:=uh HX q hlt hlq
   have hel:=hel.stays Yd (uh qy).md
   have hst:k+(lss.take (q+1)).flatten.length=kq+lss[q].length:=by
    rw[xw _ _ hlq,List.length_append,←uh qj]
    omega
   have Qc:Hid (Bl k (lss.take (q+1)).flatten=Bl k (lss.take q).flatten++Bl kq lss[q]):=by
    rw[xw _ _ hlq,Ar,uh qj]
    exact hide rfl
   have hkb:kq+lss[q].length<=1000000000:=by
    have h1:=F9 lss (q+1)
    have h2:=uh HR
    have h3:=uh qm
    rw[uh Ap] at h2
    omega
   generalize lss[q]=lq at hel hst hkb Qc
   generalize xs[q]=x at hel
   have hh0:hi<=wr.heap.size:=Nat.le_trans (uh yt) (uh qy).md.size
   obtain⟨hlo,ji,cs,hcs,hc,s0,v1,v2,v3,v4,v5,v6,l1,l2,l3,l4,l5,l6,rfl,g1,g2,g3,g4,g5,g6,hll⟩:=hel
   have C0:=hide (hc 0 (by simp)).1
   have Z0:=hide (hc 0 (by simp)).2
   have C1:=hide (hc 1 (by simp)).1
   have Z1:=hide (hc 1 (by simp)).2
   have C2:=hide (hc 2 (by simp)).1
   have Z2:=hide (hc 2 (by simp)).2
   have C3:=hide (hc 3 (by simp)).1
   have Z3:=hide (hc 3 (by simp)).2
   have C4:=hide (hc 4 (by simp)).1
   have Z4:=hide (hc 4 (by simp)).2
   have C5:=hide (hc 5 (by simp)).1
   have Z5:=hide (hc 5 (by simp)).2
   have C6:=hide (hc 6 (by simp)).1
   have Z6:=hide (hc 6 (by simp)).2
   simp only[Nat.mul_one,Nat.add_zero,List.getElem_cons_zero,List.getElem_cons_succ] at C0 Z0
   simp only[Nat.mul_one,Nat.add_zero,List.getElem_cons_zero,List.getElem_cons_succ] at C1 Z1
   simp only[Nat.mul_one,Nat.add_zero,List.getElem_cons_zero,List.getElem_cons_succ] at C2 Z2
   simp only[Nat.mul_one,Nat.add_zero,List.getElem_cons_zero,List.getElem_cons_succ] at C3 Z3
   simp only[Nat.mul_one,Nat.add_zero,List.getElem_cons_zero,List.getElem_cons_succ] at C4 Z4
   simp only[Nat.mul_one,Nat.add_zero,List.getElem_cons_zero,List.getElem_cons_succ] at C5 Z5
   simp only[Nat.mul_one,Nat.add_zero,List.getElem_cons_zero,List.getElem_cons_succ] at C6 Z6
   obtain⟨sa1,sc1,rfl⟩:=g1.shape
   have G1:=hide g1
   obtain⟨sa2,N9,rfl⟩:=g2.shape
   have G2:=hide g2
   obtain⟨Uf,Vj,rfl⟩:=g3.shape
   have G3:=hide g3
   obtain⟨Vk,Vl,rfl⟩:=g4.shape
   have G4:=hide g4
   obtain⟨Vm,Vo,rfl⟩:=g5.shape
   have G5:=hide g5
   obtain⟨sa6,sc6,rfl⟩:=g6.shape
   have G6:=hide g6
   have hlen:lq.length=1+l1.length+l2.length+l3.length+l4.length+l5.length+l6.length:=by simp[hll]<;>omega
   rw[hlen] at hst hkb
   have HST:=hide hst
   have I9:=hide hll
   have R0:=hide (X.refl lo hi wr)
   clear hst hcs hc hll hlen g1 g2 g3 g4 g5 g6
   go_wp2_with fail
   refine(Ac _ (kq+0) _ (by omega) (by omega)).mono ?_
   rintro e w1 ⟨rfl,hb⟩
   have seg:X lo hi _ wr w1:=X.then (X.refl lo hi wr) hb hh0
   have R1:=hide ((uh R0).trans seg)
   have hh1:hi<=w1.heap.size:=Nat.le_trans hh0 seg.md.size
   clear hb seg
   obtain⟨y0,c0⟩:=(uh R1).aj8 hlo ji (uh C0)
   have f0:=(uh R1).Ox hlo ji (uh Z0)
   have c1:=(uh R1).csl hlo ji (uh C1)
   have f1:=(uh R1).Ox hlo ji (uh Z1)
   obtain⟨r2,hr2⟩:∃r,kq+1+l1.length=r:=⟨_,rfl⟩
   have Xj:r2<=1000000000:=by omega
   have HR2:=hide hr2
   clear hr2
   go_wp2_with fail
   refine(ac5 _ _ _ _ (kq+1) r2 lo hi _ (by omega) (uh HR2) Xj ((uh G1).stays Rh ((uh R1).trans ((X.refl lo hi w1).setCell hlo ji c0 (Kind2.strs _ _))).md) (Nat.le_trans hh1 ((X.refl lo hi w1).setCell hlo ji c0 (Kind2.strs _ _)).md.size)).mono ?_
   rintro e w2 ⟨rfl,hm⟩
   have seg:X lo hi _ w1 w2:=X.trans ((X.refl lo hi w1).setCell hlo ji c0 (Kind2.strs _ _)) hm
   have R2:=hide ((uh R1).trans seg)
   have hh2:hi<=w2.heap.size:=Nat.le_trans hh1 seg.md.size
   clear hm seg
   clear c0 f0 c1 f1
   have c2:=(uh R2).csl hlo ji (uh C2)
   have f2:=(uh R2).Ox hlo ji (uh Z2)
   obtain⟨r3,hr3⟩:∃r,r2+0+l2.length=r:=⟨_,rfl⟩
   have Xk:r3<=1000000000:=by have:=uh HR2;omega
   have HR3:=hide hr3
   clear hr3
   go_wp2_with fail
   refine(ac5 _ _ _ _ (r2+0) r3 lo hi _ (by omega) (uh HR3) Xk ((uh G2).stays Rh ((uh R2).trans (X.refl lo hi w2)).md) (Nat.le_trans hh2 (X.refl lo hi w2).md.size)).mono ?_
   rintro e w3 ⟨rfl,hm⟩
   have seg:X lo hi _ w2 w3:=X.trans (X.refl lo hi w2) hm
   have R3:=hide ((uh R2).trans seg)
   have hh3:hi<=w3.heap.size:=Nat.le_trans hh2 seg.md.size
   clear hm seg
   clear c2 f2
   have c3:=(uh R3).csl hlo ji (uh C3)
   have f3:=(uh R3).Ox hlo ji (uh Z3)
   obtain⟨r4,hr4⟩:∃r,r3+0+l3.length=r:=⟨_,rfl⟩
   have Xl:r4<=1000000000:=by have:=uh HR2;have:=uh HR3;omega
   have HR4:=hide hr4
   clear hr4
   go_wp2_with fail
   refine(aau _ _ _ _ (r3+0) r4 lo hi _ (by omega) (uh HR4) Xl ((uh G3).stays Ut ((uh R3).trans (X.refl lo hi w3)).md) (Nat.le_trans hh3 (X.refl lo hi w3).md.size)).mono ?_
   rintro e w4 ⟨rfl,hm⟩
   have seg:X lo hi _ w3 w4:=X.trans (X.refl lo hi w3) hm
   have R4:=hide ((uh R3).trans seg)
   have hh4:hi<=w4.heap.size:=Nat.le_trans hh3 seg.md.size
   clear hm seg
   clear c3 f3
   have c4:=(uh R4).csl hlo ji (uh C4)
   have f4:=(uh R4).Ox hlo ji (uh Z4)
   obtain⟨r5,N8⟩:∃r,r4+0+l4.length=r:=⟨_,rfl⟩
   have akc:r5<=1000000000:=by have:=uh HR2;have:=uh HR3;have:=uh HR4;omega
   have Dz:=hide N8
   clear N8
   go_wp2_with fail
   refine(afc _ _ _ _ (r4+0) r5 lo hi _ (by omega) (uh Dz) akc ((uh G4).stays Uu ((uh R4).trans (X.refl lo hi w4)).md) (Nat.le_trans hh4 (X.refl lo hi w4).md.size)).mono ?_
   rintro e w5 ⟨rfl,hm⟩
   have seg:X lo hi _ w4 w5:=X.trans (X.refl lo hi w4) hm
   have R5:=hide ((uh R4).trans seg)
   have hh5:hi<=w5.heap.size:=Nat.le_trans hh4 seg.md.size
   clear hm seg
   clear c4 f4
   have c5:=(uh R5).csl hlo ji (uh C5)
   have f5:=(uh R5).Ox hlo ji (uh Z5)
   obtain⟨r6,hr6⟩:∃r,r5+0+l5.length=r:=⟨_,rfl⟩
   have akd:r6<=1000000000:=by have:=uh HR2;have:=uh HR3;have:=uh HR4;have:=uh Dz;omega
   have Um:=hide hr6
   clear hr6
   go_wp2_with fail
   refine(afc _ _ _ _ (r5+0) r6 lo hi _ (by omega) (uh Um) akd ((uh G5).stays Uu ((uh R5).trans (X.refl lo hi w5)).md) (Nat.le_trans hh5 (X.refl lo hi w5).md.size)).mono ?_
   rintro e w6 ⟨rfl,hm⟩
   have seg:X lo hi _ w5 w6:=X.trans (X.refl lo hi w5) hm
   have R6:=hide ((uh R5).trans seg)
   have hh6:hi<=w6.heap.size:=Nat.le_trans hh5 seg.md.size
   clear hm seg
   clear c5 f5
   have c6:=(uh R6).csl hlo ji (uh C6)
   have f6:=(uh R6).Ox hlo ji (uh Z6)
   obtain⟨r7,Qr⟩:∃r,r6+0+l6.length=r:=⟨_,rfl⟩
   have ake:r7<=1000000000:=by have:=uh HR2;have:=uh HR3;have:=uh HR4;have:=uh Dz;have:=uh Um;omega
   have Ve:=hide Qr
   clear Qr
   go_wp2_with fail
   refine(ao8 _ _ _ _ (r6+0) r7 lo hi _ (by omega) (uh Ve) ake ((uh G6).stays ab2 ((uh R6).trans (X.refl lo hi w6)).md) (Nat.le_trans hh6 (X.refl lo hi w6).md.size)).mono ?_
   rintro e w7 ⟨rfl,hm⟩
   have seg:X lo hi _ w6 w7:=X.trans (X.refl lo hi w6) hm
   have R7:=hide ((uh R6).trans seg)
   have hh7:hi<=w7.heap.size:=Nat.le_trans hh6 seg.md.size
   clear hm seg
   clear c6 f6
   go_wp2
   go_roundg (xs.length-(q+1))
   case measure=>have:=uh HG;omega
   case rel =>
    refine⟨q+1,r7+0,by omega,rfl,by go_num,by go_num,(by refine hide ?_;have:=uh HST;have:=uh HR2;have:=uh HR3;have:=uh HR4;have:=uh Dz;have:=uh Um;have:=uh Ve;omega),?_⟩
    rw[uh Qc]
    refine hide ((uh qy).trans ?_)
    refine X.eq ((uh R7).trans (X.refl lo hi w7)) ?_
    have e2:=uh HR2
    have e3:=uh HR3
    have e4:=uh HR4
    have e5:=uh Dz
    have e6:=uh Um
    have e7:=uh Ve
    rw[uh I9]
    simp only[Ar,Bl,mkV,List.append_assoc,List.nil_append,List.cons_append,List.length_append,List.length_cons,List.length_nil,Nat.add_zero,Nat.zero_add,Nat.mul_one,List.append_nil,←e2,←e3,←e4,←e5,←e6,←e7]
    try (simp[Nat.add_assoc,Nat.add_comm,Nat.add_left_comm]<;>omega)
  ·have e:q=xs.length:=by omega
   have Dl:lss.length<=q:=by rw[uh Cb];omega
   have hfa:=D8 lss q Dl
   rw[hfa,←uh Ap] at qj qy
   have HE:Hid (kq=r):=by
    refine hide ?_
    rw[←uh qj,←uh HR]
   clear e Dl hfa
   go_wp2
   go_ret
   exact⟨(by rw[uh HE];rfl),uh qy⟩
end Go.Proofs.YtlcgnbcgmljpaaaGreat
