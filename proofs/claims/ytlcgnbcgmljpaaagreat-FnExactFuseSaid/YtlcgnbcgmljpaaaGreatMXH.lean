import Derived.Deep.RegionHeld3
import Derived.Test.YtlcgnbcgmljpaaaGreatMX
namespace Go.Proofs.YtlcgnbcgmljpaaaGreat
open Go.RowKit
set_option linter.unusedSimpArgs false
set_option linter.unusedVariables false
set_option maxHeartbeats 2000000 in
theorem aav (xs:List ByteArray) (v:Value) (l:Lf) (K:Int) (k r lo hi:Nat) (w w0:World) (hbw:Below w.heap.size w w0) (hK:K=(k:Int)) (hr:k+l.length=r) (hrb:r<=1000000000) (hv:Dk 1 Z7 lo hi w v xs l) (hH:Held k l w) (hhi:hi<=w.heap.size) :
  Calls Tryz.prog 39 #[v,.int .i64 K] w0 (fun e w'=>e=.returned (.int .i64 (r:Int))∧Hid (Below w.heap.size w w')):=by
 subst hK
 obtain⟨a,cap,lss,rfl,hn,hls,hfl,hx⟩:=hv
 unfold Len at hn
 have HX:=hide hx
 have Ap:=hide hfl
 have Cb:=hide hls
 have yt:=hide hhi
 have HR:=hide hr
 have qm:=hide hrb
 have Us:=hide hH
 have Bj:=hide hbw
 clear hx hhi hr hrb hfl hls hH hbw
 go_enter Tryz.func39,Tryz.ntmps39
 go_wp2
 go_loopg [1,5] xs.length (fun g kk i wr=>∃(q kq:Nat),q<=xs.length∧g=xs.length-q∧i=.int .i64 q∧kk=.int .i64 (kq:Int)∧Hid (k+(lss.take q).flatten.length=kq)∧Hid (Below w.heap.size w wr))
 case atStart=>exact⟨0,k,Nat.zero_le _,by omega,rfl,rfl,by simp[Hid],Bj⟩
 case round =>
  obtain⟨q,kq,hq,hg,rfl,rfl,qj,qx⟩:=hrel
  have HG:=hide hg
  clear hg
  by_cases hlt:q<xs.length
  ·have hlq:q<lss.length:=by rw[uh Cb];exact hlt
   obtain⟨b,o,rfl,hel⟩:=uh HX q hlt hlq
   have hst:k+(lss.take (q+1)).flatten.length=kq+lss[q].length:=by
    rw[xw _ _ hlq,List.length_append,←uh qj]
    omega
   have hkb:kq+lss[q].length<=1000000000:=by
    have h1:=F9 lss (q+1)
    have h2:=uh HR
    have h3:=uh qm
    rw[uh Ap] at h2
    omega
   have HH:Held kq lss[q] w:=by
    have h1:=uh Us
    rw[uh Ap] at h1
    exact Tc h1 hlq (uh qj)
   generalize lss[q]=lq at hel hst hkb HH
   generalize xs[q]=x at hel
   obtain⟨hlo,ji,cs,hcs,hc,⟨s0,rfl⟩,hll⟩:=hel
   have hlen:lq.length=1:=by simp[hll]<;>omega
   rw[hlen] at hst hkb
   rw[hll] at HH
   have HST:=hide hst
   clear hst hll hlen
   have HA:=HH
   have Lc:Hid (∀w',Below w.heap.size w w'->w'.cell? ⟨b,o+q,none⟩=some (.string (Ah (kq+0)))):=by
    refine hide (fun w' hb=>(hb.cell (p:=⟨b,_,none⟩) (Nat.lt_of_lt_of_le ji (uh yt))).trans ?_)
    have h9:=HA 0 (by simp)
    simp only[List.getElem_cons_zero,List.getElem_cons_succ,mkV,Nat.mul_one,Nat.add_zero] at h9
    simpa using h9
   clear HH hc hcs ji hlo HA
   have c0:=uh Lc wr (uh qx)
   have HT1:Hid (Calls Tryz.prog 33 #[.int .i64 ((kq:Int))] wr.drew fun e w'=>e=.returned (.string (Ah (kq+0)))∧Hid (Below w.heap.size w w')∧w'.cell? ⟨b,o+q,none⟩=some (.string (Ah (kq+0)))):=by
    refine hide ((Ac _ (kq+0) _ (by omega) (by omega)).mono ?_)
    rintro e w' ⟨rfl,hb⟩
    have jc:Below w.heap.size w w':=(uh qx).drew.trans (hb.mono (uh qx).size)
    exact⟨rfl,jc,uh Lc w' jc⟩
   go_wp2_with fail
   go_region_held3 (fun w'=>w'.cell? ⟨b,o+q,none⟩=some (.string (Ah (kq+0)))) (go_keep) (first|(go_at_call 33;refine(uh HT1).mono ?_;rintro e w1 ⟨rfl,HB1,d0⟩))
   clear d0
   clear c0
   go_wp2
   go_roundg (xs.length-(q+1))
   case measure=>have:=uh HG;omega
   case rel=>exact⟨q+1,kq+1,by omega,rfl,by go_num,by go_num,(by refine hide ?_;have:=uh HST;omega),HB1⟩
  ·have e:q=xs.length:=by omega
   have Dl:lss.length<=q:=by rw[uh Cb];omega
   have hfa:=D8 lss q Dl
   rw[hfa,←uh Ap] at qj
   have HE:Hid (kq=r):=by
    refine hide ?_
    rw[←uh qj,←uh HR]
   clear e Dl hfa
   go_wp2
   go_ret
   exact⟨(by rw[uh HE];rfl),qx⟩
set_option maxHeartbeats 2000000 in
theorem afd (xs:List Int) (v:Value) (l:Lf) (K:Int) (k r lo hi:Nat) (w w0:World) (hbw:Below w.heap.size w w0) (hK:K=(k:Int)) (hr:k+l.length=r) (hrb:r<=1000000000) (hv:Dk 1 Z8 lo hi w v xs l) (hH:Held k l w) (hhi:hi<=w.heap.size) :
  Calls Tryz.prog 40 #[v,.int .i64 K] w0 (fun e w'=>e=.returned (.int .i64 (r:Int))∧Hid (Below w.heap.size w w')):=by
 subst hK
 obtain⟨a,cap,lss,rfl,hn,hls,hfl,hx⟩:=hv
 unfold Len at hn
 have HX:=hide hx
 have Ap:=hide hfl
 have Cb:=hide hls
 have yt:=hide hhi
 have HR:=hide hr
 have qm:=hide hrb
 have Us:=hide hH
 have Bj:=hide hbw
 clear hx hhi hr hrb hfl hls hH hbw
 go_enter Tryz.func40,Tryz.ntmps40
 go_wp2
 go_loopg [1,5] xs.length (fun g kk i wr=>∃(q kq:Nat),q<=xs.length∧g=xs.length-q∧i=.int .i64 q∧kk=.int .i64 (kq:Int)∧Hid (k+(lss.take q).flatten.length=kq)∧Hid (Below w.heap.size w wr))
 case atStart=>exact⟨0,k,Nat.zero_le _,by omega,rfl,rfl,by simp[Hid],Bj⟩
 case round =>
  obtain⟨q,kq,hq,hg,rfl,rfl,qj,qx⟩:=hrel
  have HG:=hide hg
  clear hg
  by_cases hlt:q<xs.length
  ·have hlq:q<lss.length:=by rw[uh Cb];exact hlt
   obtain⟨b,o,rfl,hel⟩:=uh HX q hlt hlq
   have hst:k+(lss.take (q+1)).flatten.length=kq+lss[q].length:=by
    rw[xw _ _ hlq,List.length_append,←uh qj]
    omega
   have hkb:kq+lss[q].length<=1000000000:=by
    have h1:=F9 lss (q+1)
    have h2:=uh HR
    have h3:=uh qm
    rw[uh Ap] at h2
    omega
   have HH:Held kq lss[q] w:=by
    have h1:=uh Us
    rw[uh Ap] at h1
    exact Tc h1 hlq (uh qj)
   generalize lss[q]=lq at hel hst hkb HH
   generalize xs[q]=x at hel
   obtain⟨hlo,ji,cs,hcs,hc,⟨s0,rfl⟩,hll⟩:=hel
   have hlen:lq.length=1:=by simp[hll]<;>omega
   rw[hlen] at hst hkb
   rw[hll] at HH
   have HST:=hide hst
   clear hst hll hlen
   have HA:=HH
   have Lc:Hid (∀w',Below w.heap.size w w'->w'.cell? ⟨b,o+q,none⟩=some (.int .i64 ((kq:Int)))):=by
    refine hide (fun w' hb=>(hb.cell (p:=⟨b,_,none⟩) (Nat.lt_of_lt_of_le ji (uh yt))).trans ?_)
    have h9:=HA 0 (by simp)
    simp only[List.getElem_cons_zero,List.getElem_cons_succ,mkV,Nat.mul_one,Nat.add_zero] at h9
    simpa[Int.add_assoc] using h9
   clear HH hc hcs ji hlo HA
   have c0:=uh Lc wr (uh qx)
   go_wp2
   go_roundg (xs.length-(q+1))
   case measure=>have:=uh HG;omega
   case rel=>exact⟨q+1,kq+1,by omega,rfl,by go_num,by go_num,(by refine hide ?_;have:=uh HST;omega),qx⟩
  ·have e:q=xs.length:=by omega
   have Dl:lss.length<=q:=by rw[uh Cb];omega
   have hfa:=D8 lss q Dl
   rw[hfa,←uh Ap] at qj
   have HE:Hid (kq=r):=by
    refine hide ?_
    rw[←uh qj,←uh HR]
   clear e Dl hfa
   go_wp2
   go_ret
   exact⟨(by rw[uh HE];rfl),qx⟩
set_option maxHeartbeats 2000000 in
theorem ac6 (xs:List iw) (v:Value) (l:Lf) (K:Int) (k r lo hi:Nat) (w w0:World) (hbw:Below w.heap.size w w0) (hK:K=(k:Int)) (hr:k+l.length=r) (hrb:r<=1000000000) (hv:Dk 3 Vr lo hi w v xs l) (hH:Held k l w) (hhi:hi<=w.heap.size) :
  Calls Tryz.prog 68 #[v,.int .i64 K] w0 (fun e w'=>e=.returned (.int .i64 (r:Int))∧Hid (Below w.heap.size w w')):=by
 subst hK
 obtain⟨a,cap,lss,rfl,hn,hls,hfl,hx⟩:=hv
 unfold Len at hn
 have HX:=hide hx
 have Ap:=hide hfl
 have Cb:=hide hls
 have yt:=hide hhi
 have HR:=hide hr
 have qm:=hide hrb
 have Us:=hide hH
 have Bj:=hide hbw
 clear hx hhi hr hrb hfl hls hH hbw
 go_enter Tryz.func68,Tryz.ntmps68
 go_wp2
 go_loopg [1,5] xs.length (fun g kk i wr=>∃(q kq:Nat),q<=xs.length∧g=xs.length-q∧i=.int .i64 q∧kk=.int .i64 (kq:Int)∧Hid (k+(lss.take q).flatten.length=kq)∧Hid (Below w.heap.size w wr))
 case atStart=>exact⟨0,k,Nat.zero_le _,by omega,rfl,rfl,by simp[Hid],Bj⟩
 case round =>
  obtain⟨q,kq,hq,hg,rfl,rfl,qj,qx⟩:=hrel
  have HG:=hide hg
  clear hg
  by_cases hlt:q<xs.length
  ·have hlq:q<lss.length:=by rw[uh Cb];exact hlt
   obtain⟨b,o,rfl,hel⟩:=uh HX q hlt hlq
   have hst:k+(lss.take (q+1)).flatten.length=kq+lss[q].length:=by
    rw[xw _ _ hlq,List.length_append,←uh qj]
    omega
   have hkb:kq+lss[q].length<=1000000000:=by
    have h1:=F9 lss (q+1)
    have h2:=uh HR
    have h3:=uh qm
    rw[uh Ap] at h2
    omega
   have HH:Held kq lss[q] w:=by
    have h1:=uh Us
    rw[uh Ap] at h1
    exact Tc h1 hlq (uh qj)
   generalize lss[q]=lq at hel hst hkb HH
   generalize xs[q]=x at hel
   obtain⟨hlo,ji,cs,hcs,hc,⟨s0,s1,s2,rfl⟩,hll⟩:=hel
   have hlen:lq.length=3:=by simp[hll]<;>omega
   rw[hlen] at hst hkb
   rw[hll] at HH
   have HST:=hide hst
   clear hst hll hlen
   have HA:=HH
   have Lc:Hid (∀w',Below w.heap.size w w'->w'.cell? ⟨b,o+q*3,none⟩=some (.int .i64 ((kq:Int)))):=by
    refine hide (fun w' hb=>(hb.cell (p:=⟨b,_,none⟩) (Nat.lt_of_lt_of_le ji (uh yt))).trans ?_)
    have h9:=HA 0 (by simp)
    simp only[List.getElem_cons_zero,List.getElem_cons_succ,mkV,Nat.mul_one,Nat.add_zero] at h9
    simpa[Int.add_assoc] using h9
   have qg:Hid (∀w',Below w.heap.size w w'->w'.cell? ⟨b,o+q*3+1,none⟩=some (.int .i64 ((kq:Int)+1))):=by
    refine hide (fun w' hb=>(hb.cell (p:=⟨b,_,none⟩) (Nat.lt_of_lt_of_le ji (uh yt))).trans ?_)
    have h9:=HA 1 (by simp)
    simp only[List.getElem_cons_zero,List.getElem_cons_succ,mkV,Nat.mul_one,Nat.add_zero] at h9
    simpa[Int.add_assoc] using h9
   have HC2:Hid (∀w',Below w.heap.size w w'->w'.cell? ⟨b,o+q*3+2,none⟩=some (.string (Ah (kq+2)))):=by
    refine hide (fun w' hb=>(hb.cell (p:=⟨b,_,none⟩) (Nat.lt_of_lt_of_le ji (uh yt))).trans ?_)
    have h9:=HA 2 (by simp)
    simp only[List.getElem_cons_zero,List.getElem_cons_succ,mkV,Nat.mul_one,Nat.add_zero] at h9
    simpa using h9
   clear HH hc hcs ji hlo HA
   have c0:=uh Lc wr (uh qx)
   have c1:=uh qg wr (uh qx)
   have c2:=uh HC2 wr (uh qx)
   have HT1:Hid (Calls Tryz.prog 33 #[.int .i64 ((kq:Int)+1+1)] wr.drew fun e w'=>e=.returned (.string (Ah (kq+2)))∧Hid (Below w.heap.size w w')∧w'.cell? ⟨b,o+q*3+2,none⟩=some (.string (Ah (kq+2)))):=by
    refine hide ((Ac _ (kq+2) _ (by omega) (by omega)).mono ?_)
    rintro e w' ⟨rfl,hb⟩
    have jc:Below w.heap.size w w':=(uh qx).drew.trans (hb.mono (uh qx).size)
    exact⟨rfl,jc,uh HC2 w' jc⟩
   go_wp2_with fail
   go_region_held3 (fun w'=>w'.cell? ⟨b,o+q*3+2,none⟩=some (.string (Ah (kq+2)))) (go_keep) (first|(go_at_call 33;refine(uh HT1).mono ?_;rintro e w1 ⟨rfl,HB1,d2⟩))
   clear d2
   clear c0 c1 c2
   go_wp2
   go_roundg (xs.length-(q+1))
   case measure=>have:=uh HG;omega
   case rel=>exact⟨q+1,kq+3,by omega,rfl,by go_num,by go_num,(by refine hide ?_;have:=uh HST;omega),HB1⟩
  ·have e:q=xs.length:=by omega
   have Dl:lss.length<=q:=by rw[uh Cb];omega
   have hfa:=D8 lss q Dl
   rw[hfa,←uh Ap] at qj
   have HE:Hid (kq=r):=by
    refine hide ?_
    rw[←uh qj,←uh HR]
   clear e Dl hfa
   go_wp2
   go_ret
   exact⟨(by rw[uh HE];rfl),qx⟩
set_option maxHeartbeats 2000000 in
theorem akf (xs:List (List iw)) (v:Value) (l:Lf) (K:Int) (k r lo hi:Nat) (w w0:World) (hbw:Below w.heap.size w w0) (hK:K=(k:Int)) (hr:k+l.length=r) (hrb:r<=1000000000) (hv:Dk 1 W9 lo hi w v xs l) (hH:Held k l w) (hhi:hi<=w.heap.size) :
  Calls Tryz.prog 69 #[v,.int .i64 K] w0 (fun e w'=>e=.returned (.int .i64 (r:Int))∧Hid (Below w.heap.size w w')):=by
 subst hK
 obtain⟨a,cap,lss,rfl,hn,hls,hfl,hx⟩:=hv
 unfold Len at hn
 have HX:=hide hx
 have Ap:=hide hfl
 have Cb:=hide hls
 have yt:=hide hhi
 have HR:=hide hr
 have qm:=hide hrb
 have Us:=hide hH
 have Bj:=hide hbw
 clear hx hhi hr hrb hfl hls hH hbw
 go_enter Tryz.func69,Tryz.ntmps69
 go_wp2
 go_loopg [1,5] xs.length (fun g kk i wr=>∃(q kq:Nat),q<=xs.length∧g=xs.length-q∧i=.int .i64 q∧kk=.int .i64 (kq:Int)∧Hid (k+(lss.take q).flatten.length=kq)∧Hid (Below w.heap.size w wr))
 case atStart=>exact⟨0,k,Nat.zero_le _,by omega,rfl,rfl,by simp[Hid],Bj⟩
 case round =>
  obtain⟨q,kq,hq,hg,rfl,rfl,qj,qx⟩:=hrel
  have HG:=hide hg
  clear hg
  by_cases hlt:q<xs.length
  ·have hlq:q<lss.length:=by rw[uh Cb];exact hlt
   obtain⟨b,o,rfl,hel⟩:=uh HX q hlt hlq
   have hst:k+(lss.take (q+1)).flatten.length=kq+lss[q].length:=by
    rw[xw _ _ hlq,List.length_append,←uh qj]
    omega
   have hkb:kq+lss[q].length<=1000000000:=by
    have h1:=F9 lss (q+1)
    have h2:=uh HR
    have h3:=uh qm
    rw[uh Ap] at h2
    omega
   have HH:Held kq lss[q] w:=by
    have h1:=uh Us
    rw[uh Ap] at h1
    exact Tc h1 hlq (uh qj)
   generalize lss[q]=lq at hel hst hkb HH
   generalize xs[q]=x at hel
   obtain⟨hlo,ji,cs,hcs,hc,v0,l0,rfl,g0,hll⟩:=hel
   obtain⟨sa0,sc0,rfl⟩:=g0.shape
   have G0:=hide g0
   have hlen:lq.length=l0.length:=by simp[hll]<;>omega
   rw[hlen] at hst hkb
   rw[hll] at HH
   have HST:=hide hst
   clear hst hll hlen g0
   have HJ0:=hide HH
   have avi:=(hc 0 (by simp)).1
   simp only[Nat.mul_one,Nat.add_zero,List.getElem_cons_zero,List.getElem_cons_succ] at avi
   have Lc:Hid (∀w',Below w.heap.size w w'->w'.cell? ⟨b,o+q,none⟩=some (.slice sa0 (x).length sc0)):=hide (fun w' hb=>(hb.cell (p:=⟨b,_,none⟩) (Nat.lt_of_lt_of_le ji (uh yt))).trans avi)
   clear avi
   clear HH hc hcs ji hlo
   have c0:=uh Lc wr (uh qx)
   obtain⟨r1,hr1⟩:∃r,kq+0+l0.length=r:=⟨_,rfl⟩
   have akb:r1<=1000000000:=by omega
   have HR1:=hide hr1
   clear hr1
   go_wp2_with fail
   refine(ac6 _ _ _ _ (kq+0) r1 lo hi w _ (uh qx) (by omega) (uh HR1) akb (uh G0) (by have h9:=uh HJ0;first|exact h9|(refine Held.at h9 ?_;simp;omega)) (uh yt)).mono ?_
   rintro e w1 ⟨rfl,HB1⟩
   clear c0
   go_wp2
   go_roundg (xs.length-(q+1))
   case measure=>have:=uh HG;omega
   case rel=>exact⟨q+1,r1+0,by omega,rfl,by go_num,by go_num,(by refine hide ?_;have:=uh HST;have:=uh HR1;omega),HB1⟩
  ·have e:q=xs.length:=by omega
   have Dl:lss.length<=q:=by rw[uh Cb];omega
   have hfa:=D8 lss q Dl
   rw[hfa,←uh Ap] at qj
   have HE:Hid (kq=r):=by
    refine hide ?_
    rw[←uh qj,←uh HR]
   clear e Dl hfa
   go_wp2
   go_ret
   exact⟨(by rw[uh HE];rfl),qx⟩
set_option maxHeartbeats 2000000 in
theorem ac7 (xs:List gy) (v:Value) (l:Lf) (K:Int) (k r lo hi:Nat) (w w0:World) (hbw:Below w.heap.size w w0) (hK:K=(k:Int)) (hr:k+l.length=r) (hrb:r<=1000000000) (hv:Dk 2 Vs lo hi w v xs l) (hH:Held k l w) (hhi:hi<=w.heap.size) :
  Calls Tryz.prog 38 #[v,.int .i64 K] w0 (fun e w'=>e=.returned (.int .i64 (r:Int))∧Hid (Below w.heap.size w w')):=by
 subst hK
 obtain⟨a,cap,lss,rfl,hn,hls,hfl,hx⟩:=hv
 unfold Len at hn
 have HX:=hide hx
 have Ap:=hide hfl
 have Cb:=hide hls
 have yt:=hide hhi
 have HR:=hide hr
 have qm:=hide hrb
 have Us:=hide hH
 have Bj:=hide hbw
 clear hx hhi hr hrb hfl hls hH hbw
 go_enter Tryz.func38,Tryz.ntmps38
 go_wp2
 go_loopg [1,5] xs.length (fun g kk i wr=>∃(q kq:Nat),q<=xs.length∧g=xs.length-q∧i=.int .i64 q∧kk=.int .i64 (kq:Int)∧Hid (k+(lss.take q).flatten.length=kq)∧Hid (Below w.heap.size w wr))
 case atStart=>exact⟨0,k,Nat.zero_le _,by omega,rfl,rfl,by simp[Hid],Bj⟩
 case round =>
  obtain⟨q,kq,hq,hg,rfl,rfl,qj,qx⟩:=hrel
  have HG:=hide hg
  clear hg
  by_cases hlt:q<xs.length
  ·have hlq:q<lss.length:=by rw[uh Cb];exact hlt
   obtain⟨b,o,rfl,hel⟩:=uh HX q hlt hlq
   have hst:k+(lss.take (q+1)).flatten.length=kq+lss[q].length:=by
    rw[xw _ _ hlq,List.length_append,←uh qj]
    omega
   have hkb:kq+lss[q].length<=1000000000:=by
    have h1:=F9 lss (q+1)
    have h2:=uh HR
    have h3:=uh qm
    rw[uh Ap] at h2
    omega
   have HH:Held kq lss[q] w:=by
    have h1:=uh Us
    rw[uh Ap] at h1
    exact Tc h1 hlq (uh qj)
   generalize lss[q]=lq at hel hst hkb HH
   generalize xs[q]=x at hel
   obtain⟨hlo,ji,cs,hcs,hc,⟨s0,s1,rfl⟩,hll⟩:=hel
   have hlen:lq.length=2:=by simp[hll]<;>omega
   rw[hlen] at hst hkb
   rw[hll] at HH
   have HST:=hide hst
   clear hst hll hlen
   have HA:=HH
   have Lc:Hid (∀w',Below w.heap.size w w'->w'.cell? ⟨b,o+q*2,none⟩=some (.string (Ah (kq+0)))):=by
    refine hide (fun w' hb=>(hb.cell (p:=⟨b,_,none⟩) (Nat.lt_of_lt_of_le ji (uh yt))).trans ?_)
    have h9:=HA 0 (by simp)
    simp only[List.getElem_cons_zero,List.getElem_cons_succ,mkV,Nat.mul_one,Nat.add_zero] at h9
    simpa using h9
   have qg:Hid (∀w',Below w.heap.size w w'->w'.cell? ⟨b,o+q*2+1,none⟩=some (.int .i64 ((kq:Int)+1))):=by
    refine hide (fun w' hb=>(hb.cell (p:=⟨b,_,none⟩) (Nat.lt_of_lt_of_le ji (uh yt))).trans ?_)
    have h9:=HA 1 (by simp)
    simp only[List.getElem_cons_zero,List.getElem_cons_succ,mkV,Nat.mul_one,Nat.add_zero] at h9
    simpa[Int.add_assoc] using h9
   clear HH hc hcs ji hlo HA
   have c0:=uh Lc wr (uh qx)
   have HT1:Hid (Calls Tryz.prog 33 #[.int .i64 ((kq:Int))] wr.drew fun e w'=>e=.returned (.string (Ah (kq+0)))∧Hid (Below w.heap.size w w')∧w'.cell? ⟨b,o+q*2,none⟩=some (.string (Ah (kq+0)))):=by
    refine hide ((Ac _ (kq+0) _ (by omega) (by omega)).mono ?_)
    rintro e w' ⟨rfl,hb⟩
    have jc:Below w.heap.size w w':=(uh qx).drew.trans (hb.mono (uh qx).size)
    exact⟨rfl,jc,uh Lc w' jc⟩
   go_wp2_with fail
   go_region_held3 (fun w'=>w'.cell? ⟨b,o+q*2,none⟩=some (.string (Ah (kq+0)))) (go_keep) (first|(go_at_call 33;refine(uh HT1).mono ?_;rintro e w1 ⟨rfl,HB1,d0⟩))
   clear d0
   clear c0
   have c1:=uh qg w1 (uh HB1)
   go_wp2
   go_roundg (xs.length-(q+1))
   case measure=>have:=uh HG;omega
   case rel=>exact⟨q+1,kq+2,by omega,rfl,by go_num,by go_num,(by refine hide ?_;have:=uh HST;omega),HB1⟩
  ·have e:q=xs.length:=by omega
   have Dl:lss.length<=q:=by rw[uh Cb];omega
   have hfa:=D8 lss q Dl
   rw[hfa,←uh Ap] at qj
   have HE:Hid (kq=r):=by
    refine hide ?_
    rw[←uh qj,←uh HR]
   clear e Dl hfa
   go_wp2
   go_ret
   exact⟨(by rw[uh HE];rfl),qx⟩
set_option maxHeartbeats 2000000 in
theorem ao9 (xs:List dh) (v:Value) (l:Lf) (K:Int) (k r lo hi:Nat) (w w0:World) (hbw:Below w.heap.size w w0) (hK:K=(k:Int)) (hr:k+l.length=r) (hrb:r<=1000000000) (hv:Dk 6 adh lo hi w v xs l) (hH:Held k l w) (hhi:hi<=w.heap.size) :
  Calls Tryz.prog 41 #[v,.int .i64 K] w0 (fun e w'=>e=.returned (.int .i64 (r:Int))∧Hid (Below w.heap.size w w')):=by
 subst hK
 obtain⟨a,cap,lss,rfl,hn,hls,hfl,hx⟩:=hv
 unfold Len at hn
 have HX:=hide hx
 have Ap:=hide hfl
 have Cb:=hide hls
 have yt:=hide hhi
 have HR:=hide hr
 have qm:=hide hrb
 have Us:=hide hH
 have Bj:=hide hbw
 clear hx hhi hr hrb hfl hls hH hbw
 go_enter Tryz.func41,Tryz.ntmps41
 go_wp2
 go_loopg [1,5] xs.length (fun g kk i wr=>∃(q kq:Nat),q<=xs.length∧g=xs.length-q∧i=.int .i64 q∧kk=.int .i64 (kq:Int)∧Hid (k+(lss.take q).flatten.length=kq)∧Hid (Below w.heap.size w wr))
 case atStart=>exact⟨0,k,Nat.zero_le _,by omega,rfl,rfl,by simp[Hid],Bj⟩
 case round =>
  obtain⟨q,kq,hq,hg,rfl,rfl,qj,qx⟩:=hrel
  have HG:=hide hg
  clear hg
  by_cases hlt:q<xs.length
  ·have hlq:q<lss.length:=by rw[uh Cb];exact hlt
   obtain⟨b,o,rfl,hel⟩:=uh HX q hlt hlq
   have hst:k+(lss.take (q+1)).flatten.length=kq+lss[q].length:=by
    rw[xw _ _ hlq,List.length_append,←uh qj]
    omega
   have hkb:kq+lss[q].length<=1000000000:=by
    have h1:=F9 lss (q+1)
    have h2:=uh HR
    have h3:=uh qm
    rw[uh Ap] at h2
    omega
   have HH:Held kq lss[q] w:=by
    have h1:=uh Us
    rw[uh Ap] at h1
    exact Tc h1 hlq (uh qj)
   generalize lss[q]=lq at hel hst hkb HH
   generalize xs[q]=x at hel
   obtain⟨hlo,ji,cs,hcs,hc,s0,s1,s2,v3,v4,v5,l3,l4,l5,rfl,g3,g4,g5,hll⟩:=hel
   obtain⟨Uf,Vj,rfl⟩:=g3.shape
   have G3:=hide g3
   obtain⟨Vk,Vl,rfl⟩:=g4.shape
   have G4:=hide g4
   obtain⟨Vm,Vo,rfl⟩:=g5.shape
   have G5:=hide g5
   have hlen:lq.length=3+l3.length+l4.length+l5.length:=by simp[hll]<;>omega
   rw[hlen] at hst hkb
   rw[hll] at HH
   have HST:=hide hst
   clear hst hll hlen g3 g4 g5
   have HA:=HH.left.left.left
   have Lc:Hid (∀w',Below w.heap.size w w'->w'.cell? ⟨b,o+q*6,none⟩=some (.int .i64 ((kq:Int)))):=by
    refine hide (fun w' hb=>(hb.cell (p:=⟨b,_,none⟩) (Nat.lt_of_lt_of_le ji (uh yt))).trans ?_)
    have h9:=HA 0 (by simp)
    simp only[List.getElem_cons_zero,List.getElem_cons_succ,mkV,Nat.mul_one,Nat.add_zero] at h9
    simpa[Int.add_assoc] using h9
   have qg:Hid (∀w',Below w.heap.size w w'->w'.cell? ⟨b,o+q*6+1,none⟩=some (.string (Ah (kq+1)))):=by
    refine hide (fun w' hb=>(hb.cell (p:=⟨b,_,none⟩) (Nat.lt_of_lt_of_le ji (uh yt))).trans ?_)
    have h9:=HA 1 (by simp)
    simp only[List.getElem_cons_zero,List.getElem_cons_succ,mkV,Nat.mul_one,Nat.add_zero] at h9
    simpa using h9
   have HC2:Hid (∀w',Below w.heap.size w w'->w'.cell? ⟨b,o+q*6+2,none⟩=some (.int .i64 ((kq:Int)+1+1))):=by
    refine hide (fun w' hb=>(hb.cell (p:=⟨b,_,none⟩) (Nat.lt_of_lt_of_le ji (uh yt))).trans ?_)
    have h9:=HA 2 (by simp)
    simp only[List.getElem_cons_zero,List.getElem_cons_succ,mkV,Nat.mul_one,Nat.add_zero] at h9
    simpa[Int.add_assoc] using h9
   have HJ3:=hide HH.left.left.right
   have adz:=(hc 3 (by simp)).1
   simp only[Nat.mul_one,Nat.add_zero,List.getElem_cons_zero,List.getElem_cons_succ] at adz
   have Io:Hid (∀w',Below w.heap.size w w'->w'.cell? ⟨b,o+q*6+3,none⟩=some (.slice Uf (x.outs).length Vj)):=hide (fun w' hb=>(hb.cell (p:=⟨b,_,none⟩) (Nat.lt_of_lt_of_le ji (uh yt))).trans adz)
   clear adz
   have HJ4:=hide HH.left.right
   have ad1:=(hc 4 (by simp)).1
   simp only[Nat.mul_one,Nat.add_zero,List.getElem_cons_zero,List.getElem_cons_succ] at ad1
   have HC4:Hid (∀w',Below w.heap.size w w'->w'.cell? ⟨b,o+q*6+4,none⟩=some (.slice Vk (x.code).length Vl)):=hide (fun w' hb=>(hb.cell (p:=⟨b,_,none⟩) (Nat.lt_of_lt_of_le ji (uh yt))).trans ad1)
   clear ad1
   have HJ5:=hide HH.right
   have ad2:=(hc 5 (by simp)).1
   simp only[Nat.mul_one,Nat.add_zero,List.getElem_cons_zero,List.getElem_cons_succ] at ad2
   have HC5:Hid (∀w',Below w.heap.size w w'->w'.cell? ⟨b,o+q*6+5,none⟩=some (.slice Vm (x.args).length Vo)):=hide (fun w' hb=>(hb.cell (p:=⟨b,_,none⟩) (Nat.lt_of_lt_of_le ji (uh yt))).trans ad2)
   clear ad2
   clear HH hc hcs ji hlo HA
   have c0:=uh Lc wr (uh qx)
   have c1:=uh qg wr (uh qx)
   have HT1:Hid (Calls Tryz.prog 33 #[.int .i64 ((kq:Int)+1)] wr.drew fun e w'=>e=.returned (.string (Ah (kq+1)))∧Hid (Below w.heap.size w w')∧w'.cell? ⟨b,o+q*6+1,none⟩=some (.string (Ah (kq+1)))):=by
    refine hide ((Ac _ (kq+1) _ (by omega) (by omega)).mono ?_)
    rintro e w' ⟨rfl,hb⟩
    have jc:Below w.heap.size w w':=(uh qx).drew.trans (hb.mono (uh qx).size)
    exact⟨rfl,jc,uh qg w' jc⟩
   go_wp2_with fail
   go_region_held3 (fun w'=>w'.cell? ⟨b,o+q*6+1,none⟩=some (.string (Ah (kq+1)))) (go_keep) (first|(go_at_call 33;refine(uh HT1).mono ?_;rintro e w1 ⟨rfl,HB1,d1⟩))
   clear d1
   clear c0 c1
   have c2:=uh HC2 w1 (uh HB1)
   have c3:=uh Io w1 (uh HB1)
   obtain⟨r2,hr2⟩:∃r,kq+3+l3.length=r:=⟨_,rfl⟩
   have Xj:r2<=1000000000:=by omega
   have HR2:=hide hr2
   clear hr2
   go_wp2_with fail
   refine(aav _ _ _ _ (kq+3) r2 lo hi w _ (uh HB1) (by omega) (uh HR2) Xj (uh G3) (by have h9:=uh HJ3;first|exact h9|(refine Held.at h9 ?_;simp;omega)) (uh yt)).mono ?_
   rintro e w2 ⟨rfl,HB2⟩
   clear c2 c3
   have c4:=uh HC4 w2 (uh HB2)
   obtain⟨r3,hr3⟩:∃r,r2+0+l4.length=r:=⟨_,rfl⟩
   have Xk:r3<=1000000000:=by have:=uh HR2;omega
   have HR3:=hide hr3
   clear hr3
   go_wp2_with fail
   refine(ac6 _ _ _ _ (r2+0) r3 lo hi w _ (uh HB2) (by omega) (uh HR3) Xk (uh G4) (by have h9:=uh HJ4;have:=uh HR2;first|exact h9|(refine Held.at h9 ?_;simp;omega)) (uh yt)).mono ?_
   rintro e w3 ⟨rfl,HB3⟩
   clear c4
   have c5:=uh HC5 w3 (uh HB3)
   obtain⟨r4,hr4⟩:∃r,r3+0+l5.length=r:=⟨_,rfl⟩
   have Xl:r4<=1000000000:=by have:=uh HR2;have:=uh HR3;omega
   have HR4:=hide hr4
   clear hr4
   go_wp2_with fail
   refine(akf _ _ _ _ (r3+0) r4 lo hi w _ (uh HB3) (by omega) (uh HR4) Xl (uh G5) (by have h9:=uh HJ5;have:=uh HR2;have:=uh HR3;first|exact h9|(refine Held.at h9 ?_;simp;omega)) (uh yt)).mono ?_
   rintro e w4 ⟨rfl,HB4⟩
   clear c5
   go_wp2
   go_roundg (xs.length-(q+1))
   case measure=>have:=uh HG;omega
   case rel=>exact⟨q+1,r4+0,by omega,rfl,by go_num,by go_num,(by refine hide ?_;have:=uh HST;have:=uh HR2;have:=uh HR3;have:=uh HR4;omega),HB4⟩
  ·have e:q=xs.length:=by omega
   have Dl:lss.length<=q:=by rw[uh Cb];omega
   have hfa:=D8 lss q Dl
   rw[hfa,←uh Ap] at qj
   have HE:Hid (kq=r):=by
    refine hide ?_
    rw[←uh qj,←uh HR]
   clear e Dl hfa
   go_wp2
   go_ret
   exact⟨(by rw[uh HE];rfl),qx⟩
set_option maxHeartbeats 2000000 in
theorem ai6 (xs:List ak) (v:Value) (l:Lf) (K:Int) (k r lo hi:Nat) (w w0:World) (hbw:Below w.heap.size w w0) (hK:K=(k:Int)) (hr:k+l.length=r) (hrb:r<=1000000000) (hv:Dk 7 Uj lo hi w v xs l) (hH:Held k l w) (hhi:hi<=w.heap.size) :
  Calls Tryz.prog 21 #[v,.int .i64 K] w0 (fun e w'=>e=.returned (.int .i64 (r:Int))∧Hid (Below w.heap.size w w')):=by
 subst hK
 obtain⟨a,cap,lss,rfl,hn,hls,hfl,hx⟩:=hv
 unfold Len at hn
 have HX:=hide hx
 have Ap:=hide hfl
 have Cb:=hide hls
 have yt:=hide hhi
 have HR:=hide hr
 have qm:=hide hrb
 have Us:=hide hH
 have Bj:=hide hbw
 clear hx hhi hr hrb hfl hls hH hbw
 go_enter Tryz.func21,Tryz.ntmps21
 go_wp2
 go_loopg [1,5] xs.length (fun g kk i wr=>∃(q kq:Nat),q<=xs.length∧g=xs.length-q∧i=.int .i64 q∧kk=.int .i64 (kq:Int)∧Hid (k+(lss.take q).flatten.length=kq)∧Hid (Below w.heap.size w wr))
 case atStart=>exact⟨0,k,Nat.zero_le _,by omega,rfl,rfl,by simp[Hid],Bj⟩
 case round =>
  obtain⟨q,kq,hq,hg,rfl,rfl,qj,qx⟩:=hrel
  have HG:=hide hg
  clear hg
  by_cases hlt:q<xs.length
  ·have hlq:q<lss.length:=by rw[uh Cb];exact hlt
   obtain⟨b,o,rfl,hel⟩:=uh HX q hlt hlq
   have hst:k+(lss.take (q+1)).flatten.length=kq+lss[q].length:=by
    rw[xw _ _ hlq,List.length_append,←uh qj]
    omega
   have hkb:kq+lss[q].length<=1000000000:=by
    have h1:=F9 lss (q+1)
    have h2:=uh HR
    have h3:=uh qm
    rw[uh Ap] at h2
    omega
   have HH:Held kq lss[q] w:=by
    have h1:=uh Us
    rw[uh Ap] at h1
    exact Tc h1 hlq (uh qj)
   generalize lss[q]=lq at hel hst hkb HH
   generalize xs[q]=x at hel
   obtain⟨hlo,ji,cs,hcs,hc,s0,v1,v2,v3,v4,v5,v6,l1,l2,l3,l4,l5,l6,rfl,g1,g2,g3,g4,g5,g6,hll⟩:=hel
   obtain⟨sa1,sc1,rfl⟩:=g1.shape
   have G1:=hide g1
   obtain⟨sa2,N9,rfl⟩:=g2.shape
   have G2:=hide g2
   obtain⟨Uf,Vj,rfl⟩:=g3.shape
   have G3:=hide g3
   obtain⟨Vk,Vl,rfl⟩:=g4.shape
   have G4:=hide g4
   obtain⟨Vm,Vo,rfl⟩:=g5.shape
   have G5:=hide g5
   obtain⟨sa6,sc6,rfl⟩:=g6.shape
   have G6:=hide g6
   have hlen:lq.length=1+l1.length+l2.length+l3.length+l4.length+l5.length+l6.length:=by simp[hll]<;>omega
   rw[hlen] at hst hkb
   rw[hll] at HH
   have HST:=hide hst
   clear hst hll hlen g1 g2 g3 g4 g5 g6
   have HA:=HH.left.left.left.left.left.left
   have Lc:Hid (∀w',Below w.heap.size w w'->w'.cell? ⟨b,o+q*7,none⟩=some (.string (Ah (kq+0)))):=by
    refine hide (fun w' hb=>(hb.cell (p:=⟨b,_,none⟩) (Nat.lt_of_lt_of_le ji (uh yt))).trans ?_)
    have h9:=HA 0 (by simp)
    simp only[List.getElem_cons_zero,List.getElem_cons_succ,mkV,Nat.mul_one,Nat.add_zero] at h9
    simpa using h9
   have HJ1:=hide HH.left.left.left.left.left.right
   have avj:=(hc 1 (by simp)).1
   simp only[Nat.mul_one,Nat.add_zero,List.getElem_cons_zero,List.getElem_cons_succ] at avj
   have qg:Hid (∀w',Below w.heap.size w w'->w'.cell? ⟨b,o+q*7+1,none⟩=some (.slice sa1 (x.ins).length sc1)):=hide (fun w' hb=>(hb.cell (p:=⟨b,_,none⟩) (Nat.lt_of_lt_of_le ji (uh yt))).trans avj)
   clear avj
   have HJ2:=hide HH.left.left.left.left.right
   have avk:=(hc 2 (by simp)).1
   simp only[Nat.mul_one,Nat.add_zero,List.getElem_cons_zero,List.getElem_cons_succ] at avk
   have HC2:Hid (∀w',Below w.heap.size w w'->w'.cell? ⟨b,o+q*7+2,none⟩=some (.slice sa2 (x.outs).length N9)):=hide (fun w' hb=>(hb.cell (p:=⟨b,_,none⟩) (Nat.lt_of_lt_of_le ji (uh yt))).trans avk)
   clear avk
   have HJ3:=hide HH.left.left.left.right
   have adz:=(hc 3 (by simp)).1
   simp only[Nat.mul_one,Nat.add_zero,List.getElem_cons_zero,List.getElem_cons_succ] at adz
   have Io:Hid (∀w',Below w.heap.size w w'->w'.cell? ⟨b,o+q*7+3,none⟩=some (.slice Uf (x.ay).length Vj)):=hide (fun w' hb=>(hb.cell (p:=⟨b,_,none⟩) (Nat.lt_of_lt_of_le ji (uh yt))).trans adz)
   clear adz
   have HJ4:=hide HH.left.left.right
   have ad1:=(hc 4 (by simp)).1
   simp only[Nat.mul_one,Nat.add_zero,List.getElem_cons_zero,List.getElem_cons_succ] at ad1
   have HC4:Hid (∀w',Below w.heap.size w w'->w'.cell? ⟨b,o+q*7+4,none⟩=some (.slice Vk (x.aj).length Vl)):=hide (fun w' hb=>(hb.cell (p:=⟨b,_,none⟩) (Nat.lt_of_lt_of_le ji (uh yt))).trans ad1)
   clear ad1
   have HJ5:=hide HH.left.right
   have ad2:=(hc 5 (by simp)).1
   simp only[Nat.mul_one,Nat.add_zero,List.getElem_cons_zero,List.getElem_cons_succ] at ad2
   have HC5:Hid (∀w',Below w.heap.size w w'->w'.cell? ⟨b,o+q*7+5,none⟩=some (.slice Vm (x.insts).length Vo)):=hide (fun w' hb=>(hb.cell (p:=⟨b,_,none⟩) (Nat.lt_of_lt_of_le ji (uh yt))).trans ad2)
   clear ad2
   have HJ6:=hide HH.right
   have avl:=(hc 6 (by simp)).1
   simp only[Nat.mul_one,Nat.add_zero,List.getElem_cons_zero,List.getElem_cons_succ] at avl
   have HC6:Hid (∀w',Below w.heap.size w w'->w'.cell? ⟨b,o+q*7+6,none⟩=some (.slice sa6 (x.body).length sc6)):=hide (fun w' hb=>(hb.cell (p:=⟨b,_,none⟩) (Nat.lt_of_lt_of_le ji (uh yt))).trans avl)
   clear avl
   clear HH hc hcs ji hlo HA
   have c0:=uh Lc wr (uh qx)
   have HT1:Hid (Calls Tryz.prog 33 #[.int .i64 ((kq:Int))] wr.drew fun e w'=>e=.returned (.string (Ah (kq+0)))∧Hid (Below w.heap.size w w')∧w'.cell? ⟨b,o+q*7,none⟩=some (.string (Ah (kq+0)))):=by
    refine hide ((Ac _ (kq+0) _ (by omega) (by omega)).mono ?_)
    rintro e w' ⟨rfl,hb⟩
    have jc:Below w.heap.size w w':=(uh qx).drew.trans (hb.mono (uh qx).size)
    exact⟨rfl,jc,uh Lc w' jc⟩
   go_wp2_with fail
   go_region_held3 (fun w'=>w'.cell? ⟨b,o+q*7,none⟩=some (.string (Ah (kq+0)))) (go_keep) (first|(go_at_call 33;refine(uh HT1).mono ?_;rintro e w1 ⟨rfl,HB1,d0⟩))
   clear d0
   clear c0
   have c1:=uh qg w1 (uh HB1)
   obtain⟨r2,hr2⟩:∃r,kq+1+l1.length=r:=⟨_,rfl⟩
   have Xj:r2<=1000000000:=by omega
   have HR2:=hide hr2
   clear hr2
   go_wp2_with fail
   refine(ac7 _ _ _ _ (kq+1) r2 lo hi w _ (uh HB1) (by omega) (uh HR2) Xj (uh G1) (by have h9:=uh HJ1;first|exact h9|(refine Held.at h9 ?_;simp;omega)) (uh yt)).mono ?_
   rintro e w2 ⟨rfl,HB2⟩
   clear c1
   have c2:=uh HC2 w2 (uh HB2)
   obtain⟨r3,hr3⟩:∃r,r2+0+l2.length=r:=⟨_,rfl⟩
   have Xk:r3<=1000000000:=by have:=uh HR2;omega
   have HR3:=hide hr3
   clear hr3
   go_wp2_with fail
   refine(ac7 _ _ _ _ (r2+0) r3 lo hi w _ (uh HB2) (by omega) (uh HR3) Xk (uh G2) (by have h9:=uh HJ2;have:=uh HR2;first|exact h9|(refine Held.at h9 ?_;simp;omega)) (uh yt)).mono ?_
   rintro e w3 ⟨rfl,HB3⟩
   clear c2
   have c3:=uh Io w3 (uh HB3)
   obtain⟨r4,hr4⟩:∃r,r3+0+l3.length=r:=⟨_,rfl⟩
   have Xl:r4<=1000000000:=by have:=uh HR2;have:=uh HR3;omega
   have HR4:=hide hr4
   clear hr4
   go_wp2_with fail
   refine(aav _ _ _ _ (r3+0) r4 lo hi w _ (uh HB3) (by omega) (uh HR4) Xl (uh G3) (by have h9:=uh HJ3;have:=uh HR2;have:=uh HR3;first|exact h9|(refine Held.at h9 ?_;simp;omega)) (uh yt)).mono ?_
   rintro e w4 ⟨rfl,HB4⟩
   clear c3
   have c4:=uh HC4 w4 (uh HB4)
   obtain⟨r5,N8⟩:∃r,r4+0+l4.length=r:=⟨_,rfl⟩
   have akc:r5<=1000000000:=by have:=uh HR2;have:=uh HR3;have:=uh HR4;omega
   have Dz:=hide N8
   clear N8
   go_wp2_with fail
   refine(afd _ _ _ _ (r4+0) r5 lo hi w _ (uh HB4) (by omega) (uh Dz) akc (uh G4) (by have h9:=uh HJ4;have:=uh HR2;have:=uh HR3;have:=uh HR4;first|exact h9|(refine Held.at h9 ?_;simp;omega)) (uh yt)).mono ?_
   rintro e w5 ⟨rfl,zo⟩
   clear c4
   have c5:=uh HC5 w5 (uh zo)
   obtain⟨r6,hr6⟩:∃r,r5+0+l5.length=r:=⟨_,rfl⟩
   have akd:r6<=1000000000:=by have:=uh HR2;have:=uh HR3;have:=uh HR4;have:=uh Dz;omega
   have Um:=hide hr6
   clear hr6
   go_wp2_with fail
   refine(afd _ _ _ _ (r5+0) r6 lo hi w _ (uh zo) (by omega) (uh Um) akd (uh G5) (by have h9:=uh HJ5;have:=uh HR2;have:=uh HR3;have:=uh HR4;have:=uh Dz;first|exact h9|(refine Held.at h9 ?_;simp;omega)) (uh yt)).mono ?_
   rintro e w6 ⟨rfl,Oa⟩
   clear c5
   have c6:=uh HC6 w6 (uh Oa)
   obtain⟨r7,Qr⟩:∃r,r6+0+l6.length=r:=⟨_,rfl⟩
   have ake:r7<=1000000000:=by have:=uh HR2;have:=uh HR3;have:=uh HR4;have:=uh Dz;have:=uh Um;omega
   have Ve:=hide Qr
   clear Qr
   go_wp2_with fail
   refine(ao9 _ _ _ _ (r6+0) r7 lo hi w _ (uh Oa) (by omega) (uh Ve) ake (uh G6) (by have h9:=uh HJ6;have:=uh HR2;have:=uh HR3;have:=uh HR4;have:=uh Dz;have:=uh Um;first|exact h9|(refine Held.at h9 ?_;simp;omega)) (uh yt)).mono ?_
   rintro e w7 ⟨rfl,Wh⟩
   clear c6
   go_wp2
   go_roundg (xs.length-(q+1))
   case measure=>have:=uh HG;omega
   case rel=>exact⟨q+1,r7+0,by omega,rfl,by go_num,by go_num,(by refine hide ?_;have:=uh HST;have:=uh HR2;have:=uh HR3;have:=uh HR4;have:=uh Dz;have:=uh Um;have:=uh Ve;omega),Wh⟩
  ·have e:q=xs.length:=by omega
   have Dl:lss.length<=q:=by rw[uh Cb];omega
   have hfa:=D8 lss q Dl
   rw[hfa,←uh Ap] at qj
   have HE:Hid (kq=r):=by
    refine hide ?_
    rw[←uh qj,←uh HR]
   clear e Dl hfa
   go_wp2
   go_ret
   exact⟨(by rw[uh HE];rfl),qx⟩
end Go.Proofs.YtlcgnbcgmljpaaaGreat
