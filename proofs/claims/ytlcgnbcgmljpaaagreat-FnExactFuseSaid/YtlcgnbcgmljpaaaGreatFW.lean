import Derived.Test.YtlcgnbcgmljpaaaGreatMQ3
import Derived.Test.YtlcgnbcgmljpaaaGreatMXA
import Derived.Test.YtlcgnbcgmljpaaaGreatMXH
import Derived.Test.YtlcgnbcgmljpaaaGreatMkA
import Derived.Test.YtlcgnbcgmljpaaaGreatStepAll
namespace Go.Proofs.YtlcgnbcgmljpaaaGreat
open Go.RowKit
set_option linter.unusedSimpArgs false
set_option linter.unusedVariables false
def SpP (ns:List ak) (w:World) (e:Ending) (w':World):Prop:=∃v,e=.returned (.agg #[v])∧bf 7 160 ni 0 w' v ns∧Below w.heap.size w w'
def fS (f:dh->Nat) (l:List dh):Nat:=(l.map f).sum
theorem ai2 (f:dh->Nat) (a b:List dh):fS f (a++b)=fS f a+fS f b:=by simp[fS]
theorem Y8 (f:dh->Nat) (x:dh) (b:List dh):fS f (x::b)=f x+fS f b:=by simp[fS]
theorem aw2 (f:dh->Nat):∀(r:BF) (s:dh) (a b:BF),fS f (I5 s a b r).flat<=fS f (BF.node s a b r).flat:=by
 intro r
 induction r using BF.ind with
 | nil=>intro s a b;exact Nat.le_refl _
 | node s' a' b' r' iha ihb ihr =>
  intro s a b
  rw[I5.eq_2 s a b s' a' b' r']
  by_cases hj:Ko s s'=true
  ·obtain⟨hk,hk',_⟩:=(Rn s s').1 hj
   rw[if_pos hj]
   have k2:=ihr s (a.app a') (b.app b')
   rw[jd,if_pos hk,Aj,Aj] at k2
   rw[jd s,if_pos hk,jd s',if_pos hk']
   simp only[ai2,Y8] at k2 ⊢
   omega
  ·rw[if_neg hj]
   have k2:=ihr s' a' b'
   rw[jd s,jd s]
   split
   ·simp only[ai2,Y8] at k2 ⊢
    omega
   ·simp only[Y8] at k2 ⊢
    omega
theorem azs (f:dh->Nat) (t:BF):fS f (jn t).flat<=fS f t.flat:=by
 cases t using BF.inv with
 | nil=>exact Nat.le_refl _
 | node s a b r=>exact aw2 f r s a b
theorem atm (f:dh->Nat) {g:BF->BF} (hg:∀x:BF,fS f (g x).flat<=fS f x.flat) (t:BF):fS f (kids g t).flat<=fS f t.flat:=by
 induction t using BF.ind with
 | nil=>exact Nat.le_refl _
 | node s a b r iha ihb ihr =>
  have ha:=hg a
  have hb:=hg b
  show fS f (BF.node s (g a) (g b) (kids g r)).flat<=_
  rw[jd,jd]
  split
  ·simp only[ai2,Y8]
   omega
  ·simp only[Y8]
   omega
theorem aw3 (f:dh->Nat):∀(n:Nat) (t:BF),fS f (Am n t).flat<=fS f t.flat:=by
 intro n
 induction n with
 | zero=>intro t;exact Nat.le_refl _
 | succ n ih =>
  intro t
  exact Nat.le_trans (atm f ih (jn t)) (azs f t)
theorem ach {α:Type} (f:α->Nat) (xs:List α):qo f xs xs.length=(xs.map f).sum:=by unfold qo;rw[List.take_length]
theorem azt (k:ak) (t:BF) (h:t.flat=k.body):Dh (Jf k t)<=Dh k:=by
 have h9:=aw3 O7 (t.depth+1) t
 rw[h] at h9
 unfold fS at h9
 unfold Dh Jf
 simp only[ach]
 omega
theorem aw4 (ks:List ak) (ts:List BF) (hts:(Gv ks&&decide (1<=ks.length))=true->ts.length=ks.length∧∀i (h1:i<ts.length) (h2:i<ks.length),ts[i].wf∧ts[i].flat=ks[i].body∧ts[i].flat.length<=1000000):qo Dh (H8 ks ts) (H8 ks ts).length<=qo Dh ks ks.length:=by
 unfold H8
 split
 ·rename_i h
  obtain⟨hl,hi⟩:=hts h
  rw[ach,ach]
  have h2:∀i (h1:i<ts.length) (h2:i<ks.length),ts[i].flat=ks[i].body:=fun i h1 h2=>(hi i h1 h2).2.1
  clear hi h hts hl
  induction ks generalizing ts with
  | nil=>simp
  | cons k ks ih =>
   cases ts with
   | nil=>simp
   | cons t ts =>
    have h3:=ih ts (fun i h4 h5=>h2 (i+1) (by simpa using h4) (by simpa using h5))
    have h4:=azt k t (h2 0 (by simp) (by simp))
    simp only[List.zipWith_cons_cons,List.map_cons,List.sum_cons]
    omega
 ·simp[qo]
theorem Dk.len {α:Type} {sz:Nat} {R:Nat->Nat->World->Nat->Nat->List Value->α->Lf->Prop} {f:α->Nat} (hR:∀lo hi w b o cs x l,R lo hi w b o cs x l->l.length=f x) {lo hi:Nat} {w:World} {v:Value} {xs:List α} {l:Lf} (h:Dk sz R lo hi w v xs l):l.length=qo f xs xs.length:=by
 obtain⟨a,cap,lss,h1,h2,h3,rfl,h5⟩:=h
 have h9:lss.map List.length=xs.map f:=by
  refine List.ext_getElem (by simp[h3]) (fun i g1 g2=>?_)
  rw[List.getElem_map,List.getElem_map]
  obtain⟨b,o,_,_,_,cs,_,_,hr⟩:=h5 i (by simpa using g2) (by simpa using g1)
  exact hR _ _ _ _ _ _ _ _ hr
 rw[ach,←h9,List.length_flatten]
theorem ai3 (lo hi:Nat) (w:World) (b o:Nat) (cs:List Value) (x:ByteArray) (l:Lf) (h:Z7 lo hi w b o cs x l):l.length=mStr x:=by rw[h.2];rfl
theorem ai4 (lo hi:Nat) (w:World) (b o:Nat) (cs:List Value) (x:Int) (l:Lf) (h:Z8 lo hi w b o cs x l):l.length=Lp x:=by rw[h.2];rfl
theorem agq (lo hi:Nat) (w:World) (b o:Nat) (cs:List Value) (x:iw) (l:Lf) (h:Vr lo hi w b o cs x l):l.length=Ir x:=by rw[h.2];rfl
theorem agr (lo hi:Nat) (w:World) (b o:Nat) (cs:List Value) (x:gy) (l:Lf) (h:Vs lo hi w b o cs x l):l.length=Iu x:=by rw[h.2];rfl
theorem anr (lo hi:Nat) (w:World) (b o:Nat) (cs:List Value) (x:List iw) (l:Lf) (h:W9 lo hi w b o cs x l):l.length=Je x:=by
 obtain⟨v,l0,_,h1,rfl⟩:=h
 exact h1.len agq
theorem atn (lo hi:Nat) (w:World) (b o:Nat) (cs:List Value) (x:dh) (l:Lf) (h:adh lo hi w b o cs x l):l.length=O7 x:=by
 obtain⟨_,_,_,_,_,_,l3,l4,l5,_,h3,h4,h5,rfl⟩:=h
 simp only[List.length_append,List.length_cons,List.length_nil,h3.len ai3,h4.len agq,h5.len anr]
 unfold O7
 omega
theorem ant (lo hi:Nat) (w:World) (b o:Nat) (cs:List Value) (x:ak) (l:Lf) (h:Uj lo hi w b o cs x l):l.length=Dh x:=by
 obtain⟨_,_,_,_,_,_,_,l1,l2,l3,l4,l5,l6,_,h1,h2,h3,h4,h5,h6,rfl⟩:=h
 simp only[List.length_append,List.length_cons,List.length_nil,h1.len agr,h2.len agr,h3.len ai3,h4.len ai4,h5.len ai4,h6.len atn]
 unfold Dh
 omega
set_option maxHeartbeats 1000000 in
theorem ahh (ks:List ak) (v:Value) (l:Lf) (lo hi r:Nat) (w:World) (hv:Dk 7 Uj lo hi w v ks l) (hhi:hi<=w.heap.size) (hr:1+l.length=r) (hb:r<=1000000000) :
  Calls Tryz.prog 9 #[.agg #[v],.int .i64 1] w (Uk lo hi 1 r l w):=by
 obtain⟨a,cap,rfl⟩:=hv.shape
 have hA:Below w.heap.size w (w.alloc (.cells #[.slice a ks.length cap] 28)):=(Below.refl _ _).alloc (Nat.le_refl _) _
 have hM:Mk lo hi w (w.alloc (.cells #[.slice a ks.length cap] 28)):=Mk.of_below hA hhi
 have HX:Hid (X lo hi [] w (w.alloc (.cells #[.slice a ks.length cap] 28))):=hide (X.of_below hA hhi)
 have HC:=hide (ai5 ks _ l 1 1 r lo hi _ rfl hr hb (hv.stays Yd hM) (Nat.le_trans hhi hM.size))
 clear hv hhi hb hA hM hr
 go_enter Tryz.func9,Tryz.ntmps9
 go_wp2_with fail
 refine(uh HC).mono ?_
 rintro e w1 ⟨rfl,hm⟩
 have H1:=hide ((uh HX).trans hm)
 clear hm
 go_wp2
 go_ret
 exact⟨rfl,uh H1⟩
set_option maxHeartbeats 1000000 in
theorem ahi (ks:List ak) (v:Value) (l:Lf) (lo hi r:Nat) (w:World) (hv:Dk 7 Uj lo hi w v ks l) (hH:Held 1 l w) (hhi:hi<=w.heap.size) (hr:1+l.length=r) (hb:r<=1000000000) :
  Calls Tryz.prog 10 #[.agg #[v],.int .i64 1] w (fun e w'=>e=.returned (.int .i64 (r:Int))∧Hid (Below w.heap.size w w')):=by
 obtain⟨a,cap,rfl⟩:=hv.shape
 have hA:Below w.heap.size w (w.alloc (.cells #[.slice a ks.length cap] 28)):=(Below.refl _ _).alloc (Nat.le_refl _) _
 have HC:=hide (ai6 ks _ l 1 1 r lo hi w _ hA rfl hr hb hv hH hhi)
 have m0:decide ((r:Int)<0)=false:=decide_eq_false (by omega)
 clear hv hhi hb hA hr hH
 go_enter Tryz.func10,Tryz.ntmps10
 go_wp2_with fail
 refine(uh HC).mono ?_
 rintro e w1 ⟨rfl,HB⟩
 go_wp2
 go_ret
 exact⟨rfl,HB⟩
theorem aqd (v:Int) (w:World) :
  Calls Tryz.prog 49 #[.int .i64 v] w fun e w'=>e=.returned (.int .i64 (IntKind.i32.wrap v))∧w'=w:=by
 go_enter Tryz.func49,Tryz.ntmps49
 go_wp2
 go_ret
 exact⟨Nq (by unfold wrap64 wrap32;rw[IntKind.wrap_i32];omega),rfl⟩
end Go.Proofs.YtlcgnbcgmljpaaaGreat
