import Derived.Test.YtflcnhfakcgkeaaGreatOD1
import Derived.Test.YtflcnhfakcgkeaaGreatCS45
import Derived.Test.YtflcnhfakcgkeaaGreatApp
import Derived.Deep.QuietTactic
import Derived.BigQuiet
namespace Go.Proofs.YtflcnhfakcgkeaaGreat
open Go.RowKit
set_option linter.unusedSimpArgs false
set_option linter.unusedVariables false
def Ic (ns:List ay) (k:Int):List Int:=if (qp ns).1=0∧0<=k∧k<(ns.length:Int) then (match ns[k.toNat]? with|some x=>su x x.eqs.length|none=>[]) else []
def Qo (xs:List Int) (w:World) (e:Ending) (w':World):Prop:=∃r,e=.returned r∧bf 1 8 Oo 0 w' r xs∧Below w.heap.size w w'
set_option maxHeartbeats 1000000 in
theorem abe (ns:List ay) (v:Value) (w:World) (h1:bf 5 112 o7 0 w v ns) (hsm:∀n,n∈ns->n.ins.length+n.outs.length+n.vars.length<=1048576) :
  Calls Tryz.prog 14 #[.agg #[v]] w (Ans (.bool ((qp ns).1 == 0)) w):=by
 obtain⟨b0,c0,rfl⟩:=h1.shape
 have B0:=hide ((Below.refl w.heap.size w).alloc (Nat.le_refl _) (.cells #[.slice b0 ns.length c0] 30))
 have HC:=hide (ah4 ns _ _ (h1.stays jk (uh B0)) hsm)
 have k0:=(jd w #[.slice b0 ns.length c0] 30).cell (i:=0) (v:=.slice b0 ns.length c0) rfl
 clear h1 hsm
 generalize qp ns=R at *
 go_enter Tryz.func14,Tryz.ntmps14
 go_wp2_with fail
 refine(uh HC).mono ?_
 rintro e w1 ⟨rfl,hb1⟩
 have BB:Hid (Below w.heap.size w w1):=(uh B0).trans (hb1.mono (uh B0).size)
 clear hb1 k0
 go_wp2
 go_ret
 exact⟨rfl,uh BB⟩
set_option maxHeartbeats 1000000 in
theorem aq0 (ns:List ay) (v:Value) (w:World) (h1:bf 5 112 o7 0 w v ns) :
  Calls Tryz.prog 17 #[.agg #[v]] w (Ans (.bool ((qp ns).1 == 0)) w):=by
 obtain⟨b0,c0,rfl⟩:=h1.shape
 have B0:=hide ((Below.refl w.heap.size w).alloc (Nat.le_refl _) (.cells #[.slice b0 ns.length c0] 30))
 have HC:=hide (aji ns _ _ (h1.stays jk (uh B0)))
 have k0:=(jd w #[.slice b0 ns.length c0] 30).cell (i:=0) (v:=.slice b0 ns.length c0) rfl
 clear h1
 generalize qp ns=R at *
 go_enter Tryz.func17,Tryz.ntmps17
 go_wp2_with fail
 refine(uh HC).mono ?_
 rintro e w1 ⟨rfl,hb1⟩
 have BB:Hid (Below w.heap.size w w1):=(uh B0).trans (hb1.mono (uh B0).size)
 clear hb1 k0
 go_wp2
 go_ret
 exact⟨rfl,uh BB⟩
theorem akf {ns:List ay} {k:Int} (h:¬((qp ns).1=0∧0<=k∧k<(ns.length:Int))):Ic ns k=[]:=by
 unfold Ic
 rw[if_neg h]
theorem agv {ns:List ay} {k:Nat} (h:(qp ns).1=0) (hk:k<ns.length):Ic ns (k:Int)=su ns[k] ns[k].eqs.length:=by
 unfold Ic
 rw[if_pos ⟨h,by omega,by omega⟩,Int.toNat_natCast,List.getElem?_eq_getElem hk]
theorem auj (x:ay) (d:List Int) (h:x.eqs.length<=500):I64 (pick x d):=by
 have:=axd x d
 unfold I64
 omega
theorem adr (x:ay) (h:x.eqs.length<=500):∀k z,z∈su x k->I64 z:=by
 intro k
 induction k with
 | zero=>intro z hz;cases hz
 | succ k ih =>
  intro z hz
  unfold su at hz
  rcases List.mem_append.1 hz with h9|h9
  ·exact ih z h9
  ·rw[List.mem_singleton] at h9
   rw[h9]
   exact auj _ _ h
theorem iw.ints {w:World} {base:Nat} {v:Value} {xs:List Int} (h:iw mg w base v xs) (hx:∀x,x∈xs->I64 x) (hn:xs.length<=1000000):bf 1 8 Oo 0 w v xs :=
 h.at (R:=Oo) (fun x hm=>⟨rfl,hx x hm⟩) (by show xs.length*8<=_;omega)
structure a1i (x:ay) (xn:ByteArray) (b1 b2 b3:Option Addr) (n1 n2 n3 c1 c2 c3 eb eo N c4:Nat) (w:World):Prop where
 len:x.eqs.length=N
 one:1<=N
 few:N<=500
 eq:∀en,en<N->∃l1 l2 l3 e1 e2 e3 zn zx zy Hw,(∀w',Below w.heap.size w w'->w'.cell? ⟨eb,eo+en*4,none⟩=some (.slice l1 e1 zn)∧w'.cell? ⟨eb,eo+en*4+1,none⟩=some (.slice l2 e2 zx)∧w'.cell? ⟨eb,eo+en*4+2,none⟩=some (.string Hw)∧w'.cell? ⟨eb,eo+en*4+3,none⟩=some (.slice l3 e3 zy)) ∧
  ∀w',Below w.heap.size w w'->∀(d:List Int) (dv:Value),bf 1 8 Oo 0 w' dv d->d.length<=500->Calls Tryz.prog 15 #[.agg #[.string xn,.slice b1 n1 c1,.slice b2 n2 c2,.slice b3 n3 c3,.slice (some ⟨eb,eo,none⟩) N c4],.agg #[.slice l1 e1 zn,.slice l2 e2 zx,.string Hw,.slice l3 e3 zy],dv] w' (Ans (.bool (match x.eqs[en]? with|some q=>Ze x q d|none=>false)) w')
theorem a1j (x:ay) (d:List Int) (e:Nat):Nz x d e=(!Gn d (e:Int)&&(match x.eqs[e]? with|some q=>Ze x q d|none=>false)):=by
 unfold Nz
 cases x.eqs[e]? with
 | none=>simp
 | some q=>rfl
set_option maxRecDepth 20000 in
set_option maxHeartbeats 8000000 in
theorem akg (ns:List ay) (v:Value) (k:Int) (w:World) (h1:bf 5 112 o7 0 w v ns) (hsm:∀n,n∈ns->n.ins.length+n.outs.length+n.vars.length<=1048576) (hno:¬((qp ns).1=0∧0<=k∧k<(ns.length:Int))) :
  Calls Tryz.prog 5 #[.agg #[v],.int .i64 k] w (Qo [] w):=by
 obtain⟨b0,c0,rfl⟩:=h1.shape
 have n1:=h1.len'
 have hbb:Below w.heap.size w ((w.alloc (.cells #[.slice b0 ns.length c0] 30)).alloc (.cells #[] 3)):=((Below.refl _ _).alloc (Nat.le_refl _) _).alloc (by simp) _
 have hO:iw mg ((w.alloc (.cells #[.slice b0 ns.length c0] 30)).alloc (.cells #[] 3)) (w.heap.size+1) (.slice (some ⟨w.heap.size+1,0,none⟩) 0 0) []:=by
  have:=iw.start (E:=mg) (w.alloc (.cells #[.slice b0 ns.length c0] 30)) (w.heap.size+1) (by simp)
  rwa[show (w.alloc (.cells #[.slice b0 ns.length c0] 30)).heap.size=w.heap.size+1 from by simp] at this
 have hP:dh ((w.alloc (.cells #[.slice b0 ns.length c0] 30)).alloc (.cells #[] 3)) w.heap.size 30 #[.slice b0 ns.length c0]:=(jd w _ _).below ((Below.refl _ _).alloc (Nat.le_refl _) _) (by simp)
 have k0:=hP.cell (i:=0) (v:=.slice b0 ns.length c0) rfl
 have HC:=hide (abe ns _ ((w.alloc (.cells #[.slice b0 ns.length c0] 30)).alloc (.cells #[] 3)) (h1.stays jk hbb) hsm)
 have HB:=hide hbb
 have HO:=hide hO
 have HP:=hide hP
 have jo:=hide hno
 clear h1 hsm hbb hO hP hno
 generalize qp ns=R at *
 cases hcb:(R.1 == 0)
 ·rw[hcb] at HC
  clear hcb jo
  go_enter Tryz.func5,Tryz.ntmps5
  go_wp2_with fail
  refine(uh HC).mono ?_
  rintro e w1 ⟨rfl,hb1⟩
  have gq:Hid (Qo [] w (.returned (.slice (some ⟨w.heap.size+1,0,none⟩) 0 0)) w1):=⟨_,rfl,((uh HO).below hb1).ints (fun x hx=>by cases hx) (by simp),(uh HB).trans (hb1.mono (uh HB).size)⟩
  clear hb1 k0
  go_wp2
  go_ret
  exact uh gq
 ·rw[hcb] at HC
  have hR:R.1=0:=by simpa using hcb
  clear hcb
  by_cases hk:k<0
  ·go_enter Tryz.func5,Tryz.ntmps5
   go_wp2_with fail
   refine(uh HC).mono ?_
   rintro e w1 ⟨rfl,hb1⟩
   have gq:Hid (Qo [] w (.returned (.slice (some ⟨w.heap.size+1,0,none⟩) 0 0)) w1):=⟨_,rfl,((uh HO).below hb1).ints (fun x hx=>by cases hx) (by simp),(uh HB).trans (hb1.mono (uh HB).size)⟩
   clear hb1 k0
   go_wp2
   go_ret
   exact uh gq
  ·have hk2:(ns.length:Int)<=k:=by
    refine Classical.byContradiction fun h=>uh jo ⟨hR,by omega,by omega⟩
   have d1:decide (k≥(ns.length:Int))=true:=decide_eq_true hk2
   go_enter Tryz.func5,Tryz.ntmps5
   go_wp2_with fail
   refine(uh HC).mono ?_
   rintro e w1 ⟨rfl,hb1⟩
   have k1:=((uh HP).below hb1 (uh HP).lt).cell (i:=0) (v:=.slice b0 ns.length c0) rfl
   have gq:Hid (Qo [] w (.returned (.slice (some ⟨w.heap.size+1,0,none⟩) 0 0)) w1):=⟨_,rfl,((uh HO).below hb1).ints (fun x hx=>by cases hx) (by simp),(uh HB).trans (hb1.mono (uh HB).size)⟩
   clear hb1 k0
   go_wp2
   go_ret
   exact uh gq
set_option maxRecDepth 20000 in
set_option maxHeartbeats 8000000 in
theorem ahb (ns:List ay) (v:Value) (k:Nat) (hk:k<ns.length) (w:World) (h1:bf 5 112 o7 0 w v ns) (hsm:∀n,n∈ns->n.ins.length+n.outs.length+n.vars.length<=1048576) (hc:(qp ns).1=0)
  (x:ay) (xn:ByteArray) (b1 b2 b3:Option Addr) (n1 n2 n3 c1 c2 c3 eb eo N c4 bp op cp:Nat) (hpe:v=.slice (some ⟨bp,op,none⟩) ns.length cp) (hcells:∀w',Below w.heap.size w w'->w'.cell? ⟨bp,op+k*5,none⟩=some (.string xn)∧w'.cell? ⟨bp,op+k*5+1,none⟩=some (.slice b1 n1 c1)∧w'.cell? ⟨bp,op+k*5+2,none⟩=some (.slice b2 n2 c2)∧w'.cell? ⟨bp,op+k*5+3,none⟩=some (.slice b3 n3 c3)∧w'.cell? ⟨bp,op+k*5+4,none⟩=some (.slice (some ⟨eb,eo,none⟩) N c4)) (hin:a1i x xn b1 b2 b3 n1 n2 n3 c1 c2 c3 eb eo N c4 w) :
  Calls Tryz.prog 5 #[.agg #[v],.int .i64 (k:Int)] w (Qo (su x N) w):=by
 obtain⟨b0,c0,hv0⟩:=h1.shape
 have hn9:=h1.len'
 rw[hpe] at hv0
 simp only[Value.slice.injEq] at hv0
 obtain⟨hv1,_,hv2⟩:=hv0
 subst hpe
 have hbb:Below w.heap.size w ((w.alloc (.cells #[.slice (some ⟨bp,op,none⟩) ns.length cp] 30)).alloc (.cells #[] 3)):=((Below.refl _ _).alloc (Nat.le_refl _) _).alloc (by simp) _
 have hO:iw mg ((w.alloc (.cells #[.slice (some ⟨bp,op,none⟩) ns.length cp] 30)).alloc (.cells #[] 3)) (w.heap.size+1) (.slice (some ⟨w.heap.size+1,0,none⟩) 0 0) []:=by
  have:=iw.start (E:=mg) (w.alloc (.cells #[.slice (some ⟨bp,op,none⟩) ns.length cp] 30)) (w.heap.size+1) (by simp)
  rwa[show (w.alloc (.cells #[.slice (some ⟨bp,op,none⟩) ns.length cp] 30)).heap.size=w.heap.size+1 from by simp] at this
 have hP:dh ((w.alloc (.cells #[.slice (some ⟨bp,op,none⟩) ns.length cp] 30)).alloc (.cells #[] 3)) w.heap.size 30 #[.slice (some ⟨bp,op,none⟩) ns.length cp]:=(jd w _ _).below ((Below.refl _ _).alloc (Nat.le_refl _) _) (by simp)
 have k0:=hP.cell (i:=0) (v:=.slice (some ⟨bp,op,none⟩) ns.length cp) rfl
 have HC:=hide (abe ns _ ((w.alloc (.cells #[.slice (some ⟨bp,op,none⟩) ns.length cp] 30)).alloc (.cells #[] 3)) (h1.stays jk hbb) hsm)
 rw[hc] at HC
 have HB:=hide hbb
 have HO:=hide hO
 have HP:=hide hP
 have Rq:=hide hcells
 have HIN:=hide hin
 have d0:decide ((k:Int)<0)=false:=decide_eq_false (by omega)
 have d1:decide (ns.length<=k)=false:=decide_eq_false (by omega)
 have Ec:(k:Int)<(ns.length:Int):=by omega
 have hN5:=hin.few
 clear h1 hsm hbb hO hP hcells hin hc hv1 hv2
 go_enter Tryz.func5,Tryz.ntmps5
 go_wp2_with fail
 refine(uh HC).mono ?_
 rintro e w1 ⟨rfl,hb1⟩
 have k1:=((uh HP).below hb1 (uh HP).lt).cell (i:=0) (v:=.slice (some ⟨bp,op,none⟩) ns.length cp) rfl
 have HB1:Hid (Below w.heap.size w w1):=(uh HB).trans (hb1.mono (uh HB).size)
 have HO1:=hide ((uh HO).below hb1)
 obtain⟨m0,m1,m2,m3,m4⟩:=uh Rq w1 (uh HB1)
 have hal:Below w1.heap.size w1 (w1.alloc (.cells #[.string xn,.slice b1 n1 c1,.slice b2 n2 c2,.slice b3 n3 c3,.slice (some ⟨eb,eo,none⟩) N c4] 42)):=(Below.refl _ _).alloc (Nat.le_refl _) _
 have HB2:Hid (Below w.heap.size w (w1.alloc (.cells #[.string xn,.slice b1 n1 c1,.slice b2 n2 c2,.slice b3 n3 c3,.slice (some ⟨eb,eo,none⟩) N c4] 42))):=(uh HB1).trans (hal.mono (uh HB1).size)
 have Ky:=hide ((uh HO1).below hal)
 have Gy:=hide (jd w1 #[.string xn,.slice b1 n1 c1,.slice b2 n2 c2,.slice b3 n3 c3,.slice (some ⟨eb,eo,none⟩) N c4] 42)
 have hz1:w.heap.size+2<=w1.heap.size:=by have:=hb1.size;simpa using this
 clear hb1 k0 hal HC
 go_wp2
 clear k1 m0 m1 m2 m3 m4
 go_loopg [5] N (fun g dv wr=>∃(t:Nat),t<=N∧g=N-t∧iw mg wr (w.heap.size+1) dv (su x t)∧Below w.heap.size w wr∧dh wr w1.heap.size 42 #[.string xn,.slice b1 n1 c1,.slice b2 n2 c2,.slice b3 n3 c3,.slice (some ⟨eb,eo,none⟩) N c4])
 case atStart=>exact⟨0,Nat.zero_le _,by omega,uh Ky,uh HB2,uh Gy⟩
 case round =>
  obtain⟨t,ht,hg,hown,hbl,hnd⟩:=hrel
  rename World=>wO
  obtain⟨da,auk,hdv⟩:=hown.slice
  subst hdv
  have HG:=hide hg
  have hdl:=Jw x t
  rw[hdl] at hown
  have HOWN:=hide hown
  have yj:=hide hbl
  have Lr:=hide hnd
  have z4:=hnd.cell (i:=4) (v:=.slice (some ⟨eb,eo,none⟩) N c4) rfl
  rw[hdl]
  clear hg hown hbl hnd hdl Ky HB2 Gy
  by_cases hlt:t<N
  case neg =>
   have hte:t=N:=by omega
   have htI:¬(t:Int)<(N:Int):=by omega
   have gq:Hid (Qo (su x N) w (.returned (.slice da t auk)) wO):=by
    have h9:=(uh HOWN).ints (adr x (by have:=(uh HIN).len;omega) t) (by rw[Jw];omega)
    subst hte
    exact hide ⟨_,rfl,h9,uh yj⟩
   clear hte hlt
   go_wp2
   go_ret
   exact uh gq
  have htI:(t:Int)<(N:Int):=by omega
  have HSL:Hid (∀w',Below wO.heap.size wO w'->bf 1 8 Oo 0 w' (.slice da t auk) (su x t)):=fun w' hb=>by
   exact((uh HOWN).below hb).ints (adr x (by have:=(uh HIN).len;omega) t) (by rw[Jw];omega)
  have HDL:Hid ((su x t).length=t):=Jw x t
  have HOS:Hid (su x (t+1)=su x t++[Ie (Nz x (su x t)) N N]):=by
   show su x (t+1)=_
   rw[su]
   unfold pick
   rw[(uh HIN).len]
  generalize su x t=d at *
  go_wp2
  go_loopg [7,8] N (fun g bv ev wr=>∃(j:Nat),j<=N∧g=N-j∧ev=.int .i64 ((N:Int)-1-(j:Int))∧bv=.int .i64 (Ie (Nz x d) N j)∧Below wO.heap.size wO wr)
  case atStart=>exact⟨0,Nat.zero_le _,by omega,by go_num,rfl,Below.refl _ _⟩
  case round =>
   obtain⟨j,hj,hgj,rfl,rfl,hbj⟩:=hrel
   rename World=>wM
   have Oe:=hide hgj
   have Lj:=hide hbj
   clear hgj z4
   by_cases hlj:j<N
   case neg =>
    have hje:j=N:=by omega
    have hjI:¬((0:Int)<=(N:Int)-1-(j:Int)):=by omega
    have hal:Below wM.heap.size wM (wM.alloc (.cells #[.int .i64 (Ie (Nz x d) N N)] 3)):=(Below.refl _ _).alloc (Nat.le_refl _) _
    have U8:=hide ((uh HOWN).below (hbj.trans (hal.mono hbj.size)))
    have Az:Hid (Below w.heap.size w (wM.alloc (.cells #[.int .i64 (Ie (Nz x d) N N)] 3))):=(uh yj).trans ((hbj.trans (hal.mono hbj.size)).mono (uh yj).size)
    have HNM:=hide ((uh Lr).below (hbj.trans (hal.mono hbj.size)) (uh Lr).lt)
    have hzM:w.heap.size+1<=wM.heap.size:=Nat.le_trans (by have:=(uh Lr).lt;omega) hbj.size
    rw[hje]
    clear hal hbj hlj hjI
    have hjI:¬((0:Int)<=(N:Int)-1-(N:Int)):=by omega
    clear hje
    go_wp2_with (at_builtin;go_must (refine Du mg _ rfl _ _ rfl (w.heap.size+1) _ d rfl (uh U8) wM.heap.size (Ie (Nz x d) N N) rfl (fun j u hu=>by rw[World.cell?_alloc_at _ _ _ _ rfl];simpa[mg] using hu) (by have:=uh HDL;simp[mg];omega) (by simp;omega) ?_))
    intro v9 w9 Jp Ku
    have HO9:=hide Jp
    have HB9:=hide ((uh U8).grown (uh Az) Ku (by simp;omega) (by omega))
    have HN9:=hide ((uh HNM).grown Ku (iw.Dn (uh U8) (uh HNM) (by decide)).symm)
    obtain⟨va,vc,rfl⟩:=Jp.slice
    clear Jp Ku
    go_wp2
    go_roundg (N-(t+1))
    case measure =>
     have h9:=uh HG
     omega
    case rel=>exact⟨t+1,hlt,rfl,by rw[uh HOS];exact uh HO9,uh HB9,uh HN9⟩
   obtain⟨en,hen⟩:∃en:Nat,en=N-1-j:=⟨_,rfl⟩
   have a3j:en<N:=by omega
   have heI:(N:Int)-1-(j:Int)=(en:Int):=by omega
   have hjI:(0:Int)<=(en:Int):=by omega
   have Q7:Hid (Ie (Nz x d) N (j+1)=if Nz x d en then (en:Int) else Ie (Nz x d) N j):=by
    rw[hen]
    exact hide rfl
   have xw:Hid ((en:Int)-1=(N:Int)-1-((j+1:Nat):Int)):=by
    refine hide ?_
    omega
   rw[heI]
   have HFR:=hide (a1j x d en)
   obtain⟨l1,l2,l3,e1,e2,e3,zn,zx,zy,Hw,heq,hrd⟩:=(uh HIN).eq en a3j
   have X7:=hide heq
   have Oh:=hide hrd
   have HLJ:=hide hlj
   generalize Ie (Nz x d) N j=bj at *
   clear heq hrd hen heI hlj hbj
   go_wp2
   go_loopg [9,49] t (fun g tv iv wr=>∃(m:Nat),m<=t∧g=t-m∧iv=.int .i64 m∧wr=wM∧tv=.bool (Gn (d.take m) (en:Int)))
   case atStart=>exact⟨0,Nat.zero_le _,by omega,rfl,rfl,rfl⟩
   case round =>
    obtain⟨m,hm,hgm,rfl,hwr,rfl⟩:=hrel
    rw[hwr]
    clear hwr
    have Hy:=hide hgm
    clear hgm
    have Tn:=uh HDL
    by_cases hlm:m<t
    ·have hmd:m<d.length:=by omega
     obtain⟨_,_,Qh,_,_,Qi⟩:=uh HSL wM (uh Lj)
     simp only[Value.slice.injEq] at Qh
     obtain⟨rfl,H8,rfl⟩:=Qh
     obtain⟨bd,od,cs,jr,_,hbn,hcs,hc0,hR⟩:=Qi m hmd
     subst jr
     obtain⟨rfl,hsn⟩:=hR
     have r0:wM.cell? ⟨bd,od+m,none⟩=some (.int .i64 d[m]):=by simpa using hc0 0 (by simp)
     have HIT:=hide (akd d m hmd (en:Int))
     have hmI:(m:Int)<(t:Int):=by omega
     clear hc0 hcs hsn Qi H8 Tn
     generalize d[m]=dk at *
     cases hin:Gn (d.take m) (en:Int)
     ·rw[hin,Bool.false_or] at HIT
      clear hmd
      go_wp2
      go_roundg (t-(m+1))
      case measure =>
       have h9:=uh Hy
       omega
      case rel=>exact⟨m+1,hlm,rfl,by go_num,rfl,by rw[uh HIT]⟩
     ·rw[hin,Bool.true_or] at HIT
      clear hmd
      go_wp2
      go_roundg (t-(m+1))
      case measure =>
       have h9:=uh Hy
       omega
      case rel=>exact⟨m+1,hlm,rfl,by go_num,rfl,by rw[uh HIT]⟩
    ·have hme:m=t:=by omega
     have hmI:¬(m:Int)<(t:Int):=by omega
     have HTK:Hid (d.take m=d):=by rw[hme,←Tn,List.take_length];exact hide rfl
     rw[uh HTK]
     clear hme hlm Tn HTK
     cases hin:Gn d (en:Int)
     ·rw[hin,Bool.not_false,Bool.true_and] at HFR
      have hbW:=(uh yj).trans ((uh Lj).mono (uh yj).size)
      have afv:=(uh Lr).below (uh Lj) (uh Lr).lt
      obtain⟨q0,q1,q2,q3⟩:=uh X7 wM hbW
      have y0:=afv.cell (i:=0) (v:=.string xn) rfl
      have y1:=afv.cell (i:=1) (v:=.slice b1 n1 c1) rfl
      have y2:=afv.cell (i:=2) (v:=.slice b2 n2 c2) rfl
      have y3:=afv.cell (i:=3) (v:=.slice b3 n3 c3) rfl
      have y4:=afv.cell (i:=4) (v:=.slice (some ⟨eb,eo,none⟩) N c4) rfl
      have Jy:Hid (Calls Tryz.prog 15 #[.agg #[.string xn,.slice b1 n1 c1,.slice b2 n2 c2,.slice b3 n3 c3,.slice (some ⟨eb,eo,none⟩) N c4],.agg #[.slice l1 e1 zn,.slice l2 e2 zx,.string Hw,.slice l3 e3 zy],.slice da t auk] wM.drew fun e w'=>e=.returned (.bool (Nz x d en))∧Hid (Below wO.heap.size wO w')∧w'.cell? ⟨w1.heap.size,0,none⟩=some (.string xn)∧w'.cell? ⟨w1.heap.size,1,none⟩=some (.slice b1 n1 c1)∧w'.cell? ⟨w1.heap.size,2,none⟩=some (.slice b2 n2 c2)∧w'.cell? ⟨w1.heap.size,3,none⟩=some (.slice b3 n3 c3)∧w'.cell? ⟨w1.heap.size,4,none⟩=some (.slice (some ⟨eb,eo,none⟩) N c4)∧w'.cell? ⟨eb,eo+en*4,none⟩=some (.slice l1 e1 zn)∧w'.cell? ⟨eb,eo+en*4+1,none⟩=some (.slice l2 e2 zx)∧w'.cell? ⟨eb,eo+en*4+2,none⟩=some (.string Hw)∧w'.cell? ⟨eb,eo+en*4+3,none⟩=some (.slice l3 e3 zy)):=by
       refine hide ((uh Oh wM.drew hbW.drew d _ (uh HSL wM.drew (uh Lj).drew) (by have:=uh HDL;omega)).mono ?_)
       rintro e9 w9 ⟨rfl,vg⟩
       have hb8:=(uh Lj).drew.trans (vg.mono (uh Lj).drew.size)
       have akh:=(uh Lr).below hb8 (uh Lr).lt
       obtain⟨r0,r1,r2,r3⟩:=uh X7 w9 ((uh yj).trans (hb8.mono (uh yj).size))
       exact⟨by rw[uh HFR],hide hb8,akh.cell (i:=0) (v:=.string xn) rfl,akh.cell (i:=1) (v:=.slice b1 n1 c1) rfl,akh.cell (i:=2) (v:=.slice b2 n2 c2) rfl,akh.cell (i:=3) (v:=.slice b3 n3 c3) rfl,akh.cell (i:=4) (v:=.slice (some ⟨eb,eo,none⟩) N c4) rfl,r0,r1,r2,r3⟩
      have HDW:Hid (∀n,Below wO.heap.size wO (wM.drewN n)):=fun n=>⟨(uh Lj).os,(uh Lj).tape,(uh Lj).output,(uh Lj).size,(uh Lj).block⟩
      have heN:(en:Int)<(N:Int):=by omega
      clear hbW afv Oh HFR X7
      cases hfr:Nz x d en
      ·rw[hfr] at Jy Q7
       go_wp2_with fail
       go_region_held3 (fun w'=>w'.cell? ⟨w1.heap.size,0,none⟩=some (.string xn)∧w'.cell? ⟨w1.heap.size,1,none⟩=some (.slice b1 n1 c1)∧w'.cell? ⟨w1.heap.size,2,none⟩=some (.slice b2 n2 c2)∧w'.cell? ⟨w1.heap.size,3,none⟩=some (.slice b3 n3 c3)∧w'.cell? ⟨w1.heap.size,4,none⟩=some (.slice (some ⟨eb,eo,none⟩) N c4)∧w'.cell? ⟨eb,eo+en*4,none⟩=some (.slice l1 e1 zn)∧w'.cell? ⟨eb,eo+en*4+1,none⟩=some (.slice l2 e2 zx)∧w'.cell? ⟨eb,eo+en*4+2,none⟩=some (.string Hw)∧w'.cell? ⟨eb,eo+en*4+3,none⟩=some (.slice l3 e3 zy)) (go_keep) (first|(go_at_call 15;refine(uh Jy).mono ?_;rintro e9 w9 ⟨rfl,HB9,z0,z1,z2,z3,z4,z5,z6,z7,z8⟩))
       clear z0 z1 z2 z3 z4 z5 z6 z7 z8 q0 q1 q2 q3 y0 y1 y2 y3 y4 Jy
       go_wp2
       go_roundg (N-(j+1))
       case measure =>
        have h8:=uh HLJ
        have h9:=uh Oe
        omega
       case rel=>exact⟨j+1,uh HLJ,rfl,by rw[←uh xw],by rw[uh Q7];rfl,uh HB9⟩
      ·rw[hfr] at Jy Q7
       go_wp2_with fail
       go_region_held3 (fun w'=>w'.cell? ⟨w1.heap.size,0,none⟩=some (.string xn)∧w'.cell? ⟨w1.heap.size,1,none⟩=some (.slice b1 n1 c1)∧w'.cell? ⟨w1.heap.size,2,none⟩=some (.slice b2 n2 c2)∧w'.cell? ⟨w1.heap.size,3,none⟩=some (.slice b3 n3 c3)∧w'.cell? ⟨w1.heap.size,4,none⟩=some (.slice (some ⟨eb,eo,none⟩) N c4)∧w'.cell? ⟨eb,eo+en*4,none⟩=some (.slice l1 e1 zn)∧w'.cell? ⟨eb,eo+en*4+1,none⟩=some (.slice l2 e2 zx)∧w'.cell? ⟨eb,eo+en*4+2,none⟩=some (.string Hw)∧w'.cell? ⟨eb,eo+en*4+3,none⟩=some (.slice l3 e3 zy)) (go_keep) (first|(go_at_call 15;refine(uh Jy).mono ?_;rintro e9 w9 ⟨rfl,HB9,z0,z1,z2,z3,z4,z5,z6,z7,z8⟩))
       clear z0 z1 z2 z3 z4 z5 z6 z7 z8 q0 q1 q2 q3 y0 y1 y2 y3 y4 Jy
       go_wp2
       go_roundg (N-(j+1))
       case measure =>
        have h8:=uh HLJ
        have h9:=uh Oe
        omega
       case rel=>exact⟨j+1,uh HLJ,rfl,by rw[←uh xw],by rw[uh Q7];rfl,uh HB9⟩
     ·rw[hin] at HFR
      have HDW:Hid (∀n,Below wO.heap.size wO (wM.drewN n)):=fun n=>⟨(uh Lj).os,(uh Lj).tape,(uh Lj).output,(uh Lj).size,(uh Lj).block⟩
      have HB0:Hid (Ie (Nz x d) N (j+1)=bj):=by
       refine hide ?_
       rw[uh Q7,uh HFR]
       rfl
      clear Oh HFR X7 Q7
      go_wp2_with fail
      go_quiet ((fail))
      go_wp2
      go_roundg (N-(j+1))
      case measure =>
       have h8:=uh HLJ
       have h9:=uh Oe
       omega
      case rel=>exact⟨j+1,uh HLJ,rfl,by rw[←uh xw],by rw[uh HB0],uh HDW _⟩
end Go.Proofs.YtflcnhfakcgkeaaGreat
