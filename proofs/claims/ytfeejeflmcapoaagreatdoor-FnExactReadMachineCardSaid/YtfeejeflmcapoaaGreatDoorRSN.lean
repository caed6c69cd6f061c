import Derived.Deep.RegionHeld3
import Derived.Deep.QuietTactic
import Derived.BigQuiet
import Derived.Test.YtfeejeflmcapoaaGreatDoorRH1
import Derived.Test.YtfeejeflmcapoaaGreatDoorMI20
import Derived.Test.YtfeejeflmcapoaaGreatDoorRIF
import Derived.Test.YtfeejeflmcapoaaGreatDoorRS8
import Derived.Test.YtfeejeflmcapoaaGreatDoorRS9
import Derived.Test.YtfeejeflmcapoaaGreatDoorRSA
import Derived.Test.YtfeejeflmcapoaaGreatDoorRI8
import Derived.Test.YtfeejeflmcapoaaGreatDoorRSC
import Derived.Test.YtfeejeflmcapoaaGreatDoorRSI
import Derived.Test.YtfeejeflmcapoaaGreatDoorRSJ
import Derived.Test.YtfeejeflmcapoaaGreatDoorRSK
import Derived.Test.YtfeejeflmcapoaaGreatDoorRSM
set_option linter.unusedSimpArgs false
set_option linter.unusedVariables false
set_option maxHeartbeats 16000000
namespace Go.Proofs.YtfeejeflmcapoaaGreatDoor
open Go.RowKit
set_option maxRecDepth 1000000 in
theorem auy (cu:dh) (a:List dw) (k:dw) (hf0:fA (wordsOf 32 cu) 0=vg) (hmiss:(wordsOf 32 cu).length≠2) (he:cu≠Cj) (hd:cu≠Fz):Ji cu (a++[k]):=by
 intro t rb mb lg n lc u q hu hq hn K K1 PO wr W1 mv bs hgs Jj hlz hwq HK hm;have hfz:=(yg 32 cu).1;have hfp:1<=(wordsOf 32 cu).length:=Bg.2 (Aj 32 cu);have Dc:=hide (Du hgs cu hlz);have HKK:=hide HK;have zf:=hide (Dv (a++[k]) cu);have Ol:=hide hgs;have Ug:(q:Int)<(n:Int):=by omega
 have Ci:=hide hwq;clear HK hgs hwq;rw[zh,hu];conv=>arg 2;whnf
 have Af:=hide (zq cu hlz);generalize wordsOf 32 cu=f at *;obtain⟨Df,Jr,Gy,Hu,Ih,Iw,Gs,Em,Lr,Et⟩:=Vg hf0 true false false false false false false false false false (by decide);have Ox:(cu.toList == [101,108,115,101])=false:=by rw[Jw];exact iw he
 have Tc:(cu.toList == [101,110,100])=false:=by rw[Ov];exact iw hd
 have d9:((f.length:Int) == 2)=false:=by rw[su];omega
 have Gn:Hid (stepS (a++[k]) cu=a++[k]):=hide (by
  rw[uh zf];unfold Iz;rw[ay (fun h9=>hmiss h9.2),Ae];unfold lineS;rw[qg hf0 (by decide),qg hf0 (by decide),qg hf0 (by decide),qg hf0 (by decide),qg hf0 (by decide),qg hf0 (by decide),qg hf0 (by decide),qg hf0 (by decide),ay he,ay hd,qg hf0 (by decide)])
 clear hf0 hmiss he hd zf;go_wp2_with fail;refine(uh Dc).mono ?_;rintro e w2 ⟨fg,fc,rfl,o7,Dk,hfl⟩;have x0:=uh Dk 0 (by omega);obtain⟨g,mc,hmv⟩:=E8 (uh o7).1.row;obtain⟨al,hal⟩:∃z,z=a.length:=⟨_,rfl⟩;have Ba:=hide hal
 have hnb:al<=1048577:=by
  have h9:=uh Ci;unfold oq at h9;rw[je] at h9;omega
 rw[←hal] at hmv;clear hal;subst hmv;have m0:=(uh o7).1.box.cell (i:=0) (v:=.slice (some ⟨g,0,none⟩) (al+1) mc) rfl;have hml:mb<w2.heap.size:=(uh o7).1.box.lt;have Bj:=hide (Aa f (.slice (some ⟨fg,0,none⟩) f.length fc) ou w2 (Fh (uh o7).2.1 (uh Af)));obtain⟨c0,c1,c2,c3⟩:=gc al f.length (by omega) (by omega);go_wp2_with fail;refine(uh Bj).mono ?_;rintro e w3 ⟨rfl,hw3⟩;obtain rfl:=hw3.symm;have qc:Hid (Gw W1 mb (stepS (a++[k]) cu) (.slice (some ⟨g,0,none⟩) (al+1) mc) bs w2):=hide (by rw[uh Gn];exact(uh o7).1);generalize jd f ou=pc at *;go_wp2;refine uh HKK _ _ _ _ rfl ?_ ?_ (uh qc)
 ·exact Qc rfl rfl rfl rfl rfl rfl rfl rfl rfl rfl
 ·rfl
set_option maxRecDepth 1000000 in
theorem bbv (t:dh) (rb mb lg n lc:Nat) (u:Nat->Value) (hu:u 18=.int .i64 (n:Int)) (hn:n<=1048577) (K K1:Act->bf->Prop) (PO:Ending->bf->Prop) (wr:bf) (HK:∀x,x.size=369->(∀i,i∈Pq->x.getD i undef=Yw t rb mb lg n lc i undef)->K1 ⟨x,[]⟩ wr):Code.wp Tryz.prog aui (Exit.then K (Exit.inBlock 0 (Exit.then K1 (bodyPost Tryz.prog Tryz.f9 PO)))) (agp t rb mb lg n lc u) wr:=by
 have HKK:=hide HK;clear HK;rw[zh,hu];conv=>arg 2;whnf
 have dlt:decide ((n:Int)<(n:Int))=false:=iw (by omega);go_wp2;refine uh HKK _ rfl ?_;intro i hi;unfold Pq at hi;simp only[ql,xg,xk] at hi;rcases hi with rfl|rfl|rfl|rfl|rfl|rfl|rfl|rfl|rfl|rfl<;>rfl
theorem a6w (cu:dh) (cs:List dw):Ji cu cs:=by
 have hnl:∀w,fA (wordsOf 32 cu) 0=w->(w≠Cj->cu≠Cj)∧(w≠Fz->cu≠Fz):=fun w hw=>⟨fun h e=>h (by rw[←hw,e];decide),fun h e=>h (by rw[←hw,e];decide)⟩
 by_cases hcl:fA (wordsOf 32 cu) 0=vg∧(wordsOf 32 cu).length=2
 ·exact a6u cu cs hcl.1 hcl.2
 rcases List.eq_nil_or_concat cs with rfl|⟨a,k,hcs⟩
 ·exact a6t cu (by by_cases h9:fA (wordsOf 32 cu) 0=vg;exact Or.inr (fun e=>hcl ⟨h9,e⟩);exact Or.inl h9)
 rw[List.concat_eq_append] at hcs;subst hcs
 by_cases Jy:fA (wordsOf 32 cu) 0=vg
 ·exact auy cu a k Jy (fun e=>hcl ⟨Jy,e⟩) ((hnl _ Jy).1 (by decide)) ((hnl _ Jy).2 (by decide))
 by_cases J7:fA (wordsOf 32 cu) 0=Ik
 ·by_cases hl:(wordsOf 32 cu).length=3
  ·by_cases ht:fA (wordsOf 32 cu) 2=aaf
   ·exact a2y cu a k J7 hl ht
   ·exact aye cu a k J7 hl ht
  ·exact a6r cu a k J7 hl ((hnl _ J7).1 (by decide)) ((hnl _ J7).2 (by decide))
 by_cases Iy:fA (wordsOf 32 cu) 0=Ee
 ·by_cases hl:(wordsOf 32 cu).length=3
  ·by_cases ht:fA (wordsOf 32 cu) 2=aaf
   ·exact ayf cu a k Iy hl ht
   ·exact auv cu a k Iy hl ht
  ·exact a2z cu a k Iy hl ((hnl _ Iy).1 (by decide)) ((hnl _ Iy).2 (by decide))
 by_cases Kq:fA (wordsOf 32 cu) 0=Eo
 ·by_cases hl:(wordsOf 32 cu).length=2
  ·exact bcy cu a k Kq hl
  ·exact a3a cu a k Kq hl ((hnl _ Kq).1 (by decide)) ((hnl _ Kq).2 (by decide))
 by_cases h_mem:fA (wordsOf 32 cu) 0=Ep
 ·by_cases hl:(wordsOf 32 cu).length=2
  ·exact bc4 cu a k h_mem hl
  ·exact a3b cu a k h_mem hl ((hnl _ h_mem).1 (by decide)) ((hnl _ h_mem).2 (by decide))
 by_cases P8:fA (wordsOf 32 cu) 0=Es
 ·by_cases hl:(wordsOf 32 cu).length=2
  ·exact bc6 cu a k P8 hl
  ·exact a3c cu a k P8 hl ((hnl _ P8).1 (by decide)) ((hnl _ P8).2 (by decide))
 by_cases Qy:fA (wordsOf 32 cu) 0=Qn
 ·by_cases hl:(wordsOf 32 cu).length=2
  ·exact bee cu a k Qy hl
  ·exact a6s cu a k Qy hl ((hnl _ Qy).1 (by decide)) ((hnl _ Qy).2 (by decide))
 by_cases Hw:fA (wordsOf 32 cu) 0=Jf
 ·by_cases hl:jd (wordsOf 32 cu) ou=2
  ·exact bc5 cu a k Hw hl
  ·exact a3d cu a k Hw hl ((hnl _ Hw).1 (by decide)) ((hnl _ Hw).2 (by decide))
 by_cases Gj:fA (wordsOf 32 cu) 0=F8
 ·by_cases hl:jd (wordsOf 32 cu) ou=2
  ·exact bbp cu a k Gj hl
  ·exact ayg cu a k Gj hl ((hnl _ Gj).1 (by decide)) ((hnl _ Gj).2 (by decide))
 by_cases Ig:fA (wordsOf 32 cu) 0=Ac
 ·by_cases hl:2<jd (wordsOf 32 cu) ou
  ·exact g_call cu a k Ig hl
  ·exact ayh cu a k Ig hl ((hnl _ Ig).1 (by decide)) ((hnl _ Ig).2 (by decide))
 by_cases he:cu=Cj
 ·exact bbo cu a k he
 by_cases hd:cu=Fz
 ·exact bcz cu a k hd
 exact bbj cu a k Jy J7 Iy Kq h_mem P8 Hw Gj Qy Ig he hd
theorem yh.ay9 {B B2:Nat} {w:bf} {v:Value} {ks:List dw} {bs:List Nat} (h:yh Fa Dj B w v ks bs) (hb:B2<=B):yh Fa Dj B2 w v ks bs:=by
 obtain⟨css,subs,h1,h2,h3,h4,h5,h6⟩:=h;exact⟨css,subs,h1.low hb,h2,h3,h4,h5,fun b hb'=>⟨jq hb (h6 b hb').1,(h6 b hb').2⟩⟩
set_option maxRecDepth 1000000 in
theorem asy (t:dh) (w:bf) (hs:t.size<=1048576):Calls Tryz.prog 9 #[.string t] w (fun e w'=>∃v bs,e=.returned (.agg #[v])∧yh Fa Dj w.heap.size w' v (Ns t) bs∧Below w.heap.size w w'):=by
 obtain⟨PO,Gv⟩:∃PO:Ending->bf->Prop,PO=(fun e w'=>∃v bs,e=.returned (.agg #[v])∧yh Fa Dj w.heap.size w' v (Ns t) bs∧Below w.heap.size w w'):=⟨_,rfl⟩;rw[←Gv];have Dn:=hide Gv;clear Gv;obtain⟨wA,hwA⟩:∃z,z=((w.alloc (.cells #[.slice none 0 0] 24)).alloc (.cells #[.slice none 0 0] 24)):=⟨_,rfl⟩;have hA:Below w.heap.size w wA:=by rw[hwA];exact((gy _ _).alloc (gq _) _).alloc (by simp) _
 have b1:jc wA w.heap.size 24 #[.slice none 0 0]:=by rw[hwA];exact bbw (aa8 rfl) _
 have b2:jc wA (w.heap.size+1) 24 #[.slice none 0 0]:=by rw[hwA];exact aa8 (by simp)
 have HSP:=hide (aj6 t 10 wA hs);have HA:=hide (And.intro hA (And.intro b1 b2))
 have Hy:Hid (∀l,l∈wordsOf 10 t->l.size<=1048576):=hide (fun l hl=>by
  have h9:=(yg 10 t).2
  have h8:l.size+1<=((wordsOf 10 t).map (fun p=>p.size+1)).sum:=by
   clear h9;generalize wordsOf 10 t=ls at hl
   induction ls with
   | nil=>cases hl
   | cons x ls ih =>
    simp only[Ap,List.sum_cons];rcases ql.1 hl with rfl|h7
    ·omega
    ·have:=ih h7;omega
  omega)
 have HWT:=hide (fun q=>bag ((wordsOf 10 t).take q) []);have HNL:=hide (yg 10 t).1;have HGE:Hid (Ns t=(wordsOf 10 t).foldl stepS []):=hide rfl
 have HPZ:Hid (∀q,D9 ((wordsOf 10 t).take q)<=1048577):=hide (fun q=>by
  have h9:D9 (wordsOf 10 t)=t.size+1:=(yg 10 t).2;have h8:=mg D9 (Pj q (wordsOf 10 t));rw[ahd] at h8;omega)
 rw[hwA] at HSP;have HWA:=hide hwA;clear hwA hA b1 b2;go_enter Tryz.func9,Tryz.ntmps9;go_wp2_with fail;refine(uh HSP).mono ?_;rintro e w1 ⟨lv,rfl,hlo,hlb⟩;have hll:1<=(wordsOf 10 t).length:=Bg.2 (Aj 10 t);obtain⟨lg,lc,rfl,bbx,auz,⟨bgf,au0⟩,agx⟩:=ag3 hlo hll;rw[←uh HWA] at hlb hlo bbx;generalize wordsOf 10 t=ls at Hy HWT HNL HGE HPZ hlo agx hll ⊢;have hnl:ls.length<=1048577:=by have:=uh HNL;omega
 have hmb:w.heap.size+1<w1.heap.size:=((uh HA).2.2.below hlb (uh HA).2.2.lt).lt;have Ol:Hid (Gw w1 (w.heap.size+1) [] (.slice none 0 0) [] w1):=hide ⟨(uh HA).2.2.below hlb (uh HA).2.2.lt,yh.nil _ _ _ _,But.refl _ _⟩;have Jc:Hid (jc w1 w.heap.size 24 #[.slice none 0 0]):=hide ((uh HA).2.1.below hlb (uh HA).2.1.lt);have Bl:Hid (Below w.heap.size w w1):=hide ((uh HA).1.trans (hlb.mono (uh HA).1.size))
 have hlm:lg≠w.heap.size+1:=fun e=>by
  have h9:=(uh Ol).box;rw[←e] at h9;unfold jc at h9 au0;rw[au0] at h9;simp only[uo,Obj.cells.injEq] at h9;exact absurd h9.2.1 (by decide)
 have HLC:=hide (And.intro agx (And.intro auz hlm));clear hlo hlb bbx auz au0 agx hll hlm HSP HA HWA HNL;go_wp2
 rename_i K1 U9
 refine wp_loop (c:=aui) (fun a' wr=>∃(x:Array Value) (q:Nat),a'=⟨x,[]⟩∧x.size=369∧(∀i,i∈Pq->x.getD i undef=Yw t w.heap.size (w.heap.size+1) lg ls.length lc i undef)∧x.getD 18 undef=.int .i64 (q:Int)∧q<=ls.length∧Hid (∃mv bs,Gw w1 (w.heap.size+1) ((ls.take q).foldl stepS []) mv bs wr)) (fun a' _=>ls.length-afh 18 a') ?_ ?_
 ·refine⟨_,0,rfl,rfl,?_,rfl,jg _,hide ⟨_,_,uh Ol⟩⟩
  intro i hi;unfold Pq at hi;simp only[ql,xg,xk] at hi;rcases hi with rfl|rfl|rfl|rfl|rfl|rfl|rfl|rfl|rfl|rfl<;>rfl
 ·rintro a' wr ⟨x,q,rfl,hx1,hx2,hx3,hq,HR⟩
  obtain⟨u',hu',hu2⟩:=ac0 t w.heap.size (w.heap.size+1) lg ls.length lc x hx1 hx2;have v18:=hu2 18;rw[hx3] at v18
  have hsl:afh 18 ⟨x,[]⟩=q:=by
   unfold afh;rw[show (⟨x,[]⟩:Act).tmps=x from rfl,hx3];rfl
  rw[hsl,hu'];obtain⟨mv,bs,hgs⟩:=uh HR
  by_cases hlt:q<ls.length
  ·obtain⟨agx,auz,hlm⟩:=uh HLC
   have z0:wr.cell? ⟨lg,q,none⟩=some (.string ls[q]):=by
    rw[hgs.but.cell (p:=⟨lg,q,none⟩) auz (by simpa using hlm)];exact agx q hlt
   have hst:(ls.take (q+1)).foldl stepS []=stepS ((ls.take q).foldl stepS []) ls[q]:=by rw[Fb hlt,J3];rfl
   have hwq:oq qx ((ls.take q).foldl stepS [])<=1048577:=by
    have h1:=uh HWT q;have h2:=uh HPZ q;have h3:oq qx ([]:List dw)=0:=rfl;omega
   refine a6w ls[q] _ t w.heap.size (w.heap.size+1) lg ls.length lc u' q v18 hlt hnl _ _ _ wr w1 mv bs hgs z0 (uh Hy ls[q] (pz hlt)) hwq ?_ hmb;intro x2 w2 mv2 bs2 k1 k2 k3 k4;refine⟨⟨x2,q+1,rfl,k1,k2,by rw[k3];rfl,hlt,hide ⟨mv2,bs2,by rw[hst];exact k4⟩⟩,?_⟩
   have hs2:afh 18 ⟨x2,[]⟩=q+1:=by
    unfold afh;rw[show (⟨x2,[]⟩:Act).tmps=x2 from rfl,k3];show ((q:Int)+1).toNat=q+1;omega
   rw[hs2];omega
  ·obtain rfl:q=ls.length:=by omega
   refine bbv t w.heap.size (w.heap.size+1) lg ls.length lc u' v18 hnl _ _ _ wr ?_;intro x2 k1 k2;obtain⟨u2,hu3,_⟩:=ac0 t w.heap.size (w.heap.size+1) lg ls.length lc x2 k1 k2;rw[hu3,zh];refine U9 _ _ ?_;rw[Eb,←uh HGE] at hgs;obtain⟨ma,mc,rfl⟩:=hgs.row.slice;generalize (Ns t).length=mn at hgs;have m0:=hgs.box.cell (i:=0) (v:=.slice ma mn mc) rfl;have hrb:jc wr w.heap.size 24 #[.slice none 0 0]:=hgs.but.blk (uh Jc) (by simp);have r0:=hrb.cell (i:=0) (v:=.slice none 0 0) rfl;have rf:=hrb.free 0;have rl:w.heap.size<wr.heap.size:=hrb.lt;have HGG:=hide hgs;have hr2:=hrb.set 0 (.slice ma mn mc);have q0:(wr.setCell ⟨w.heap.size,0,none⟩ (.slice ma mn mc)).cell? ⟨w.heap.size,0,none⟩=some (.slice ma mn mc):=hr2.cell (i:=0) (v:=.slice ma mn mc) rfl;have yu:Below w.heap.size w wr:=(uh Bl).trans (hgs.but.below _ (uh Bl).size (fun b hb=>by rw[yj] at hb;omega));have W9:=hide yu;clear hgs hrb hr2 yu Ol Jc Bl HWT Hy HPZ HLC HR hlt v18 hu' hu2 hx1 hx2 hx3 hsl;go_wp2;refine bodyPost_ret (v:=.agg #[.slice ma mn mc]) (by simp[results,Tryz.results9,go_sem,q0]) rfl ?_;rw[uh Dn];refine⟨.slice ma mn mc,bs,rfl,yh.ay9 ((uh HGG).row.fr I8 (fun b hb=>yx _ _ _ _ (fun e=>?_)) (by simp[World.setCell])) (by omega),(uh W9).setCell (gq _) _⟩;have h8:=((uh HGG).row.nd.2 b hb).1;have e':b=w.heap.size:=e;omega
end Go.Proofs.YtfeejeflmcapoaaGreatDoor
