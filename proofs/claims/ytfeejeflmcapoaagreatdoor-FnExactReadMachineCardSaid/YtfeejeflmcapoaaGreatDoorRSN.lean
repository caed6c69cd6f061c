import Derived.Deep.RegionHeld3
import Derived.Deep.QuietTactic
import Derived.BigQuiet
import Derived.Test.YtfeejeflmcapoaaGreatDoorRS6
import Derived.Test.YtfeejeflmcapoaaGreatDoorMI20
import Derived.Test.YtfeejeflmcapoaaGreatDoorRIF
import Derived.Test.YtfeejeflmcapoaaGreatDoorRS8
import Derived.Test.YtfeejeflmcapoaaGreatDoorRS9
import Derived.Test.YtfeejeflmcapoaaGreatDoorRSA
import Derived.Test.YtfeejeflmcapoaaGreatDoorRI8
import Derived.Test.YtfeejeflmcapoaaGreatDoorRSC
import Derived.Test.YtfeejeflmcapoaaGreatDoorRSI
import Derived.Test.YtfeejeflmcapoaaGreatDoorRSJ
import Derived.Test.YtfeejeflmcapoaaGreatDoorRSK
import Derived.Test.YtfeejeflmcapoaaGreatDoorRSM
set_option linter.unusedSimpArgs false
set_option linter.unusedVariables false
set_option maxHeartbeats 16000000
set_option maxRecDepth 1000000
namespace Go.Proofs.YtfeejeflmcapoaaGreatDoor
open Go.RowKit
theorem bax (t:dh) (rb mb lg n lc:Nat) (u:Nat->Value) (hu:u 18=.int .i64 (n:Int)) (hn:n<=1048577) (K K1:Act->cu->Prop) (PO:Ending->cu->Prop) (wr:cu) (HK:∀x,x.size=369->(∀i,i∈Ph->x.getD i undef=Yv t rb mb lg n lc i undef)->K1 ⟨x,[]⟩ wr):Code.wp Tryz.prog ((Tryz.f9.body.bind V4).getD .skip) (Exit.then K (Exit.inBlock 0 (Exit.then K1 (bodyPost Tryz.prog Tryz.f9 PO)))) (agu t rb mb lg n lc u) wr:=by
 have HKK:=ak HK;clear HK;rw[Cj,hu];conv=>arg 2;whnf
 have dlt:decide ((n:Int)<(n:Int))=false:=iy (by omega);go_wp2;refine uh HKK _ rfl ?_;intro i hi;unfold Ph at hi;simp only[qj,xq,xu] at hi;rcases hi with rfl|rfl|rfl|rfl|rfl|rfl|rfl|rfl|rfl|rfl<;>rfl
theorem a6i (eu:dh) (cs:List dw):Qm eu cs:=by
 have hnl:∀w,fA (wordsOf 32 eu) 0=w->(w≠Fg->eu≠Fg)/\(w≠Iz->eu≠Iz):=fun w hw=>⟨fun h e=>h (by rw[←hw,e];decide),fun h e=>h (by rw[←hw,e];decide)⟩
 by_cases hcl:fA (wordsOf 32 eu) 0=vw/\(wordsOf 32 eu).length=2
 ·exact a6g eu cs hcl.1 hcl.2
 rcases List.eq_nil_or_concat cs with rfl|⟨a,k,hcs⟩
 ·exact a6f eu (by by_cases h9:fA (wordsOf 32 eu) 0=vw;exact Or.inr (fun e=>hcl ⟨h9,e⟩);exact Or.inl h9)
 rw[List.concat_eq_append] at hcs;subst hcs
 by_cases Js:fA (wordsOf 32 eu) 0=vw
 ·exact adf eu a k ((hnl _ Js).1 (by decide)) ((hnl _ Js).2 (by decide)) (.inr (.inr (.inr (.inr (.inr (.inr (.inr (.inr (.inr (⟨Js,(fun e=>hcl ⟨Js,e⟩)⟩))))))))))
 by_cases J4:fA (wordsOf 32 eu) 0=Ic
 ·by_cases hl:(wordsOf 32 eu).length=3
  ·by_cases ht:fA (wordsOf 32 eu) 2=Z9
   ·exact a2p eu a k J4 hl ht
   ·exact ax7 eu a k J4 hl ht
  ·exact adf eu a k ((hnl _ J4).1 (by decide)) ((hnl _ J4).2 (by decide)) (.inl ⟨J4,hl⟩)
 by_cases Ip:fA (wordsOf 32 eu) 0=Dz
 ·by_cases hl:(wordsOf 32 eu).length=3
  ·by_cases ht:fA (wordsOf 32 eu) 2=Z9
   ·exact ax8 eu a k Ip hl ht
   ·exact aut eu a k Ip hl ht
  ·exact adf eu a k ((hnl _ Ip).1 (by decide)) ((hnl _ Ip).2 (by decide)) (.inr (.inl ⟨Ip,hl⟩))
 by_cases J8:fA (wordsOf 32 eu) 0=Ee
 ·by_cases hl:(wordsOf 32 eu).length=2
  ·exact bcc eu a k J8 hl
  ·exact adf eu a k ((hnl _ J8).1 (by decide)) ((hnl _ J8).2 (by decide)) (.inr (.inr (.inl ⟨J8,hl⟩)))
 by_cases h_mem:fA (wordsOf 32 eu) 0=Ef
 ·by_cases hl:(wordsOf 32 eu).length=2
  ·exact bcf eu a k h_mem hl
  ·exact adf eu a k ((hnl _ h_mem).1 (by decide)) ((hnl _ h_mem).2 (by decide)) (.inr (.inr (.inr (.inl ⟨h_mem,hl⟩))))
 by_cases Pv:fA (wordsOf 32 eu) 0=Eh
 ·by_cases hl:(wordsOf 32 eu).length=2
  ·exact bch eu a k Pv hl
  ·exact adf eu a k ((hnl _ Pv).1 (by decide)) ((hnl _ Pv).2 (by decide)) (.inr (.inr (.inr (.inr (.inl ⟨Pv,hl⟩)))))
 by_cases Qr:fA (wordsOf 32 eu) 0=Qg
 ·by_cases hl:(wordsOf 32 eu).length=2
  ·exact bdr eu a k Qr hl
  ·exact adf eu a k ((hnl _ Qr).1 (by decide)) ((hnl _ Qr).2 (by decide)) (.inr (.inr (.inr (.inr (.inr (.inr (.inr (.inl ⟨Qr,hl⟩))))))))
 by_cases Hl:fA (wordsOf 32 eu) 0=Je
 ·by_cases hl:je (wordsOf 32 eu) ql=2
  ·exact bcg eu a k Hl hl
  ·exact adf eu a k ((hnl _ Hl).1 (by decide)) ((hnl _ Hl).2 (by decide)) (.inr (.inr (.inr (.inr (.inr (.inl ⟨Hl,hl⟩))))))
 by_cases F7:fA (wordsOf 32 eu) 0=Fp
 ·by_cases hl:je (wordsOf 32 eu) ql=2
  ·exact bap eu a k F7 hl
  ·exact adf eu a k ((hnl _ F7).1 (by decide)) ((hnl _ F7).2 (by decide)) (.inr (.inr (.inr (.inr (.inr (.inr (.inl ⟨F7,hl⟩)))))))
 by_cases H7:fA (wordsOf 32 eu) 0=zx
 ·by_cases hl:2<je (wordsOf 32 eu) ql
  ·exact g_call eu a k H7 hl
  ·exact adf eu a k ((hnl _ H7).1 (by decide)) ((hnl _ H7).2 (by decide)) (.inr (.inr (.inr (.inr (.inr (.inr (.inr (.inr (.inl ⟨H7,hl⟩)))))))))
 by_cases he:eu=Fg
 ·exact bao eu a k he
 by_cases hd:eu=Iz
 ·exact bcd eu a k hd
 exact a96 eu a k Js J4 Ip J8 h_mem Pv Hl F7 Qr H7 he hd
theorem yj.ay4 {B B2:Nat} {w:cu} {v:Value} {ks:List dw} {bs:List Nat} (h:yj Et Ci B w v ks bs) (hb:B2<=B):yj Et Ci B2 w v ks bs:=by
 obtain⟨css,subs,h1,h2,h3,h4,h5,h6⟩:=h;exact⟨css,subs,h1.low hb,h2,h3,h4,h5,fun b hb'=>⟨ku hb (h6 b hb').1,(h6 b hb').2⟩⟩
theorem asw (t:dh) (w:cu) (hs:t.size<=1048576):Calls Tryz.prog 9 #[.string t] w (fun e w'=>∃v bs,e=.returned (.agg #[v])/\yj Et Ci w.heap.size w' v (Np t) bs/\Below w.heap.size w w'):=by
 obtain⟨PO,Gn⟩:∃PO:Ending->cu->Prop,PO=((fun e w'=>∃v bs,e=.returned (.agg #[v])/\yj Et Ci w.heap.size w' v (Np t) bs/\Below w.heap.size w w')):=⟨_,rfl⟩;rw[←Gn];have Dc:=ak Gn;clear Gn;obtain⟨wA,hwA⟩:=o8 (((w.alloc (.cells #[.slice none 0 0] 24)).alloc (.cells #[.slice none 0 0] 24)));have hA:Below w.heap.size w wA:=by rw[hwA];exact((iq _ _).alloc (gu _) _).alloc (by simp) _
 have b1:jd wA w.heap.size 24 #[.slice none 0 0]:=by rw[hwA];exact bay (aa2 rfl) _
 have b2:jd wA (w.heap.size+1) 24 #[.slice none 0 0]:=by rw[hwA];exact aa2 (by simp)
 have HSP:=ak (aj1 t 10 wA hs);have HA:=ak (And.intro hA (And.intro b1 b2))
 have Ho:Hid (∀l,l∈wordsOf 10 t->l.size<=1048576):=ak (fun l hl=>by
  have h9:=(Au 10 t).2
  have h8:l.size+1<=((wordsOf 10 t).map (fun p=>p.size+1)).sum:=by
   clear h9;generalize wordsOf 10 t=ls at hl
   induction ls with
   | nil=>cases hl
   | cons x ls ih =>
    simp only[Ai,List.sum_cons];rcases qj.1 hl with rfl|h7
    ·omega
    ·have:=ih h7;omega
  omega)
 have HWT:=ak (fun q=>a9o ((wordsOf 10 t).take q) []);have HNL:=ak (Au 10 t).1;have HGE:Hid (Np t=(wordsOf 10 t).foldl stepS []):=ak rfl
 have HPZ:Hid (∀q,Du ((wordsOf 10 t).take q)<=1048577):=ak (fun q=>by
  have h9:Du (wordsOf 10 t)=t.size+1:=(Au 10 t).2;have h8:=ni Du (O8 q (wordsOf 10 t));rw[ahb] at h8;omega)
 rw[hwA] at HSP;have HWA:=ak hwA;clear hwA hA b1 b2;go_enter Tryz.func9,Tryz.ntmps9;go_wp2_with fail;refine(uh HSP).mono ?_;rintro e w1 ⟨lv,rfl,hlo,hlb⟩;have hll:1<=(wordsOf 10 t).length:=E5.2 (Ei 10 t);obtain⟨lg,lc,rfl,ba0,auv,⟨bfv,auw⟩,agv⟩:=ag1 hlo hll;rw[←uh HWA] at hlb hlo ba0;generalize wordsOf 10 t=ls at Ho HWT HNL HGE HPZ hlo agv hll ⊢;have hnl:ls.length<=1048577:=by have:=uh HNL;omega
 have hmb:w.heap.size+1<w1.heap.size:=((uh HA).2.2.below hlb (uh HA).2.2.lt).lt;have Ue:Hid (Jz w1 (w.heap.size+1) [] (.slice none 0 0) [] w1):=ak ⟨(uh HA).2.2.below hlb (uh HA).2.2.lt,yj.nil _ _ _ _,But.refl _ _⟩;have Jb:Hid (jd w1 w.heap.size 24 #[.slice none 0 0]):=ak ((uh HA).2.1.below hlb (uh HA).2.1.lt);have Bc:Hid (Below w.heap.size w w1):=ak ((uh HA).1.trans (hlb.mono (uh HA).1.size))
 have hlm:lg≠w.heap.size+1:=fun e=>by
  have h9:=(uh Ue).box;rw[←e] at h9;unfold jd at h9 auw;rw[auw] at h9;simp only[uw,Obj.cells.injEq] at h9;exact absurd h9.2.1 (by decide)
 have HLC:=ak (And.intro agv (And.intro auv hlm));clear hlo hlb ba0 auv auw agv hll hlm HSP HA HWA HNL;go_wp2
 rename_i K1 U5
 refine wp_loop (c:=((Tryz.f9.body.bind V4).getD .skip)) (fun a' wr=>∃(x:Array Value) (q:Nat),a'=⟨x,[]⟩/\x.size=369/\(∀i,i∈Ph->x.getD i undef=Yv t w.heap.size (w.heap.size+1) lg ls.length lc i undef)/\x.getD 18 undef=.int .i64 (q:Int)/\q<=ls.length/\Hid (∃mv bs,Jz w1 (w.heap.size+1) ((ls.take q).foldl stepS []) mv bs wr)) (fun a' _=>ls.length-aff 18 a') ?_ ?_
 ·refine⟨_,0,rfl,rfl,?_,rfl,jg _,ak ⟨_,_,uh Ue⟩⟩
  intro i hi;unfold Ph at hi;simp only[qj,xq,xu] at hi;rcases hi with rfl|rfl|rfl|rfl|rfl|rfl|rfl|rfl|rfl|rfl<;>rfl
 ·rintro a' wr ⟨x,q,rfl,hx1,hx2,hx3,hq,HR⟩
  obtain⟨u',hu',hu2⟩:=acy t w.heap.size (w.heap.size+1) lg ls.length lc x hx1 hx2;have v18:=hu2 18;rw[hx3] at v18
  have hsl:aff 18 ⟨x,[]⟩=q:=by
   unfold aff;rw[show (⟨x,[]⟩:Act).tmps=x from rfl,hx3];rfl
  rw[hsl,hu'];obtain⟨mv,bs,hgs⟩:=uh HR
  by_cases hlt:q<ls.length
  ·obtain⟨agv,auv,hlm⟩:=uh HLC
   have z0:wr.cell? ⟨lg,q,none⟩=some (.string ls[q]):=by
    rw[hgs.but.cell (p:=⟨lg,q,none⟩) auv (by simpa using hlm)];exact agv q hlt
   have hst:(ls.take (q+1)).foldl stepS []=stepS ((ls.take q).foldl stepS []) ls[q]:=by rw[Eu hlt,Ju];rfl
   have hwq:pz qy ((ls.take q).foldl stepS [])<=1048577:=by
    have h1:=uh HWT q;have h2:=uh HPZ q;have h3:pz qy ([]:List dw)=0:=rfl;omega
   refine a6i ls[q] _ t w.heap.size (w.heap.size+1) lg ls.length lc u' q v18 hlt hnl _ _ _ wr w1 mv bs hgs z0 (uh Ho ls[q] (o7 hlt)) hwq ?_ hmb;intro x2 w2 mv2 bs2 k1 k2 k3 k4;refine⟨⟨x2,q+1,rfl,k1,k2,by rw[k3];rfl,hlt,ak ⟨mv2,bs2,by rw[hst];exact k4⟩⟩,?_⟩
   have hs2:aff 18 ⟨x2,[]⟩=q+1:=by
    unfold aff;rw[show (⟨x2,[]⟩:Act).tmps=x2 from rfl,k3];show ((q:Int)+1).toNat=q+1;omega
   rw[hs2];omega
  ·obtain rfl:q=ls.length:=by omega
   refine bax t w.heap.size (w.heap.size+1) lg ls.length lc u' v18 hnl _ _ _ wr ?_;intro x2 k1 k2;obtain⟨u2,hu3,_⟩:=acy t w.heap.size (w.heap.size+1) lg ls.length lc x2 k1 k2;rw[hu3,Cj];refine U5 _ _ ?_;rw[Dw,←uh HGE] at hgs;obtain⟨ma,mc,rfl⟩:=hgs.row.slice;generalize (Np t).length=mn at hgs;have m0:=hgs.box.cell (i:=0) (v:=.slice ma mn mc) rfl;have hrb:jd wr w.heap.size 24 #[.slice none 0 0]:=hgs.but.blk (uh Jb) (by simp);have r0:=hrb.cell (i:=0) (v:=.slice none 0 0) rfl;have rf:=hrb.free 0;have rl:w.heap.size<wr.heap.size:=hrb.lt;have HGG:=ak hgs;have hr2:=hrb.set 0 (.slice ma mn mc);have q0:(wr.setCell ⟨w.heap.size,0,none⟩ (.slice ma mn mc)).cell? ⟨w.heap.size,0,none⟩=some (.slice ma mn mc):=hr2.cell (i:=0) (v:=.slice ma mn mc) rfl;have yx:Below w.heap.size w wr:=(uh Bc).trans (hgs.but.below _ (uh Bc).size (fun b hb=>by rw[yt] at hb;omega));have Wu:=ak yx;clear hgs hrb hr2 yx Ue Jb Bc HWT Ho HPZ HLC HR hlt v18 hu' hu2 hx1 hx2 hx3 hsl;go_wp2;refine bodyPost_ret (v:=.agg #[.slice ma mn mc]) (by simp[results,Tryz.results9,go_sem,q0]) rfl ?_;rw[uh Dc];refine⟨.slice ma mn mc,bs,rfl,yj.ay4 ((uh HGG).row.fr Iy (fun b hb=>zf _ _ _ _ (fun e=>?_)) (by simp[World.setCell])) (by omega),(uh Wu).setCell (gu _) _⟩;have h8:=((uh HGG).row.nd.2 b hb).1;have e':b=w.heap.size:=e;omega
end Go.Proofs.YtfeejeflmcapoaaGreatDoor
