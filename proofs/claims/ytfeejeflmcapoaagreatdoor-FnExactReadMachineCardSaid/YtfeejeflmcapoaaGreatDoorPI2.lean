import Derived.Test.YtfeejeflmcapoaaGreatDoorRI3
import Derived.Test.YtfeejeflmcapoaaGreatDoorRI5
import Derived.Test.YtfeejeflmcapoaaGreatDoorRH1
set_option linter.unusedSimpArgs false
set_option linter.unusedVariables false
set_option maxHeartbeats 4000000
namespace Go.Proofs.YtfeejeflmcapoaaGreatDoor
open Go.RowKit
open Go.Shelf
theorem aqe (t:ku) (w:bf) (hE:Env w) (h:ac4 t) (hn:t.name.size<=1048576) :
  Calls Tryz.prog 131 #[.agg #[.int .i64 t.op,.int .i64 t.val,.string t.name]] w (Ans (.string (partT t)) w):=by
 have hA:Below w.heap.size w (w.alloc (.cells #[.int .i64 t.op,.int .i64 t.val,.string t.name] 83)):=(gy _ _).alloc (gq _) _;have hnum:=h.num;have a9u:=h.tru;have HA:=hide hA;have HE:=hide (hE.below hA hE.three);clear h hA hE;obtain⟨op,val,name⟩:=t;simp only at *;have aow:=hide hnum;have bdx:=hide a9u;clear hnum a9u
 by_cases h1:op=1
 ·have HP:Hid (partT ⟨op,val,name⟩=qm val):=by
   refine hide ?_;unfold partT;simp[h1]
  generalize partT ⟨op,val,name⟩=pt at *;subst h1;have hv:=uh aow (by omega);have HC:=hide (ad1 val hv (w.alloc (.cells #[.int .i64 1,.int .i64 val,.string name] 83)) (uh HE));have hz:=Qo val hv;generalize qm val=dv at *;clear hv;go_enter Tryz.func131,Tryz.ntmps131;go_wp2_with fail;refine(uh HC).mono ?_;rintro e w1 ⟨rfl,hb1⟩;have HB:=hide ((uh HA).trans (hb1.mono (uh HA).size));clear hb1;go_wp2;go_ret;exact⟨Bv (uh HP).symm,uh HB⟩
 by_cases h2:op=2
 ·have HP:Hid (partT ⟨op,val,name⟩=flT val):=by
   refine hide ?_;unfold partT;simp[h2]
  generalize partT ⟨op,val,name⟩=pt at *;subst h2;have HC:=hide (aox val (w.alloc (.cells #[.int .i64 2,.int .i64 val,.string name] 83)) (uh bdx rfl));generalize flT val=dv at *;go_enter Tryz.func131,Tryz.ntmps131;go_wp2_with fail;refine(uh HC).mono ?_;rintro e w1 ⟨rfl,rfl⟩;go_wp2;go_ret;exact⟨Bv (uh HP).symm,uh HA⟩
 by_cases h3:op=3
 ·have HP:Hid (partT ⟨op,val,name⟩=Zf++name):=by
   refine hide ?_;unfold partT;simp[h3]
  generalize partT ⟨op,val,name⟩=pt at *;subst h3;go_enter Tryz.func131,Tryz.ntmps131;go_wp2;go_ret;exact⟨Bv (uh HP).symm,uh HA⟩
 by_cases Sj:op=25
 ·have HP:Hid (partT ⟨op,val,name⟩=Wat++qm val):=by
   refine hide ?_;unfold partT;simp[Sj]
  generalize partT ⟨op,val,name⟩=pt at *;subst Sj;have hv:=uh aow (by omega);have HC:=hide (ad1 val hv (w.alloc (.cells #[.int .i64 25,.int .i64 val,.string name] 83)) (uh HE));have hz:=Qo val hv;generalize qm val=dv at *;clear hv;go_enter Tryz.func131,Tryz.ntmps131;go_wp2_with fail;refine(uh HC).mono ?_;rintro e w1 ⟨rfl,hb1⟩;have HB:=hide ((uh HA).trans (hb1.mono (uh HA).size));clear hb1;go_wp2;go_ret;exact⟨Bv (uh HP).symm,uh HB⟩
 by_cases h4:op=4
 ·have HP:Hid (partT ⟨op,val,name⟩=adb):=by
   refine hide ?_;unfold partT;simp[h4]
  generalize partT ⟨op,val,name⟩=pt at *;subst h4;go_enter Tryz.func131,Tryz.ntmps131;go_wp2;go_ret;exact⟨Bv (uh HP).symm,uh HA⟩
 by_cases h5:op=5
 ·have HP:Hid (partT ⟨op,val,name⟩=ade):=by
   refine hide ?_;unfold partT;simp[h5]
  generalize partT ⟨op,val,name⟩=pt at *;subst h5;go_enter Tryz.func131,Tryz.ntmps131;go_wp2;go_ret;exact⟨Bv (uh HP).symm,uh HA⟩
 by_cases h20:op=20
 ·have HP:Hid (partT ⟨op,val,name⟩=Wq):=by
   refine hide ?_;unfold partT;simp[h20]
  generalize partT ⟨op,val,name⟩=pt at *;subst h20;go_enter Tryz.func131,Tryz.ntmps131;go_wp2;go_ret;exact⟨Bv (uh HP).symm,uh HA⟩
 have HP:Hid (partT ⟨op,val,name⟩=sgT op):=by
  refine hide ?_;unfold partT;simp[h1,h2,h3,Sj,h4,h5,h20]
 have HC:=hide (aqf op (w.alloc (.cells #[.int .i64 op,.int .i64 val,.string name] 83)) (uh HE).ops);generalize partT ⟨op,val,name⟩=pt at *;generalize sgT op=sg at *;go_enter Tryz.func131,Tryz.ntmps131;go_wp2_with fail;refine(uh HC).mono ?_;rintro e w1 ⟨rfl,hb1⟩;have HB:=hide ((uh HA).trans (hb1.mono (uh HA).size));clear hb1;go_wp2;go_ret;exact⟨Bv (uh HP).symm,uh HB⟩
theorem a5b:(Tryz.prog.info? 9).map (fun i=>(i.zero,i.size,i.bytes))=some (some (.string ByteArray.empty),1,16):=by kernel_rfl
def arh (ps:List dh) (w:bf) (e:Ending) (w':bf):Prop:=∃v,e=.returned v∧iy 1 16 wz 0 w' v ps∧Below w.heap.size w w'
theorem ab2 (c:List ku) (v:Value) (w:bf) (hE:Env w) (hv:iy 3 32 Gp 0 w v c) (hc:aep c) :
  Calls Tryz.prog 102 #[v] w (arh (tu c) w):=by
 have Vs:=hide hc;have hl:=hc.len;have HE:=hide hE;obtain⟨a,cap,rfl,_,_,hx⟩:=hv;have HX:=hide hx;have Bj:Hid ((tu c).length=c.length):=V3 c;have HPS:=hide (adf hc);have HPG:Hid (∀k (h:k<c.length),∃h2:k<(tu c).length,(tu c)[k]=partT c[k]):=fun k h=>⟨by rw[V3];exact h,by simp[tu]⟩
 have hmk:=aau (P:=Tryz.prog) 40 9 _ _ _ Tryz.underlying40 a5b c.length (by omega) (by omega);clear hx hc hE;generalize tu c=ps at *;go_enter Tryz.func102,Tryz.ntmps102;go_wp2
 go_loopg [11] c.length (fun g i wr=>∃(k:Nat),k<=c.length∧g=c.length-k∧i=.int .i64 k∧Hid (Below w.heap.size w wr)∧Hid (Nk wr w.heap.size c.length)∧Hid (afm 1 wz (w.heap.size+1) wr w.heap.size ps k))
 case atStart=>exact⟨0,jg _,by omega,rfl,(gy _ _).alloc (gq _) _,Nk.made _ _ _ _,au8 _ _ _ _ _ _⟩
 case round =>
  obtain⟨k,hk,hg,rfl,Ah,af6,HF⟩:=hrel;clear hmk;have HG:=hide hg;clear hg
  by_cases hlt:k<c.length
  ·obtain⟨b,o,cs,rfl,_,hb,hcs,hc,hR⟩:=uh HX k hlt
   have hc:∀j (hj:j<cs.length),wr.cell? ⟨b,o+k*3+j,none⟩=some cs[j]:=fun j hj=>by rw[(uh Ah).cell (p:=⟨b,_,none⟩) hb];exact hc j hj
   obtain⟨rfl,hsn,ho,hv⟩:=hR;have c0:=hc 0 (by simp);have c1:=hc 1 (by simp);have c2:=hc 2 (by simp);simp only[jr,jh,ny,o8] at c0 c1 c2;have Ku:(k:Int)<(c.length:Int):=by omega
   have hA:Below wr.heap.size wr (wr.alloc (.cells #[.int .i64 c[k].op,.int .i64 c[k].val,.string c[k].name] 83)):=(gy _ _).alloc (gq _) _;have HC:=hide (aqe c[k] (wr.alloc (.cells #[.int .i64 c[k].op,.int .i64 c[k].val,.string c[k].name] 83)) (((uh HE).below (uh Ah) (uh HE).three).below hA (jq (uh HE).three (uh Ah).size)) ((uh Vs).pt _ (pz hlt)) ((uh Vs).nm _ (pz hlt)));obtain⟨hk2,hpk⟩:=uh HPG k hlt;have hpz:=uh HPS ps[k] (pz hk2);rw[hpk] at hpz;have HA:=hide hA;have HPK:=hide hpk;clear hc hcs hsn ho hv hA hpk;generalize partT c[k]=pt at *;generalize c[k]=it at *;obtain⟨op,val,name⟩:=it;simp only at *;go_wp2_with fail;refine(uh HC).mono ?_;rintro e w1 ⟨rfl,hb1⟩;have hQ:Below wr.heap.size wr w1:=(uh HA).trans (hb1.mono (uh HA).size);obtain⟨x0,d0⟩:=((uh af6).below hQ).cell (i:=k) hlt;have f0:=((uh af6).below hQ).frozen k;have step:=au7 zo Xf hk2 (gq _) (uh Ah) (by rw[uh Bj,jr];exact uh af6) (uh HF) hQ rfl (cs:=[.string pt]) (by rw[uh HPK];exact⟨rfl,by unfold Len;omega⟩);rw[uh Bj] at step;simp only[jr] at step;have ST:=hide step;clear step hb1 hQ;go_wp2
   go_roundg (c.length-(k+1))
   case measure=>have:=uh HG;omega
   case rel=>exact⟨k+1,by omega,rfl,by go_num,uh ST⟩
  ·have e:k=c.length:=by omega
   have hb0:=(uh af6).lt
   have D:Hid (iy 1 16 wz 0 wr (.slice (some ⟨w.heap.size,0,none⟩) c.length c.length) ps):=by
    have h8:=au9 (qy:=16) Xf hb0 (by rw[uh Bj];unfold Len;omega) (by rw[uh Bj];unfold Len;omega) (by have:=uh HF;rw[e,←uh Bj] at this;exact this);rw[uh Bj] at h8;exact h8.lower Xf (jg _)
   clear e hb0;go_wp2;go_ret;exact⟨_,rfl,uh D,uh Ah⟩
theorem al9 (l:List dh) (v:Value) (s:dh) (w:bf) (hv:iy 1 16 wz 0 w v l) :
  Calls Tryz.prog 93 #[v,.string s] w fun e w'=>e=.returned (.int .i64 (jd l s))∧w'=w:=by
 obtain⟨a,cap,rfl,_,hn,hx⟩:=hv;unfold Len at hn;have HX:=hide hx;clear hx;go_enter Tryz.func93,Tryz.ntmps93;go_wp2
 go_loopg [8] l.length (fun g i wr=>∃(k:Nat),k<=l.length∧g=l.length-k∧i=.int .i64 k∧wr=w∧∀j (h:j<l.length),j<k->(l[j].toList == s.toList)=false)
 case atStart=>exact⟨0,by omega,by omega,rfl,rfl,fun j _ h2=>by omega⟩
 case round =>
  obtain⟨k,hk,hg,rfl,rfl,hall⟩:=hrel;have HG:=hide hg;have HA:=hide hall;clear hg hall
  by_cases hlt:k<l.length
  ·obtain⟨b,o,cs,rfl,_,hb,hcs,hc,hR⟩:=uh HX k hlt
   obtain⟨rfl,hsn⟩:=hR;have c0:=hc 0 (by simp);simp only[jr,jh,ny,o8] at c0;clear hc hcs;have Ku:(k:Int)<(l.length:Int):=by omega
   have hcomm:(s.toList == l[k].toList)=(l[k].toList == s.toList):=by rw[zk,zk];exact decide_eq_decide.2 ⟨fun e=>e.symm,fun e=>e.symm⟩
   cases he:(l[k].toList == s.toList)
   ·have A':∀j (h:j<l.length),j<k+1->(l[j].toList == s.toList)=false:=by
     intro j h h1
     by_cases e:j=k
     ·subst e;exact he
     ·exact uh HA j h (by omega)
    have HA':=hide A';rw[he] at hcomm;clear A' he;go_wp2
    go_roundg (l.length-(k+1))
    case measure=>have:=uh HG;omega
    case rel=>exact⟨k+1,by omega,rfl,by go_num,rfl,uh HA'⟩
   ·have HF:=hide (aco l k s hlt he (uh HA))
    rw[he] at hcomm;clear he;go_wp2;go_ret;exact⟨Td (uh HF).symm,rfl⟩
  ·have HF:=hide (aj0 l s (fun j hj=>uh HA j hj (by omega)))
   have Ku:¬(k:Int)<(l.length:Int):=by omega
   go_wp2;go_ret;exact⟨Td (uh HF).symm,rfl⟩
theorem a5c (p:dh):(p.toList == [98,111,111,108])=decide (p=ae5):=Ib p ae5 _ rfl
theorem ama (f:List dh) (v:Value) (w:bf) (hv:iy 1 16 wz 0 w v f):Calls Tryz.prog 31 #[v] w (fun e w'=>e=.returned (.agg #[.string (Ll f).name,.int .i64 (Ll f).type])∧Below w.heap.size w w'):=by
 obtain⟨PO,Gv⟩:∃PO:Ending->bf->Prop,PO=(fun e w'=>e=.returned (.agg #[.string (Ll f).name,.int .i64 (Ll f).type])∧Below w.heap.size w w'):=⟨_,rfl⟩;rw[←Gv];have Dn:=hide Gv;clear Gv;obtain⟨a,cap,rfl⟩:=hv.shape;obtain⟨X,hX⟩:∃z,z=w.alloc (.cells #[.string ⟨#[]⟩,.int .i64 0] 54):=⟨_,rfl⟩;have hA:Below w.heap.size w X:=by rw[hX];exact(gy _ _).alloc (gq _) _
 have Ef:Hid (jc X w.heap.size 54 #[.string ⟨#[]⟩,.int .i64 0]):=hide (by rw[hX];exact og _ _ _);have HB:=hide hA;have hvX:=hv.stays zo hA;have HP:=hide (Yl f _ X 2 (by omega) hvX);have HN:=hide (aa5 f _ X 1 (by omega) hvX);have HX:=hide hX;clear hX hA hv hvX;go_enter Tryz.func31,Tryz.ntmps31;go_wp2_with fail;rw[←uh HX];refine(uh HP).mono ?_;rintro e w9 ⟨rfl,Qm⟩;obtain rfl:=Qm.symm;have e_b:=a5c (fA f 2)
 by_cases hb:fA f 2=ae5
 ·rw[jf hb] at e_b
  have HE:Hid (Ll f=⟨fA f 1,2⟩):=hide (by unfold Ll;rw[gu hb]);clear hb;go_wp2_with fail;refine(uh HN).mono ?_;rintro e w1 ⟨rfl,hb1⟩;have hk1:=(uh Ef).below hb1 (uh Ef).lt;have hB1:Below w.heap.size w w1:=(uh HB).trans (hb1.mono (uh HB).size);have hbx:=(hk1.set 0 (.string (fA f 1))).set 1 (.int .i64 2)
  have qc:Hid (PO (.returned (.agg #[.string (fA f 1),.int .i64 2])) ((w1.setCell ⟨w.heap.size,0,none⟩ (.string (fA f 1))).setCell ⟨w.heap.size,1,none⟩ (.int .i64 2))):=hide (by
   rw[uh Dn];exact⟨by rw[uh HE],(hB1.setCell (p:=⟨w.heap.size,0,none⟩) (gq _) _).setCell (p:=⟨w.heap.size,1,none⟩) (gq _) _⟩)
  have Om:=hide (And.intro (hbx.cell (i:=0) (v:=.string (fA f 1)) rfl) (hbx.cell (i:=1) (v:=.int .i64 2) rfl));have c0:=hk1.cell (i:=0) (v:=.string ⟨#[]⟩) rfl;have c1:=hk1.cell (i:=1) (v:=.int .i64 0) rfl;have g0:=hk1.free 0;have g1:=hk1.free 1;have U1:=hk1.lt;clear hbx hb1 hk1 hB1;go_wp2;obtain⟨f0,f1⟩:=uh Om;exact bodyPost_ret (v:=.agg #[.string (fA f 1),.int .i64 2]) (by simp[results,Tryz.results31,go_sem,f0,f1]) rfl (uh qc)
 ·rw[iw hb] at e_b
  have HE:Hid (Ll f=⟨fA f 1,1⟩):=hide (by unfold Ll;rw[ay hb]);clear hb;go_wp2_with fail;refine(uh HN).mono ?_;rintro e w1 ⟨rfl,hb1⟩;have hk1:=(uh Ef).below hb1 (uh Ef).lt;have hB1:Below w.heap.size w w1:=(uh HB).trans (hb1.mono (uh HB).size);have hbx:=(hk1.set 0 (.string (fA f 1))).set 1 (.int .i64 1)
  have qc:Hid (PO (.returned (.agg #[.string (fA f 1),.int .i64 1])) ((w1.setCell ⟨w.heap.size,0,none⟩ (.string (fA f 1))).setCell ⟨w.heap.size,1,none⟩ (.int .i64 1))):=hide (by
   rw[uh Dn];exact⟨by rw[uh HE],(hB1.setCell (p:=⟨w.heap.size,0,none⟩) (gq _) _).setCell (p:=⟨w.heap.size,1,none⟩) (gq _) _⟩)
  have Om:=hide (And.intro (hbx.cell (i:=0) (v:=.string (fA f 1)) rfl) (hbx.cell (i:=1) (v:=.int .i64 1) rfl));have c0:=hk1.cell (i:=0) (v:=.string ⟨#[]⟩) rfl;have c1:=hk1.cell (i:=1) (v:=.int .i64 0) rfl;have g0:=hk1.free 0;have g1:=hk1.free 1;have U1:=hk1.lt;clear hbx hb1 hk1 hB1;go_wp2;obtain⟨f0,f1⟩:=uh Om;exact bodyPost_ret (v:=.agg #[.string (fA f 1),.int .i64 1]) (by simp[results,Tryz.results31,go_sem,f0,f1]) rfl (uh qc)
theorem aw4 (l:List Value) (a:Nat) (x y z:Value) (h:a+2<l.length):(((l.set a x).set (a+1) y).set (a+2) z).take (a+3)=l.take a++[x,y,z]:=by
 obtain⟨p,r,hl,hp⟩:∃p r,l=p++r∧p.length=a:=⟨l.take a,l.drop a,(Pj a l).symm,by rw[Nq];omega⟩;subst hl hp
 obtain⟨b1,b2,b3,r',rfl⟩:∃b1 b2 b3 r',r=b1::b2::b3::r':=by
  rw[je] at h
  match r,h with
  | b1::b2::b3::r',_=>exact⟨b1,b2,b3,r',rfl⟩
  | [],h=>simp at h;omega
  | [_],h=>simp at h
  | [_,_],h=>simp at h
 rw[List.set_append_right _ _ (by omega),List.set_append_right _ _ (by omega),List.set_append_right _ _ (by omega),show p.length-p.length=0 by omega,show p.length+1-p.length=1 by omega,show p.length+2-p.length=2 by omega,List.take_append,List.take_append];rw[Qg (show p.length<=p.length+3 by omega),show p.length+3-p.length=3 by omega,Qg (gq _),Nat.sub_self];simp
theorem a0t {w:bf} {base g q cap:Nat} {xs:List ku} (h:jm Gx w base (.slice (some ⟨g,0,none⟩) q cap) xs):q=xs.length∧base<=g∧g<w.heap.size∧∃cur,jc w g 83 cur∧cur.size=cap*3∧cap<=maxLen∧cur.toList.take (xs.length*3)=xs.flatMap Gx.f:=by
 obtain⟨h1,h2⟩:=h;rcases h2 with ⟨e,_⟩|⟨g',cap',cur,e,hb,hg,hn,hm,hs,ht⟩
 ·cases e
 ·simp only[qw,uo,Addr.mk.injEq] at e
  obtain⟨⟨rfl,_⟩,rfl,rfl⟩:=e;exact⟨rfl,hb,(Jk.1 hg).1,cur,hg,hs,hm,ht⟩
theorem a5d {w:bf} {base g cap:Nat} {xs:List ku} (t:ku) (h:jm Gx w base (.slice (some ⟨g,0,none⟩) xs.length cap) xs) (hq:xs.length<cap):(∀j,j<3->(∃u,w.cell? ⟨g,xs.length*3+j,none⟩=some u)∧w.frozen? ⟨g,xs.length*3+j,none⟩=false)∧jm Gx (((w.setCell ⟨g,xs.length*3,none⟩ (.int .i64 t.op)).setCell ⟨g,xs.length*3+1,none⟩ (.int .i64 t.val)).setCell ⟨g,xs.length*3+2,none⟩ (.string t.name)) base (.slice (some ⟨g,0,none⟩) (xs++[t]).length cap) (xs++[t]):=by
 obtain⟨_,hb,hlt,cur,hblk,hs,hm,ht⟩:=a0t h;have h3:=((hblk.set (xs.length*3) (.int .i64 t.op)).set (xs.length*3+1) (.int .i64 t.val)).set (xs.length*3+2) (.string t.name);refine⟨fun j hj=>⟨⟨_,hblk.cell (i:=xs.length*3+j) (v:=cur[xs.length*3+j]'(by rw[hs];omega)) (Array.getElem?_eq_getElem _)⟩,hblk.free _⟩,?_⟩;refine⟨by rw[Rx Gx.f Gx.sz Gx.hf],Or.inr ⟨g,cap,_,rfl,hb,h3,by rw[je,Ob];exact hq,hm,by simp[hs];rfl,?_⟩⟩;rw[je,Ob];have hcl:cur.toList.length=cap*3:=by rw[Array.length_toList];exact hs
 have bdy:xs.length*3+2<cur.toList.length:=by omega
 have e:(xs.length+1)*Gx.sz=xs.length*3+3:=by show (xs.length+1)*3=_;omega
 rw[e,Array.toList_setIfInBounds,Array.toList_setIfInBounds,Array.toList_setIfInBounds,aw4 _ _ _ _ _ bdy,ht,List.flatMap_append];rfl
theorem at7 (ps:List dh) (q:Nat) (hq:q<ps.length):Bf (ps.take (q+1))=Bf (ps.take q)++[Hq ps[q]]:=by
 unfold Bf;rw[Fb hq,Il];rfl
def CdP (ps:List dh) (w:bf) (e:Ending) (w':bf):Prop:=∃v',e=.returned v'∧jm Gx w' w.heap.size v' (Bf ps)∧Below w.heap.size w w'
theorem a5e:(Tryz.prog.info? 83).map (fun i=>(i.zero,i.size,i.bytes))=some (some (.agg #[.int .i64 0,.int .i64 0,.string ByteArray.empty]),3,32):=by kernel_rfl
theorem amb (ps:List dh) (v:Value) (w:bf) (hE:Zc w) (hv:iy 1 16 wz 0 w v ps) (hs:∀p,p∈ps->p.size<=1048576) (hl:ps.length<=1048577):Calls Tryz.prog 60 #[v] w (CdP ps w):=by
 obtain⟨PO,Gv⟩:∃PO:Ending->bf->Prop,PO=CdP ps w:=⟨_,rfl⟩;rw[←Gv];have Dn:=hide Gv;clear Gv;obtain⟨a,cap,rfl⟩:=hv.shape;have HS:=hide hv;have HZ:=hide hs;have HE:=hide hE;clear hv hs hE;obtain⟨n,hn⟩:∃z,z=ps.length:=⟨_,rfl⟩;have HN:=hide hn;rw[←hn] at hl ⊢;clear hn;have hmk:=aau (P:=Tryz.prog) 56 83 _ _ _ Tryz.underlying56 a5e n (by omega) (by omega);have HST:Hid (jm Gx (w.alloc (.cells (madeCells (Value.agg #[.int .i64 0,.int .i64 0,.string ByteArray.empty]).cells (n*3)) 83)) w.heap.size (.slice (some ⟨w.heap.size,0,none⟩) 0 n) []∧Below w.heap.size w (w.alloc (.cells (madeCells (Value.agg #[.int .i64 0,.int .i64 0,.string ByteArray.empty]).cells (n*3)) 83))):=hide ⟨World.ownsRow_made w _ n (gq _) (by simp[maxLen];omega) (size_madeCells _ _),(gy _ _).alloc (gq _) _⟩;go_enter Tryz.func60,Tryz.ntmps60;go_wp2
 go_loopg [11] n (fun gh ix wr=>∃(q:Nat),q<=n∧gh=n-q∧ix=.int .i64 q∧Hid (jm Gx wr w.heap.size (.slice (some ⟨w.heap.size,0,none⟩) q n) (Bf (ps.take q)))∧Hid (Below w.heap.size w wr))
 case atStart=>exact⟨0,jg _,by omega,rfl,hide (uh HST).1,hide (uh HST).2⟩
 case round =>
  obtain⟨q,hq,hg,rfl,HO,HB⟩:=hrel;have HG:=hide hg;clear hg HST hmk
  by_cases hlt:q<n
  ·have hlp:q<ps.length:=by rw[←uh HN];exact hlt
   obtain⟨b,o,hab,hb,hc,_⟩:=aha (uh HS) q hlp
   have z0:wr.cell? ⟨b,o+q,none⟩=some (.string (fA ps q)):=by
    rw[(uh HB).cell (p:=⟨b,_,none⟩) hb];exact hc
   have hpz:(fA ps q).size<=1048576:=by rw[←Jo ps q hlp];exact uh HZ _ (pz hlp)
   have HIT:=hide (aw5 (fA ps q) wr ((uh HE).below (uh HB) (uh HE).env.three) hpz);have HTK:Hid (Bf (ps.take (q+1))=Bf (ps.take q)++[Hq (fA ps q)]):=hide (by rw[at7 ps q hlp,Jo]);have Hy:Hid ((Bf (ps.take q)).length=q):=hide (by unfold Bf;rw[Ad,Nq];omega);have Ku:(q:Int)<(n:Int):=by omega
   subst hab;generalize fA ps q=p at *;generalize Hq p=t at *;generalize Bf (ps.take q)=pre at *;clear hc hlp;go_wp2_with fail;refine(uh HIT).mono ?_;rintro e w1 ⟨rfl,hb1⟩;have ho1:=(uh HO).below hb1;have a9v:jm Gx w1 w.heap.size (.slice (some ⟨w.heap.size,0,none⟩) pre.length n) pre:=by rw[uh Hy];exact ho1
   obtain⟨hcs,yc⟩:=a5d t a9v (by rw[uh Hy];exact hlt);rw[uh Hy] at hcs yc;obtain⟨⟨u0,c0⟩,f0⟩:=hcs 0 (by omega);obtain⟨⟨u1,c1⟩,f1⟩:=hcs 1 (by omega);obtain⟨⟨u2,c2⟩,f2⟩:=hcs 2 (by omega);rw[jh] at c0 f0;have hgl:w.heap.size<w1.heap.size:=(Bd ho1 w.heap.size rfl).2
   have HO5:Hid (jm Gx (((w1.setCell ⟨w.heap.size,q*3,none⟩ (.int .i64 t.op)).setCell ⟨w.heap.size,q*3+1,none⟩ (.int .i64 t.val)).setCell ⟨w.heap.size,q*3+2,none⟩ (.string t.name)) w.heap.size (.slice (some ⟨w.heap.size,0,none⟩) (q+1) n) (Bf (ps.take (q+1)))):=hide (by
    rw[uh HTK];have e9:(pre++[t]).length=q+1:=by rw[je,uh Hy];rfl
    rw[e9] at yc;exact yc)
   have Hf:Hid (Below w.heap.size w (((w1.setCell ⟨w.heap.size,q*3,none⟩ (.int .i64 t.op)).setCell ⟨w.heap.size,q*3+1,none⟩ (.int .i64 t.val)).setCell ⟨w.heap.size,q*3+2,none⟩ (.string t.name))):=hide (((((uh HB).trans (hb1.mono (uh HB).size)).setCell (p:=⟨w.heap.size,q*3,none⟩) (gq _) _).setCell (p:=⟨w.heap.size,q*3+1,none⟩) (gq _) _).setCell (p:=⟨w.heap.size,q*3+2,none⟩) (gq _) _);clear ho1 a9v yc hcs hb1 z0;go_wp2
   go_roundg (n-(q+1))
   case measure=>have:=uh HG;omega
   case rel=>exact⟨q+1,by omega,rfl,by go_num,HO5,Hf⟩
  ·have hqn:q=n:=by omega
   have Ku:¬(q:Int)<(n:Int):=by omega
   have dlt:decide ((q:Int)<(n:Int))=false:=iw Ku
   have qc:Hid (PO (.returned (.slice (some ⟨w.heap.size,0,none⟩) n n)) wr):=hide (by
    rw[uh Dn];refine⟨_,rfl,?_,uh HB⟩;have h9:=uh HO;rw[hqn,uh HN,Eb] at h9;rw[uh HN];exact h9)
   clear hqn;go_wp2;exact uh qc
theorem amc {B:Nat} {w:bf} {v:Value} {cs:List dw} {bs:List Nat} (h:yh Fa Dj B w v cs bs) (hB:B<=w.heap.size):∃css,jm Fa w B v css∧css.length=cs.length∧∀(wA w5:bf) (v':Value) (c:Raw 7) (nm:dh),Len nm.size->c.1=[.string nm,.slice none 0 0,.slice none 0 0,.slice none 0 0,.slice none 0 0,.slice none 0 0,.slice none 0 0]->Below w.heap.size w wA->jm Fa w5 B v' (css++[c])->wA.grownBy w5 v.ownBlock->(∀b,v'.ownBlock=some b->v.ownBlock=some b∨wA.heap.size<=b)->(cs.length+1)*160<=140737488355328->∃bs',yh Fa Dj B w5 v' (cs++[K0 nm]) bs':=by
 obtain⟨css,subs,h1,h2,h3,rfl,h4,h5⟩:=h;have hl:=h3.len;refine⟨css,h1,hl.1,fun wA w5 v' c nm hn hc hA yc hg5 Gm hlen=>⟨_,ajk I8 h1 h3 h4 h5 (gy _ _) hA (c:=c) (y:=K0 nm) (s:=[]) ?_ List.nodup_nil (fun b hb=>by cases hb) hB yc hg5 Gm (by rw[je,hl.1];exact hlen)⟩⟩;rw[hc];have z:∀{α:Type} (E:F6 Tryz.prog α) (ok:α->Prop),Ub E ok w (.slice none 0 0) [] []:=fun E ok=>⟨jm.nil _ _,(fun x hx=>by cases hx),by simp,rfl⟩
 exact⟨_,_,_,_,_,_,[],[],[],[],[],[],rfl,hn,z _ _,z _ _,z _ _,z _ _,z _ _,⟨[],[],jm.nil _ _,by simp,.nil,rfl⟩,rfl⟩
theorem Gw.cls {W1:bf} {mb:Nat} {cs cs':List dw} {mv v':Value} {bs bs':List Nat} {w wA w5:bf} {css:List (Raw 7)} (h:Gw W1 mb cs mv bs w) (hm:mb<W1.heap.size) (hA:Below w.heap.size w wA) (ho:jm Fa w W1.heap.size mv css) (hg:wA.grownBy w5 mv.ownBlock) (hmk:yh Fa Dj W1.heap.size w5 v' cs' bs'):Gw W1 mb cs' v' bs' (w5.setCell ⟨mb,0,none⟩ v'):=by
 have Zq:=ho.below hA;have hb5:jc w5 mb 24 #[mv]:=(RwB.Xp Zq hg).blk (h.box.below hA h.box.lt) (by decide);have hset:∀b,b≠mb->(w5.setCell ⟨mb,0,none⟩ v').heap[b]?=w5.heap[b]?:=fun b hb=>yx _ _ _ _ (fun e=>hb e)
 have hz:(w5.setCell ⟨mb,0,none⟩ v').heap.size=w5.heap.size:=by simp[World.setCell]
 refine⟨hb5.set 0 v',hmk.fr I8 (fun b hb=>hset b (by have:=(hmk.nd.2 b hb).1;omega)) (by omega),⟨?_,?_,?_,?_,fun b hb hs=>?_⟩⟩
 ·exact hg.os.trans (hA.os.trans h.but.os)
 ·exact hg.tape.trans (hA.tape.trans h.but.tape)
 ·exact hg.output.trans (hA.output.trans h.but.output)
 ·rw[hz];exact jq h.but.size (jq hA.size hg.size)
 ·have hbw:b<w.heap.size:=qj hb h.but.size
  refine(hset b (by simpa using hs)).trans ((hg.block b (qj hbw hA.size) (fun e=>?_)).trans ((hA.block b hbw).trans (h.but.block b hb hs)));have:=(Bd ho b e.symm).1;omega
end Go.Proofs.YtfeejeflmcapoaaGreatDoor
