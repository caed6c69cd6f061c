import Derived.Deep.Cut
import Derived.Test.YtfeejeflmcapoaaGreatDoorRI8
import Derived.RangeFuncWrites
import Derived.Test.YtfeejeflmcapoaaGreatDoorPS1
import Derived.BigRegion
import Derived.Lib.SplitLaws
import Derived.Test.YtfeejeflmcapoaaGreatDoorRG1
import Derived.RangeFuncNested
import Derived.RangeFuncBound
import Derived.RangeFuncCalls
import Derived.RangeFuncFrom
import Derived.RangeFuncLeaves
import Derived.Shelf.Abstract
import Derived.Shelf.RegionOpen
import Derived.WalkKit
import Derived.OwnWalkIn
import Derived.TacticsInMore
import Derived.LoopNIn
import Derived.LoopIn
set_option linter.unusedSimpArgs false
set_option linter.unusedVariables false
set_option maxHeartbeats 4000000
namespace Go.Proofs.YtfeejeflmcapoaaGreatDoor
open Go.RowKit
theorem ab8 {w X:cu} {s:lu} {oa ca aa:Option Addr} {on oc cn cc an ac:Nat} {sb:List Nat} (hb:Below w.heap.size w X) (hr:jd X w.heap.size 60 #[.int .i64 0,.string ⟨#[]⟩,.int .i64 0,.slice none 0 0,.slice none 0 0,.slice none 0 0]) (hT:Y4 X [.int .i64 s.kind,.string s.name,.int .i64 s.at_,.slice oa on oc,.slice ca cn cc,.slice aa an ac] s sb) (hnd:sb.Nodup) (hsb:∀b,b∈sb->w.heap.size<b/\b<X.heap.size):StP s w (.returned (.agg #[.int .i64 s.kind,.string s.name,.int .i64 s.at_,.slice oa on oc,.slice ca cn cc,.slice aa an ac])) ((((((X.setCell ⟨w.heap.size,0,none⟩ (.int .i64 s.kind)).setCell ⟨w.heap.size,1,none⟩ (.string s.name)).setCell ⟨w.heap.size,2,none⟩ (.int .i64 s.at_)).setCell ⟨w.heap.size,3,none⟩ (.slice oa on oc)).setCell ⟨w.heap.size,4,none⟩ (.slice ca cn cc)).setCell ⟨w.heap.size,5,none⟩ (.slice aa an ac))/\((((((X.setCell ⟨w.heap.size,0,none⟩ (.int .i64 s.kind)).setCell ⟨w.heap.size,1,none⟩ (.string s.name)).setCell ⟨w.heap.size,2,none⟩ (.int .i64 s.at_)).setCell ⟨w.heap.size,3,none⟩ (.slice oa on oc)).setCell ⟨w.heap.size,4,none⟩ (.slice ca cn cc)).setCell ⟨w.heap.size,5,none⟩ (.slice aa an ac)).cell? ⟨w.heap.size,0,none⟩=some (.int .i64 s.kind)/\((((((X.setCell ⟨w.heap.size,0,none⟩ (.int .i64 s.kind)).setCell ⟨w.heap.size,1,none⟩ (.string s.name)).setCell ⟨w.heap.size,2,none⟩ (.int .i64 s.at_)).setCell ⟨w.heap.size,3,none⟩ (.slice oa on oc)).setCell ⟨w.heap.size,4,none⟩ (.slice ca cn cc)).setCell ⟨w.heap.size,5,none⟩ (.slice aa an ac)).cell? ⟨w.heap.size,1,none⟩=some (.string s.name)/\((((((X.setCell ⟨w.heap.size,0,none⟩ (.int .i64 s.kind)).setCell ⟨w.heap.size,1,none⟩ (.string s.name)).setCell ⟨w.heap.size,2,none⟩ (.int .i64 s.at_)).setCell ⟨w.heap.size,3,none⟩ (.slice oa on oc)).setCell ⟨w.heap.size,4,none⟩ (.slice ca cn cc)).setCell ⟨w.heap.size,5,none⟩ (.slice aa an ac)).cell? ⟨w.heap.size,2,none⟩=some (.int .i64 s.at_)/\((((((X.setCell ⟨w.heap.size,0,none⟩ (.int .i64 s.kind)).setCell ⟨w.heap.size,1,none⟩ (.string s.name)).setCell ⟨w.heap.size,2,none⟩ (.int .i64 s.at_)).setCell ⟨w.heap.size,3,none⟩ (.slice oa on oc)).setCell ⟨w.heap.size,4,none⟩ (.slice ca cn cc)).setCell ⟨w.heap.size,5,none⟩ (.slice aa an ac)).cell? ⟨w.heap.size,3,none⟩=some (.slice oa on oc)/\((((((X.setCell ⟨w.heap.size,0,none⟩ (.int .i64 s.kind)).setCell ⟨w.heap.size,1,none⟩ (.string s.name)).setCell ⟨w.heap.size,2,none⟩ (.int .i64 s.at_)).setCell ⟨w.heap.size,3,none⟩ (.slice oa on oc)).setCell ⟨w.heap.size,4,none⟩ (.slice ca cn cc)).setCell ⟨w.heap.size,5,none⟩ (.slice aa an ac)).cell? ⟨w.heap.size,4,none⟩=some (.slice ca cn cc)/\((((((X.setCell ⟨w.heap.size,0,none⟩ (.int .i64 s.kind)).setCell ⟨w.heap.size,1,none⟩ (.string s.name)).setCell ⟨w.heap.size,2,none⟩ (.int .i64 s.at_)).setCell ⟨w.heap.size,3,none⟩ (.slice oa on oc)).setCell ⟨w.heap.size,4,none⟩ (.slice ca cn cc)).setCell ⟨w.heap.size,5,none⟩ (.slice aa an ac)).cell? ⟨w.heap.size,5,none⟩=some (.slice aa an ac):=by
 have hbx:=((((((hr.set 0 (.int .i64 s.kind)).set 1 (.string s.name)).set 2 (.int .i64 s.at_)).set 3 (.slice oa on oc)).set 4 (.slice ca cn cc)).set 5 (.slice aa an ac));refine⟨⟨oa,on,oc,ca,cn,cc,aa,an,ac,sb,rfl,Qs _ _ _ _ _ hT (fun b9 yx=>?_),hnd,fun b9 yx=>⟨Nat.le_of_lt (hsb b9 yx).1,?_⟩,((((((hb.setCell (p:=⟨w.heap.size,0,none⟩) (gu _) (.int .i64 s.kind)).setCell (p:=⟨w.heap.size,1,none⟩) (gu _) (.string s.name)).setCell (p:=⟨w.heap.size,2,none⟩) (gu _) (.int .i64 s.at_)).setCell (p:=⟨w.heap.size,3,none⟩) (gu _) (.slice oa on oc)).setCell (p:=⟨w.heap.size,4,none⟩) (gu _) (.slice ca cn cc)).setCell (p:=⟨w.heap.size,5,none⟩) (gu _) (.slice aa an ac))⟩,hbx.cell (i:=0) (v:=.int .i64 s.kind) rfl,hbx.cell (i:=1) (v:=.string s.name) rfl,hbx.cell (i:=2) (v:=.int .i64 s.at_) rfl,hbx.cell (i:=3) (v:=.slice oa on oc) rfl,hbx.cell (i:=4) (v:=.slice ca cn cc) rfl,hbx.cell (i:=5) (v:=.slice aa an ac) rfl⟩
 ·have hne:b9≠w.heap.size:=by have:=(hsb b9 yx).1;omega
  rw[zf _ ⟨w.heap.size,5,none⟩ _ _ hne,zf _ ⟨w.heap.size,4,none⟩ _ _ hne,zf _ ⟨w.heap.size,3,none⟩ _ _ hne,zf _ ⟨w.heap.size,2,none⟩ _ _ hne,zf _ ⟨w.heap.size,1,none⟩ _ _ hne,zf _ ⟨w.heap.size,0,none⟩ _ _ hne]
 ·have h9:=(hsb b9 yx).2
  exact qg h9 (by simp[World.setCell])
theorem zz6 {X:cu} {g:Nat} (hr:jd X g 60 #[.int .i64 0,.string ⟨#[]⟩,.int .i64 0,.slice none 0 0,.slice none 0 0,.slice none 0 0]):(X.cell? ⟨g,0,none⟩=some (.int .i64 0)/\X.cell? ⟨g,1,none⟩=some (.string ⟨#[]⟩)/\X.cell? ⟨g,2,none⟩=some (.int .i64 0)/\X.cell? ⟨g,3,none⟩=some (.slice none 0 0)/\X.cell? ⟨g,4,none⟩=some (.slice none 0 0)/\X.cell? ⟨g,5,none⟩=some (.slice none 0 0))/\(X.frozen? ⟨g,0,none⟩=false/\X.frozen? ⟨g,1,none⟩=false/\X.frozen? ⟨g,2,none⟩=false/\X.frozen? ⟨g,3,none⟩=false/\X.frozen? ⟨g,4,none⟩=false/\X.frozen? ⟨g,5,none⟩=false)/\g<X.heap.size :=
 ⟨⟨hr.cell (i:=0) (v:=.int .i64 0) rfl,hr.cell (i:=1) (v:=.string ⟨#[]⟩) rfl,hr.cell (i:=2) (v:=.int .i64 0) rfl,hr.cell (i:=3) (v:=.slice none 0 0) rfl,hr.cell (i:=4) (v:=.slice none 0 0) rfl,hr.cell (i:=5) (v:=.slice none 0 0) rfl⟩,⟨hr.free 0,hr.free 1,hr.free 2,hr.free 3,hr.free 4,hr.free 5⟩,hr.lt⟩
theorem a13 (f:List dh) (v:Value) (w:cu) (hE:Za w) (hv:jc 1 16 xk 0 w v f) (hs:∀p,p∈f->p.size<=1048576) (h1:1<=f.length) (hl:f.length<=1048577):Calls Tryz.prog 34 #[v] w (StP (Ny f) w):=by
 obtain⟨PO,Gn⟩:=o8 (StP (Ny f) w);rw[←Gn];have Dc:=ak Gn;clear Gn;obtain⟨a,cap,rfl⟩:=hv.shape;obtain⟨b,o,rfl,hbl,hx0,_⟩:=ag9 hv 0 h1;rw[ji] at hx0
 have hcap:f.length<=cap:=by
  obtain⟨a',c',Dq,⟨h2,h3⟩,_⟩:=hv;simp only[qw] at Dq;omega
 have hz1:(fA f 1).size<=1048576:=by
  by_cases c:1<f.length
  ·rw[←Jj f 1 c];exact hs _ (o7 c)
  ·rw[agn f 1 c];decide
 obtain⟨X0,hX0⟩:=o8 (w.alloc (.cells #[.int .i64 0,.string ⟨#[]⟩,.int .i64 0,.slice none 0 0,.slice none 0 0,.slice none 0 0] 60));have hA:Below w.heap.size w X0:=by rw[hX0];exact(iq _ _).alloc (gu _) _
 have HR0:Hid (jd X0 w.heap.size 60 #[.int .i64 0,.string ⟨#[]⟩,.int .i64 0,.slice none 0 0,.slice none 0 0,.slice none 0 0]):=ak (by rw[hX0];exact oh _ _ _);have HA:=ak hA;have x0:X0.cell? ⟨b,o,none⟩=some (.string (fA f 0)):=(hA.cell (p:=⟨b,o,none⟩) hbl).trans hx0;have Rf:Hid (∀W,Below w.heap.size w W->jc 1 16 xk 0 W (.slice (some ⟨b,o,none⟩) f.length cap) f):=ak (fun W hW=>hv.stays zk hW);have Vu:Hid (∀W,Below w.heap.size w W->Za W):=ak (fun W hW=>hE.below hW hE.env.three);obtain⟨m,hm⟩:∃m:Nat,m=min 3 f.length:=⟨_,rfl⟩;have hmin:min (3:Int) (f.length:Int)=(m:Int):=by omega
 have hmr:m<=f.length:=by omega
 have hmc:m<=cap:=by omega
 have hmI:(m:Int)<=(f.length:Int):=by omega
 have hmC:(m:Int)<=(cap:Int):=by omega
 have HDM:Hid (f.drop 3=f.drop m):=ak (by
  by_cases c:3<=f.length
  ·rw[show m=3 from by omega]
  ·rw[List.drop_eq_nil_of_le (by omega),List.drop_eq_nil_of_le (by omega)])
 obtain⟨xm,hif⟩:∃x,(if cap=m then some (⟨b,o,none⟩:Addr) else some ⟨b,o+m,none⟩)=some ⟨b,x,none⟩:=by
  by_cases c:cap=m
  ·exact⟨o,gy c⟩
  ·exact⟨o+m,bf c⟩
 have HRS:Hid (∀W,Below w.heap.size w W->jc 1 16 xk 0 W (.slice (some ⟨b,xm,none⟩) (f.length-m) (cap-m)) (f.drop 3)):=ak (fun W hW=>by have h9:=ahf (uh Rf W hW) m hmr;rw[hif] at h9;rw[uh HDM];exact h9);have HCD:Hid (∀W,Below w.heap.size w W->Calls Tryz.prog 60 #[.slice (some ⟨b,xm,none⟩) (f.length-m) (cap-m)] W (CdP (f.drop 3) W)):=ak (fun W hW=>ame (f.drop 3) _ W (uh Vu W hW) (uh HRS W hW) (fun p hp=>hs p (List.mem_of_mem_drop hp)) (by rw[Cc];omega))
 have HOK:Hid ((∀x,x∈A8 (f.drop 3)->okI x)/\(A8 (f.drop 3)).length<=2000000):=ak ⟨fun x hx=>by
  obtain⟨p,hp,rfl⟩:=List.mem_map.1 hx;exact apf p (hs p (List.mem_of_mem_drop hp)),by unfold A8;rw[zy,Cc];omega⟩
 have HNM:=ak (aa0 f _ X0 1 (by omega) (uh Rf X0 hA));have HPT:=ak (Yn f _ X0 1 (by omega) (uh Rf X0 hA));have HNU:=ak (Xr (fA f 1) X0 (uh Vu X0 hA) hz1);have Yc:=ak (axt f _ X0 (uh Vu X0 hA) (uh Rf X0 hA) hs h1 hl);have HNV:=ak (ad9 (fA f 1));have hpos:(0:Int)<(f.length:Int):=by omega
 have HX0:=ak hX0;clear hm hX0 hA hv hs hE hbl hx0 HRS HDM
 by_cases Hl:fA f 0=Je
 ·have Gj:((fA f 0).toList==[115,101,116])=true:=by rw[Zj];exact jf Hl
  have HE:Hid (Ny f=⟨1,fA f 1,0,[],A8 (f.drop 3),[]⟩):=ak (by unfold Ny;rw[gy Hl]);clear Hl;go_enter Tryz.func34,Tryz.ntmps34
  go_upto_region 2 with fail
  rw[←uh HX0];go_wp2_with fail;refine(uh HNM).mono ?_;rintro e w1 ⟨rfl,hb1⟩;have hB1:Below w.heap.size w w1:=(uh HA).trans (hb1.mono (uh HA).size);have hR1:=(uh HR0).below hb1 (uh HR0).lt;go_wp2_with fail;refine(uh HCD w1 hB1).mono ?_;rintro e w2 ⟨v9,rfl,Jc,hb2⟩;obtain⟨ca,cc,rfl⟩:=Jc.slice;have mg:Below w.heap.size w w2:=hB1.trans (hb2.mono hB1.size);have Tv:=hR1.below hb2 hR1.lt;have hT9:=akm 1 0 (fA f 1) w2 _ _ _ ⟨by unfold Len;omega,by unfold I64;omega,by unfold I64;omega⟩ Jc (uh HOK).1 (uh HOK).2;have a14:(zq (.slice ca (A8 (f.drop 3)).length cc)).Nodup:=by unfold zq;cases (Value.slice ca (A8 (f.drop 3)).length cc).ownBlock<;>simp
  have aag:∀b,b∈zq (.slice ca (A8 (f.drop 3)).length cc)->w.heap.size<b/\b<w2.heap.size:=fun b9 yx=>by
   have h9:=Az Jc b9 (Bq.1 yx);have h8:=hR1.lt;exact⟨by omega,h9.2⟩
  clear Jc hb1 hb2 hB1 hR1;obtain⟨hfin,k0,k1,k2,k3,k4,k5⟩:=ab8 (s:=⟨1,(fA f 1),0,[],A8 (f.drop 3),[]⟩) mg Tv hT9 a14 aag;have qx:=ak hfin;have HKK:=ak (And.intro k0 (And.intro k1 (And.intro k2 (And.intro k3 (And.intro k4 k5)))));obtain⟨⟨r0,r1,r2,r3,r4,r5⟩,⟨g0,g1,g2,g3,g4,g5⟩,Ux⟩:=zz6 Tv;clear hfin k0 k1 k2 k3 k4 k5 mg Tv;go_wp2;obtain⟨k0,k1,k2,k3,k4,k5⟩:=uh HKK;refine bodyPost_ret (v:=.agg #[.int .i64 1,.string (fA f 1),.int .i64 0,.slice none 0 0,.slice ca (A8 (f.drop 3)).length cc,.slice none 0 0]) (by simp[results,Tryz.results34,go_sem,k0,k1,k2,k3,k4,k5]) rfl ?_;rw[uh Dc,uh HE];exact uh qx
 by_cases F7:fA f 0=Fp
 ·have Gj:((fA f 0).toList==[115,101,116])=false:=by rw[Zj];exact iy Hl
  have Ec:((fA f 0).toList==[115,97,118,101])=true:=by rw[Yr];exact jf F7
  have HE:Hid (Ny f=⟨2,E0,Om (fA f 1),[],A8 (f.drop 3),[]⟩):=ak (by unfold Ny;rw[bf Hl,gy F7]);clear Hl F7;go_enter Tryz.func34,Tryz.ntmps34
  go_upto_region 2 with fail
  rw[←uh HX0];go_wp2_with fail;refine(uh HPT).mono ?_;rintro e w7 ⟨rfl,hw7⟩;obtain rfl:=hw7.symm;go_wp2_with fail;refine(uh HNU).mono ?_;rintro e w1 ⟨rfl,hb1⟩;have hB1:Below w.heap.size w w1:=(uh HA).trans (hb1.mono (uh HA).size);have hR1:=(uh HR0).below hb1 (uh HR0).lt;go_wp2_with fail;refine(uh HCD w1 hB1).mono ?_;rintro e w2 ⟨v9,rfl,Jc,hb2⟩;obtain⟨ca,cc,rfl⟩:=Jc.slice;have mg:Below w.heap.size w w2:=hB1.trans (hb2.mono hB1.size);have Tv:=hR1.below hb2 hR1.lt;have hT9:=akm 2 (Om (fA f 1)) ⟨#[]⟩ w2 _ _ _ ⟨by unfold Len;decide,by unfold I64;omega,uh HNV⟩ Jc (uh HOK).1 (uh HOK).2;have a14:(zq (.slice ca (A8 (f.drop 3)).length cc)).Nodup:=by unfold zq;cases (Value.slice ca (A8 (f.drop 3)).length cc).ownBlock<;>simp
  have aag:∀b,b∈zq (.slice ca (A8 (f.drop 3)).length cc)->w.heap.size<b/\b<w2.heap.size:=fun b9 yx=>by
   have h9:=Az Jc b9 (Bq.1 yx);have h8:=hR1.lt;exact⟨by omega,h9.2⟩
  clear Jc hb1 hb2 hB1 hR1;obtain⟨hfin,k0,k1,k2,k3,k4,k5⟩:=ab8 (s:=⟨2,⟨#[]⟩,(Om (fA f 1)),[],A8 (f.drop 3),[]⟩) mg Tv hT9 a14 aag;have qx:=ak hfin;have HKK:=ak (And.intro k0 (And.intro k1 (And.intro k2 (And.intro k3 (And.intro k4 k5)))));obtain⟨⟨r0,r1,r2,r3,r4,r5⟩,⟨g0,g1,g2,g3,g4,g5⟩,Ux⟩:=zz6 Tv;clear hfin k0 k1 k2 k3 k4 k5 mg Tv;go_wp2;obtain⟨k0,k1,k2,k3,k4,k5⟩:=uh HKK;refine bodyPost_ret (v:=.agg #[.int .i64 2,.string ⟨#[]⟩,.int .i64 (Om (fA f 1)),.slice none 0 0,.slice ca (A8 (f.drop 3)).length cc,.slice none 0 0]) (by simp[results,Tryz.results34,go_sem,k0,k1,k2,k3,k4,k5]) rfl ?_;rw[uh Dc,uh HE];exact uh qx
 by_cases H7:fA f 0=zx
 ·have Gj:((fA f 0).toList==[115,101,116])=false:=by rw[Zj];exact iy Hl
  have Ec:((fA f 0).toList==[115,97,118,101])=false:=by rw[Yr];exact iy F7
  have Ej:((fA f 0).toList==[99,97,108,108])=true:=by rw[aah];exact jf H7
  have HE:Hid (Ny f=adb f):=ak (by unfold Ny;rw[bf Hl,bf F7,gy H7]);clear Hl F7 H7;go_enter Tryz.func34,Tryz.ntmps34
  go_upto_region 2 with fail
  rw[←uh HX0];go_wp2_with fail;refine(uh Yc).mono ?_;rintro e w1 ⟨oa,on,oc,ca,cn,cc,aa,an,ac,sb,rfl,hT,hnd,hsb,hb1⟩;have mg:Below w.heap.size w w1:=(uh HA).trans (hb1.mono (uh HA).size);have Tv:=(uh HR0).below hb1 (uh HR0).lt;obtain⟨hfin,k0,k1,k2,k3,k4,k5⟩:=ab8 mg Tv hT hnd (fun b9 yx=>⟨by have h9:=(hsb b9 yx).1;have h8:=(uh HR0).lt;omega,(hsb b9 yx).2⟩);have qx:=ak hfin;have HKK:=ak (And.intro k0 (And.intro k1 (And.intro k2 (And.intro k3 (And.intro k4 k5)))));obtain⟨⟨r0,r1,r2,r3,r4,r5⟩,⟨g0,g1,g2,g3,g4,g5⟩,Ux⟩:=zz6 Tv;clear hfin k0 k1 k2 k3 k4 k5 mg Tv hT hnd hsb hb1;go_wp2;obtain⟨k0,k1,k2,k3,k4,k5⟩:=uh HKK;refine bodyPost_ret (v:=.agg #[.int .i64 (adb f).kind,.string (adb f).name,.int .i64 (adb f).at_,.slice oa on oc,.slice ca cn cc,.slice aa an ac]) (by simp[results,Tryz.results34,go_sem,k0,k1,k2,k3,k4,k5]) rfl ?_;rw[uh Dc,uh HE];exact uh qx
 by_cases Qr:fA f 0=Qg
 ·have Gj:((fA f 0).toList==[115,101,116])=false:=by rw[Zj];exact iy Hl
  have Ec:((fA f 0).toList==[115,97,118,101])=false:=by rw[Yr];exact iy F7
  have Ej:((fA f 0).toList==[99,97,108,108])=false:=by rw[aah];exact iy H7
  have Lp:((fA f 0).toList==[105,102])=true:=by rw[ahg];exact jf Qr
  have HE:Hid (Ny f=⟨4,fA f 1,0,[],[],[]⟩):=ak (by unfold Ny;rw[bf Hl,bf F7,bf H7,gy Qr]);clear Hl F7 H7 Qr;go_enter Tryz.func34,Tryz.ntmps34
  go_upto_region 2 with fail
  rw[←uh HX0];go_wp2_with fail;refine(uh HNM).mono ?_;rintro e w1 ⟨rfl,hb1⟩;have hB1:Below w.heap.size w w1:=(uh HA).trans (hb1.mono (uh HA).size);have hR1:=(uh HR0).below hb1 (uh HR0).lt;have mg:=hB1;have Tv:=hR1;clear hB1 hR1 hb1;obtain⟨hfin,k0,k1,k2,k3,k4,k5⟩:=ab8 (s:=⟨4,(fA f 1),0,[],[],[]⟩) mg Tv (ab7 4 (fA f 1) w1 ⟨by unfold Len;omega,by unfold I64;omega⟩) List.nodup_nil (fun b hb=>by cases hb);have qx:=ak hfin;have HKK:=ak (And.intro k0 (And.intro k1 (And.intro k2 (And.intro k3 (And.intro k4 k5)))));obtain⟨⟨r0,r1,r2,r3,r4,r5⟩,⟨g0,g1,g2,g3,g4,g5⟩,Ux⟩:=zz6 Tv;clear hfin k0 k1 k2 k3 k4 k5 mg Tv;go_wp2;obtain⟨k0,k1,k2,k3,k4,k5⟩:=uh HKK;refine bodyPost_ret (v:=.agg #[.int .i64 4,.string (fA f 1),.int .i64 0,.slice none 0 0,.slice none 0 0,.slice none 0 0]) (by simp[results,Tryz.results34,go_sem,k0,k1,k2,k3,k4,k5]) rfl ?_;rw[uh Dc,uh HE];exact uh qx
 by_cases Zk:fA f 0=Fg
 ·have Gj:((fA f 0).toList==[115,101,116])=false:=by rw[Zj];exact iy Hl
  have Ec:((fA f 0).toList==[115,97,118,101])=false:=by rw[Yr];exact iy F7
  have Ej:((fA f 0).toList==[99,97,108,108])=false:=by rw[aah];exact iy H7
  have Lp:((fA f 0).toList==[105,102])=false:=by rw[ahg];exact iy Qr
  have aa3:((fA f 0).toList==[101,108,115,101])=true:=by rw[Wh];exact jf Zk
  have HE:Hid (Ny f=⟨5,E0,0,[],[],[]⟩):=ak (by unfold Ny;rw[bf Hl,bf F7,bf H7,bf Qr,gy Zk]);clear Hl F7 H7 Qr Zk;have mg:=uh HA;have Tv:=uh HR0;obtain⟨hfin,k0,k1,k2,k3,k4,k5⟩:=ab8 (s:=⟨5,⟨#[]⟩,0,[],[],[]⟩) mg Tv (ab7 5 ⟨#[]⟩ X0 ⟨by unfold Len;decide,by unfold I64;omega⟩) List.nodup_nil (fun b hb=>by cases hb);have qx:=ak hfin;have HKK:=ak (And.intro k0 (And.intro k1 (And.intro k2 (And.intro k3 (And.intro k4 k5)))));obtain⟨⟨r0,r1,r2,r3,r4,r5⟩,⟨g0,g1,g2,g3,g4,g5⟩,Ux⟩:=zz6 Tv;clear hfin k0 k1 k2 k3 k4 k5 mg Tv;go_enter Tryz.func34,Tryz.ntmps34
  go_upto_region 2 with fail
  rw[←uh HX0];go_wp2;obtain⟨k0,k1,k2,k3,k4,k5⟩:=uh HKK;refine bodyPost_ret (v:=.agg #[.int .i64 5,.string ⟨#[]⟩,.int .i64 0,.slice none 0 0,.slice none 0 0,.slice none 0 0]) (by simp[results,Tryz.results34,go_sem,k0,k1,k2,k3,k4,k5]) rfl ?_;rw[uh Dc,uh HE];exact uh qx
 by_cases ahh:fA f 0=Iz
 ·have Gj:((fA f 0).toList==[115,101,116])=false:=by rw[Zj];exact iy Hl
  have Ec:((fA f 0).toList==[115,97,118,101])=false:=by rw[Yr];exact iy F7
  have Ej:((fA f 0).toList==[99,97,108,108])=false:=by rw[aah];exact iy H7
  have Lp:((fA f 0).toList==[105,102])=false:=by rw[ahg];exact iy Qr
  have aa3:((fA f 0).toList==[101,108,115,101])=false:=by rw[Wh];exact iy Zk
  have afc:((fA f 0).toList==[101,110,100])=true:=by rw[aa4];exact jf ahh
  have HE:Hid (Ny f=⟨6,E0,0,[],[],[]⟩):=ak (by unfold Ny;rw[bf Hl,bf F7,bf H7,bf Qr,bf Zk,gy ahh]);clear Hl F7 H7 Qr Zk ahh;have mg:=uh HA;have Tv:=uh HR0;obtain⟨hfin,k0,k1,k2,k3,k4,k5⟩:=ab8 (s:=⟨6,⟨#[]⟩,0,[],[],[]⟩) mg Tv (ab7 6 ⟨#[]⟩ X0 ⟨by unfold Len;decide,by unfold I64;omega⟩) List.nodup_nil (fun b hb=>by cases hb);have qx:=ak hfin;have HKK:=ak (And.intro k0 (And.intro k1 (And.intro k2 (And.intro k3 (And.intro k4 k5)))));obtain⟨⟨r0,r1,r2,r3,r4,r5⟩,⟨g0,g1,g2,g3,g4,g5⟩,Ux⟩:=zz6 Tv;clear hfin k0 k1 k2 k3 k4 k5 mg Tv;go_enter Tryz.func34,Tryz.ntmps34
  go_upto_region 2 with fail
  rw[←uh HX0];go_wp2;obtain⟨k0,k1,k2,k3,k4,k5⟩:=uh HKK;refine bodyPost_ret (v:=.agg #[.int .i64 6,.string ⟨#[]⟩,.int .i64 0,.slice none 0 0,.slice none 0 0,.slice none 0 0]) (by simp[results,Tryz.results34,go_sem,k0,k1,k2,k3,k4,k5]) rfl ?_;rw[uh Dc,uh HE];exact uh qx
 have Gj:((fA f 0).toList==[115,101,116])=false:=by rw[Zj];exact iy Hl
 have Ec:((fA f 0).toList==[115,97,118,101])=false:=by rw[Yr];exact iy F7
 have Ej:((fA f 0).toList==[99,97,108,108])=false:=by rw[aah];exact iy H7
 have Lp:((fA f 0).toList==[105,102])=false:=by rw[ahg];exact iy Qr
 have aa3:((fA f 0).toList==[101,108,115,101])=false:=by rw[Wh];exact iy Zk
 have afc:((fA f 0).toList==[101,110,100])=false:=by rw[aa4];exact iy ahh
 have HE:Hid (Ny f=⟨0,E0,0,[],[],[]⟩):=ak (by unfold Ny;rw[bf Hl,bf F7,bf H7,bf Qr,bf Zk,bf ahh]);clear Hl F7 H7 Qr Zk ahh;have mg:=uh HA;have Tv:=uh HR0;obtain⟨hfin,k0,k1,k2,k3,k4,k5⟩:=ab8 (s:=⟨0,⟨#[]⟩,0,[],[],[]⟩) mg Tv (ab7 0 ⟨#[]⟩ X0 ⟨by unfold Len;decide,by unfold I64;omega⟩) List.nodup_nil (fun b hb=>by cases hb);have qx:=ak hfin;have HKK:=ak (And.intro k0 (And.intro k1 (And.intro k2 (And.intro k3 (And.intro k4 k5)))));obtain⟨⟨r0,r1,r2,r3,r4,r5⟩,⟨g0,g1,g2,g3,g4,g5⟩,Ux⟩:=zz6 Tv;clear hfin k0 k1 k2 k3 k4 k5 mg Tv;go_enter Tryz.func34,Tryz.ntmps34
 go_upto_region 2 with fail
 rw[←uh HX0];go_wp2;obtain⟨k0,k1,k2,k3,k4,k5⟩:=uh HKK;refine bodyPost_ret (v:=.agg #[.int .i64 0,.string ⟨#[]⟩,.int .i64 0,.slice none 0 0,.slice none 0 0,.slice none 0 0]) (by simp[results,Tryz.results34,go_sem,k0,k1,k2,k3,k4,k5]) rfl ?_;rw[uh Dc,uh HE];exact uh qx
structure IrS (B rb pb:Nat) (cs:List dw) (mv:Value) (bs:List Nat) (wr:cu):Prop where
 box:jd wr rb 35 #[mv,.map (some pb)]
 row:yj Et Ci B wr mv cs bs
 map:Tq Tryz.prog 9 (.int .i64 0) wr pb cs.length (fun s=>.int .i64 (((Nw cs s).getD 0:Nat):Int))
 size:B<=wr.heap.size
structure Nz (B:Nat) (S:List Nat) (w w':cu):Prop where
 os:w'.os=w.os
 tape:w'.tape=w.tape
 output:w'.output=w.output
 size:w.heap.size<=w'.heap.size
 old:∀k,k<B->k∉S->w'.heap[k]?=w.heap[k]?
 oth:∀(k:Nat) (o:Obj),B<=k->w.heap[k]?=some o->o.isCells=false->w'.heap[k]?=some o
theorem Nz.trans {B:Nat} {S:List Nat} {a b c:cu} (h:Nz B S a b) (k:Nz B S b c):Nz B S a c :=
 ⟨k.os.trans h.os,k.tape.trans h.tape,k.output.trans h.output,ku h.size k.size,fun i hi hs=>(k.old i hi hs).trans (h.old i hi hs),fun i o hi h1 h2=>k.oth i o hi (h.oth i o hi h1 h2) h2⟩
theorem Nz.Yt {B:Nat} {S:List Nat} {w w':cu} (h:Below w.heap.size w w') (hB:B<=w.heap.size):Nz B S w w' :=
 ⟨h.os,h.tape,h.output,h.size,fun k hk _=>h.block k (by omega),fun k o _ h1 _=>(h.block k (Kv.1 h1).1).trans h1⟩
theorem Nz.grown {B:Nat} {S:List Nat} {w w':cu} {row:Option Nat} (h:w.grownBy w' row) (hB:B<=w.heap.size) (hr:∀b,row=some b->b∈S/\b<B\/B<=b/\∃cs T z,w.heap[b]?=some (.cells cs T z)):Nz B S w w':=by
 refine⟨h.os,h.tape,h.output,h.size,fun k hk hs=>h.block k (by omega) (fun e=>?_),fun k o hk h1 h2=>(h.block k (Kv.1 h1).1 (fun e=>?_)).trans h1⟩
 ·rcases hr k e.symm with h9|h9
  ·exact hs h9.1
  ·omega
 ·rcases hr k e.symm with h9|⟨_,cs,T,z,h9⟩
  ·omega
  ·rw[h1] at h9
   rw[Gv h9] at h2
   cases h2
theorem Nz.mono {B:Nat} {S T:List Nat} {w w':cu} (h:Nz B S w w') (hs:∀k,k∈S->k∈T):Nz B T w w' :=
 ⟨h.os,h.tape,h.output,h.size,fun k hk hn=>h.old k hk (fun e=>hn (hs k e)),h.oth⟩
theorem Nz.nil {B:Nat} {T:List Nat} {w w':cu} (h:Nz B [] w w'):Nz B T w w':=h.mono (fun k hk=>by cases hk)
theorem Nz.set {B:Nat} {S:List Nat} {w:cu} {b T:Nat} {cs:Array Value} (h:jd w b T cs) (hb:b∈S/\b<B\/B<=b) (hB:B<=w.heap.size) (o:Nat) (u:Value):Nz B S w (w.setCell ⟨b,o,none⟩ u) :=
 Nz.grown (row:=some b) ⟨rfl,rfl,rfl,by simp[World.setCell],fun k _ hk=>zf _ _ _ _ (fun e=>hk (by simp only at e;rw[e]))⟩ hB (fun b' e=>by
  cases e;rcases hb with h9|h9
  ·exact Or.inl h9
  ·exact Or.inr ⟨h9,_,_,_,h⟩)
theorem IrS.below {B rb pb:Nat} {cs:List dw} {mv:Value} {bs:List Nat} {w w':cu} (h:IrS B rb pb cs mv bs w) (hb:Below w.heap.size w w'):IrS B rb pb cs mv bs w' :=
 ⟨h.box.below hb h.box.lt,h.row.fr Iy (fun b yx=>hb.block b (h.row.nd.2 b yx).2) hb.size,h.map.below hb,ku h.size hb.size⟩
theorem IrS.put {B rb pb:Nat} {cs cs':List dw} {mv:Value} {bs bs':List Nat} {w w':cu} (h:IrS B rb pb cs mv bs w) (hk:Nz B [] w w') (hmk:yj Et Ci B w' mv cs' bs') (hrb:rb<B) (hpb:pb<B) (hn:cs'.map (·.name)=cs.map (·.name)):IrS B rb pb cs' mv bs' w':=by
 refine⟨(hk.old rb hrb (by simp)).trans h.box,hmk,?_,ku h.size hk.size⟩;have hl:cs'.length=cs.length:=by simpa using ni List.length hn
 have e:(fun s=>Value.int .i64 (((Nw cs' s).getD 0:Nat):Int))=fun s=>.int .i64 (((Nw cs s).getD 0:Nat):Int):=by
  funext s;unfold Nw;rw[hn]
 rw[hl,e];exact h.map.block (hk.old pb hpb (by simp))
theorem ahr {α:Type} {E:Fj Tryz.prog α} {w:cu} {B:Nat} {v:Value} {xs:List α} (h:jq E w B v xs):∀b,v.ownBlock=some b->B<=b/\∃cs T z,w.heap[b]?=some (.cells cs T z):=fun b hb=>by
 obtain⟨cur,hc⟩:=h.cellT hb;exact⟨(Az h b hb).1,_,_,_,hc⟩
theorem apj {B g n mc:Nat} {w:cu} {cs:List dw} {bs:List Nat} (h:yj Et Ci B w (.slice (some ⟨g,0,none⟩) n mc) cs bs):B<=g/\g<w.heap.size/\∃cur,jd w g 50 cur:=by
 obtain⟨css,subs,ho,_⟩:=h;obtain⟨cur,hc⟩:=ho.cellT (g:=g) rfl;exact⟨(Az ho g rfl).1,(Az ho g rfl).2,cur,hc⟩
def ak9 (B rb pb:Nat) (cs:List dw) (w:cu) (e:Ending) (w':cu):Prop:=(∃v,e=.returned v)/\∃mv bs,IrS B rb pb cs mv bs w'/\Nz B [rb,pb] w w'
theorem aqj (cs:List dw) (nm s:dh):Nw (cs++[K0 nm]) s=if nm=s then some cs.length else Nw cs s:=by
 unfold Nw;rw[Ig,Ai,Fv,aj6,zy];rfl
theorem IrS.ne {B rb pb:Nat} {cs:List dw} {mv:Value} {bs:List Nat} {w:cu} (h:IrS B rb pb cs mv bs w):rb≠pb:=fun e=>by
 have h1:=h.box.cell (i:=0) (v:=mv) rfl;rw[e,h.map.an5 0] at h1
 cases h1
theorem wpList_append_run {P:Program} {w w':cu} {ops:Array Oper} {rest:List Oper} {o:Oper} {a:Act} {Q:Exit->Act->cu->Prop} (hgd:o.guard=none) (s x:Operand) (t ty:TypeId)
  (ho:o.op=.call { callee:=.builtin .append,args:=#[s,x],argTypes:=#[t,t] }) (hty:o.type=ty) (v xv v':Value) (hs:a.eval s=v) (hx:a.eval x=xv) (hrun:(Builtin.append_ #[t,t] ty #[v,xv]).run P w=.ok v' w') (h:wpList P ops Q rest (a.put o.dst v') w'):wpList P ops Q (o::rest) a w:=by
 refine wpList_plain hgd fun K hK=>?_
 subst hty;unfold Oper.wp execOp;simp only[ho,resolve,invoke,builtin,Sem.run_bind,Sem.run_pure,Result.andThen_ok,List.map_toArray,Ai,Fv,hs,hx,hrun];exact hK _ _ h
theorem a15 {B rb pb:Nat} {cs:List dw} {mv:Value} {bs:List Nat} {w:cu} (h:IrS B rb pb cs mv bs w) (hrb:rb<B) (hpb:pb<B) (hw:pz qy cs<=1048577) (nm:dh) (hnm:nm.size<=1048576) :
  Calls Tryz.prog 29 #[.pointer (some ⟨rb,0,none⟩),.string nm] w (ak9 B rb pb (cs++[K0 nm]) w):=by
 obtain⟨PO,Gn⟩:=o8 (ak9 B rb pb (cs++[K0 nm]) w);rw[←Gn];have Dc:=ak Gn;clear Gn;have hne:=h.ne
 have hcl:cs.length<=1048577:=by
  unfold pz at hw;omega
 have hd:Below w.heap.size w w.drew:=(iq _ _).drew;have h0:=h.below hd;obtain⟨w2,f',hst,hM2,hf1,hf2,hg2⟩:=h0.map.store Tryz.underlying9 Tryz.underlying33 (by unfold maxLen;omega) (s:=nm) (by unfold maxLen;omega) (.int .i64 (cs.length:Int));have hk2:Nz B [rb,pb] w.drew w2:=Nz.grown hg2 h0.size (fun b e=>by cases e;exact Or.inl ⟨by simp,hpb⟩);have hsame:∀b,b<w.drew.heap.size->b≠pb->w2.heap[b]?=w.drew.heap[b]?:=fun b hb hn=>hg2.block b hb (fun e=>hn (Gv e))
 have afd:jd w2 rb 35 #[mv,.map (some pb)]:=(hsame rb h0.box.lt hne).trans h0.box;have hrow2:=h0.row.fr Iy (fun b hb=>hsame b (h0.row.nd.2 b hb).2 (by have:=(h0.row.nd.2 b hb).1;omega)) hg2.size;have hB2:B<=w2.heap.size:=ku h0.size hg2.size;obtain⟨wA,hwA⟩:=o8 (w2.alloc (.cells #[.string nm,.slice none 0 0,.slice none 0 0,.slice none 0 0,.slice none 0 0,.slice none 0 0,.slice none 0 0] 50));have hA:Below w2.heap.size w2 wA:=by rw[hwA];exact(iq _ _).alloc (gu _) _
 obtain⟨css,ho1,Ux,hgrow⟩:=amf hrow2 hB2;obtain⟨c,hcv⟩:∃c:Raw 7,c.1=[.string nm,.slice none 0 0,.slice none 0 0,.slice none 0 0,.slice none 0 0,.slice none 0 0,.slice none 0 0]:=⟨⟨[.string nm,.slice none 0 0,.slice none 0 0,.slice none 0 0,.slice none 0 0,.slice none 0 0,.slice none 0 0],by simp,by intro u hu;simp only[qj,xq,xu] at hu;rcases hu with rfl|rfl|rfl|rfl|rfl|rfl|rfl<;>rfl⟩,rfl⟩;have Zo:=ho1.below hA;have hBA:=ku hB2 hA.size
 obtain⟨v',w5,hrun,yh,hg5,F9⟩:=Dn Et wA 22 B mv css Zo w2.heap.size c (fun j u hu=>by
  have hu':c.1[j]?=some u:=hu;rw[hcv] at hu';have h9:=(oh w2 #[.string nm,.slice none 0 0,.slice none 0 0,.slice none 0 0,.slice none 0 0,.slice none 0 0,.slice none 0 0] 50).cell (i:=j) (v:=u) (by simpa using hu');rw[hwA];exact h9) (by rw[Ux];show (cs.length+1)*160<=_;omega) hBA
 obtain⟨bs',hmk⟩:=hgrow wA w5 v' c nm (by unfold Len;omega) hcv hA yh hg5 F9 (by omega);have hb5:jd w5 rb 35 #[mv,.map (some pb)]:=(RwB.Xl Zo hg5).blk (afd.below hA afd.lt) (by decide);obtain⟨w6,hw6⟩:=o8 (w5.setCell ⟨rb,0,none⟩ v');have hz6:w6.heap.size=w5.heap.size:=by rw[hw6];simp[World.setCell]
 have hset:∀b,b≠rb->w6.heap[b]?=w5.heap[b]?:=fun b hb=>by rw[hw6];exact zf _ _ _ _ (fun e=>hb e)
 have hB5:=ku hBA hg5.size
 have hfin:∀v9,PO (.returned v9) w6:=fun v9=>by
  rw[uh Dc];refine⟨⟨_,rfl⟩,v',bs',⟨by rw[hw6];exact hb5.set 0 v',hmk.fr Iy (fun b hb=>hset b (by have:=(hmk.nd.2 b hb).1;omega)) (by omega),?_,by omega⟩,?_⟩
  ·have e:(fun s=>Value.int .i64 (((Nw (cs++[K0 nm]) s).getD 0:Nat):Int))=f':=by
    funext s;rw[aqj]
    by_cases c9:nm=s
    ·rw[gy c9,←c9,hf1]
     rfl
    ·rw[bf c9,hf2 s (fun e9=>c9 e9.symm)]
   rw[e,jh,N9];refine hM2.block ((hset pb (fun e9=>hne e9.symm)).trans ((hg5.block pb (qg hpb hBA) (fun e9=>?_)).trans (hA.block pb (qg hpb hB2))));have:=(Az Zo pb e9.symm).1;omega
  ·have k5:Nz B [rb,pb] wA w5:=Nz.grown hg5 hBA (fun b hb=>Or.inr (ahr Zo b hb))
   have k6:=Nz.set (S:=[rb,pb]) hb5 (Or.inl ⟨by simp,hrb⟩) hB5 0 v';rw[←hw6] at k6;exact((((Nz.Yt hd h.size).trans hk2).trans (Nz.Yt hA hB2)).trans k5).trans k6
 obtain⟨ia,ic,hmv⟩:=h.row.slice;obtain⟨va,vc,hv'⟩:=yh.slice;obtain⟨al,hal⟩:=o8 cs.length;obtain⟨n2,hn2⟩:=o8 ((css++[c]).length);rw[←hal] at hmv hst;rw[←hn2] at hv';clear hal hn2;subst hmv hv';have c0:=h.box.cell (i:=0) (v:=.slice ia al ic) rfl;have c1:=h.box.cell (i:=1) (v:=.map (some pb)) rfl;have d0:=afd.cell (i:=0) (v:=.slice ia al ic) rfl;have d1:wA.cell? ⟨rb,0,none⟩=some (.slice ia al ic):=(afd.below hA afd.lt).cell (i:=0) (v:=.slice ia al ic) rfl;have e0:=hb5.cell (i:=0) (v:=.slice ia al ic) rfl;have e1:=hb5.free 0;have e2:=hb5.lt;have l0:rb<w.heap.size:=h.box.lt;have l2:rb<w2.heap.size:=afd.lt;have hrun':(Builtin.append_ #[22,22] 22 #[.slice ia al ic,.slice (some ⟨w2.heap.size,0,none⟩) 1 1]).run Tryz.prog wA=.ok (.slice va n2 vc) w5:=hrun;have qx:=ak hfin;have Tt:=ak hw6;have Df:=ak hrun';clear h h0 hd hM2 hf1 hf2 hg2 hk2 hsame afd hrow2 hB2 hA ho1 Ux hgrow hcv Zo hBA hrun yh hg5 F9 hmk hb5 hz6 hset hB5 hfin hw6 hrun' hw;subst hwA;go_enter Tryz.func29,Tryz.ntmps29;go_wp2_with fail;go_region;go_wp2_with (at_builtin;go_must (refine wpList_append_run rfl _ _ 22 22 rfl rfl _ _ _ rfl rfl (uh Df) ?_));rw[←uh Tt];go_end0;exact uh qx _
def Pk (o T ST:Nat) (cells:Array Value) (g:Nat) (ia:Option Addr) (n1 ic:Nat) (Q:cu->Prop) (W:cu):Prop :=
 ∃va n2 vc w5 Y,W.cell? ⟨g,o,none⟩=some (.slice ia n1 ic)/\(W.alloc (.cells cells T)).cell? ⟨g,o,none⟩=some (.slice ia n1 ic)/\g<W.heap.size/\Hid ((Builtin.append_ #[ST,ST] ST #[.slice ia n1 ic,.slice (some ⟨W.heap.size,0,none⟩) 1 1]).run Tryz.prog (W.alloc (.cells cells T))=.ok (.slice va n2 vc) w5)/\w5.cell? ⟨g,o,none⟩=some (.slice ia n1 ic)/\w5.frozen? ⟨g,o,none⟩=false/\g<w5.heap.size/\Hid (Y=w5.setCell ⟨g,o,none⟩ (.slice va n2 vc))/\Hid (Q Y)
theorem fld {B g n mc:Nat} {w:cu} {a:List dw} {k:dw} {bs:List Nat} (h:yj Et Ci B w (.slice (some ⟨g,0,none⟩) n mc) (a++[k]) bs) (j:Nat) (h1:1<=j) (h6:j<=6):∃ia n1 ic,w.cell? ⟨g,a.length*7+j,none⟩=some (.slice ia n1 ic):=by
 obtain⟨css,subs,ho,hl,h3,hbs,hnd,hbb⟩:=h;obtain⟨ca,c,sa,s0,rfl,rfl,h4,hT⟩:=h3.aiy;have hla:=h4.len;obtain⟨v1,v2,v3,v4,v5,v6,b1,b2,b3,b4,b5,b6,hcs,hnm,g1,g2,g3,g4,g5,⟨Pe,su6,o6,_⟩,_⟩:=hT;obtain⟨g0,cap0,hv0,hcells⟩:=Zl ho a.length (by rw[jh];simp;omega);simp only[qw,uw,Addr.mk.injEq] at hv0;obtain⟨⟨rfl,_⟩,_⟩:=hv0
 have hci:(ca++[c])[a.length]'(by rw[jh];simp;omega)=c:=by
  rw[List.getElem_append_right (by omega)];simp
 obtain⟨a1,c1,e1⟩:=g1.1.slice;obtain⟨a2,c2,e2⟩:=g2.1.slice;obtain⟨a3,c3,e3⟩:=g3.1.slice;obtain⟨a4,c4,e4⟩:=g4.1.slice;obtain⟨a5,c5,e5⟩:=g5.1.slice;obtain⟨a6,c6,e6⟩:=o6.slice;have hj:j=1\/j=2\/j=3\/j=4\/j=5\/j=6:=by omega
 rcases hj with rfl|rfl|rfl|rfl|rfl|rfl
 ·exact⟨a1,_,c1,hcells 1 _ (by rw[hci,hcs,e1];rfl)⟩
 ·exact⟨a2,_,c2,hcells 2 _ (by rw[hci,hcs,e2];rfl)⟩
 ·exact⟨a3,_,c3,hcells 3 _ (by rw[hci,hcs,e3];rfl)⟩
 ·exact⟨a4,_,c4,hcells 4 _ (by rw[hci,hcs,e4];rfl)⟩
 ·exact⟨a5,_,c5,hcells 5 _ (by rw[hci,hcs,e5];rfl)⟩
 ·exact⟨a6,_,c6,hcells 6 _ (by rw[hci,hcs,e6];rfl)⟩
theorem pack {α:Type} (E:Fj Tryz.prog α) {B rb pb g n mc o n1 ic:Nat} {cs cs':List dw} {bs:List Nat} {w W:cu} {ia:Option Addr} (h:IrS B rb pb cs (.slice (some ⟨g,0,none⟩) n mc) bs w) (hrb:rb<B) (hpb:pb<B) (hn:cs'.map (·.name)=cs.map (·.name)) (hc:w.cell? ⟨g,o,none⟩=some (.slice ia n1 ic)) (x:α) (hW:Below w.heap.size w W) (hT:50≠E.T)
  (hg:yj Et Ci B (W.alloc (.cells (E.f x).toArray E.T)) (.slice (some ⟨g,0,none⟩) n mc) cs bs->∃vj ys,(W.alloc (.cells (E.f x).toArray E.T)).cell? ⟨g,o,none⟩=some vj/\jq E (W.alloc (.cells (E.f x).toArray E.T)) B vj ys/\(ys.length+1)*E.uf<=140737488355328/\∀Di w5,jq E w5 B Di (ys++[x])->(W.alloc (.cells (E.f x).toArray E.T)).grownBy w5 vj.ownBlock->(∀b,Di.ownBlock=some b->vj.ownBlock=some b\/(W.alloc (.cells (E.f x).toArray E.T)).heap.size<=b)->(w5.cell? ⟨g,o,none⟩=some vj/\w5.frozen? ⟨g,o,none⟩=false)/\∃bs',yj Et Ci B (w5.setCell ⟨g,o,none⟩ Di) (.slice (some ⟨g,0,none⟩) n mc) cs' bs') :
  Pk o E.T E.ST (E.f x).toArray g ia n1 ic (fun Y=>∀v,ak9 B rb pb cs' w (.returned v) Y) W:=by
 have hI:=h.below hW;have hA:Below W.heap.size W (W.alloc (.cells (E.f x).toArray E.T)):=(iq _ _).alloc (gu _) _;have hIA:=hI.below hA;obtain⟨hgB,Qd,bds,bb9⟩:=apj hI.row;have hcW:=(hW.cell (p:=⟨g,o,none⟩) (apj h.row).2.1).trans hc;have hcA:=(hA.cell (p:=⟨g,o,none⟩) Qd).trans hcW;obtain⟨v1,ys,hc1,ho1,hby,hgrow⟩:=hg hIA.row;rw[hcA] at hc1
 cases hc1;obtain⟨v',w5,hrun,yh,hg5,F9⟩:=Dn E (W.alloc (.cells (E.f x).toArray E.T)) E.ST B _ ys ho1 W.heap.size x (fun j u hu=>(oh W (E.f x).toArray E.T).cell (i:=j) (v:=u) (by simpa using hu)) hby hIA.size;obtain⟨⟨hc5,Oy⟩,bs',hmk⟩:=hgrow v' w5 yh hg5 F9;have hk5:Nz B [] (W.alloc (.cells (E.f x).toArray E.T)) w5:=Nz.grown hg5 hIA.size (fun b hb=>Or.inr (ahr ho1 b hb));have hb5:jd w5 g 50 bds:=(RwB.Xl ho1 hg5).blk (bb9.below hA Qd) hT;have hkY:=((Nz.Yt hA hI.size).trans hk5).trans (Nz.set (S:=[]) hb5 (Or.inr hgB) (ku hIA.size hg5.size) o v');obtain⟨va,vc,rfl⟩:=yh.slice;exact⟨va,_,vc,w5,_,hcW,hcA,Qd,ak hrun,hc5,Oy,qg Qd (ku hA.size hg5.size),ak rfl,ak (fun v=>⟨⟨v,rfl⟩,_,bs',hI.put hkY hmk hrb hpb hn,(Nz.Yt hW h.size).trans hkY.nil⟩)⟩
theorem aiz (l:List UInt8) (c:UInt8):(Lib.indexByte l c = -1/\c∉l)\/∃a r,Lib.indexByte l c=(a.length:Nat)/\l=a++c::r/\c∉a:=by
 induction l with
 | nil=>exact Or.inl ⟨rfl,by simp⟩
 | cons b l ih =>
  unfold Lib.indexByte
  by_cases hb:b=c
  ·exact Or.inr ⟨[],l,by simp[hb],by simp[hb],by simp⟩
  ·have hb':(b==c)=false:=by simpa using hb
   have hc:¬c=b:=fun e=>hb e.symm
   rcases ih with ⟨h1,h2⟩|⟨a,r,h1,h2,h3⟩
   ·exact Or.inl ⟨by simp[hb',h1],by simp[hc,h2]⟩
   ·refine Or.inr ⟨b::a,r,?_,by rw[h2];rfl,by simp[hc,h3]⟩
    rw[h1,hb'];have h4:(((a.length:Nat):Int)==-1)=false:=by rw[su];omega
    simp[h4]
theorem aqk (sp:dh) (hsp:sp.data.toList=[32]):∀(k:Nat) (s:dh),Lib.countB s sp=k->Lib.splitB sp 0 k s=wordsOf 32 s:=by
 have hz:sp.size=1:=by rw[←ByteArray.size_data,←Array.length_toList,hsp];rfl
 intro k
 induction k with
 | zero =>
  intro s h;rw[Lib.splitB_zero]
  have hi:Lib.indexB s sp=Lib.indexByte s.data.toList 32:=by
   show Lib.index _ _=_;rw[hsp,Lib.index_one]
  rcases aiz s.data.toList 32 with ⟨h1,h2⟩|⟨a,r,h1,h2,h3⟩
  ·unfold wordsOf
   rw[Ul _ _ (show 32∉bL s from h2)];show [s]=[Qo (bL s)];rw[Uy]
  ·rw[Lib.countB_hit s sp a.length (by omega) (hi.trans h1)] at h
   omega
 | succ k ih =>
  intro s h
  have hi:Lib.indexB s sp=Lib.indexByte s.data.toList 32:=by
   show Lib.index _ _=_;rw[hsp,Lib.index_one]
  rcases aiz s.data.toList 32 with ⟨h1,h2⟩|⟨a,r,h1,h2,h3⟩
  ·rw[Lib.countB_miss s sp (hi.trans h1)] at h
   omega
  ·rw[Lib.countB_hit s sp a.length (by omega) (hi.trans h1)] at h
   rw[Lib.splitB_hit sp 0 k s a.length (hi.trans h1),ih _ (by omega)];unfold wordsOf;have e1:bL s=a++32::r:=h2
   have e2:bL (s.extract (a.length+sp.size) s.size)=r:=by
    show (s.extract _ _).data.toList=r;rw[Lib.extract_to_end,h2,hz,List.drop_append,List.drop_eq_nil_of_le (by omega),show a.length+1-a.length=1 from by omega];rfl
   have e3:s.extract 0 (a.length+0)=Qo a:=by
    rw[←Uy (s.extract 0 (a.length+0))];congr 1;show (s.extract _ _).data.toList=a;rw[Lib.extract_from_zero,h2];simp
   rw[e1,e2,e3,Yo _ _ _ h3];rfl
def lnT:List (List UInt8)->List (List UInt8)
 | []=>[]
 | [a]=>if a=[] then [] else [a]
 | a::b::r=>(a++[10])::lnT (b::r)
def linesT (t:dh):List dh:=(lnT (cutAt 10 (bL t))).map Qo
theorem auj:linesT ⟨#[]⟩=[]:=rfl
theorem aql (t:dh) (hn:bL t≠[]) (h:10∉bL t):linesT t=[t]:=by
 unfold linesT;rw[Ul _ _ h,lnT,bf hn];show [Qo (bL t)]=[t];rw[Uy]
theorem auk (t:dh) (a r:List UInt8) (ht:bL t=a++10::r) (h:10∉a):linesT t=Qo (a++[10])::linesT (Qo r):=by
 unfold linesT;rw[ht,Yo _ _ _ h,Zg,Uc 10 r,lnT];rfl
theorem axu (c:UInt8) (l:List UInt8):∀p,p∈cutAt c l->c∉p:=by
 induction l with
 | nil=>intro p hp;simp[cutAt] at hp;subst hp;simp
 | cons x l ih =>
  intro p hp;rw[cutAt] at hp
  by_cases hx:x=c
  ·rw[gy hx] at hp
   rcases qj.1 hp with rfl|h9
   ·simp
   ·exact ih p h9
  ·rw[bf hx] at hp
   rw[Uc c l] at ih;rcases qj.1 hp with rfl|h9
   ·have h8:=ih _ (Hr ..)
    intro h7;rcases qj.1 h7 with e|e
    ·exact hx e.symm
    ·exact h8 e
   ·exact ih p (Gu _ h9)
theorem a5u (a:List UInt8):Lib.trimSuffix (a++[10]) [10]=a:=by
 unfold Lib.trimSuffix Lib.hasSuffix;rw[gy (by rw[List.isSuffixOf_iff_suffix];exact List.suffix_append _ _)];simp
theorem a5v (a:List UInt8) (h:10∉a):Lib.trimSuffix a [10]=a:=by
 unfold Lib.trimSuffix Lib.hasSuffix;rw[bf];intro h9;rw[List.isSuffixOf_iff_suffix] at h9;obtain⟨b,hb⟩:=h9;exact h (by rw[←hb];simp)
open Go.RowKit Go.Shelf
attribute [local go_sem] Oper.semAt_some
def a90 (B Bs:Nat) (I:cu->Prop) (W:cu):Exit->Act->cu->Prop
 | .normal,_,W'=>KeepsFrom B W W'/\W'.heap[Bs]?=W.heap[Bs]?/\I W'
 | _,_,_=>False
def a94 (P:Program) (gf Bs:Nat) (L:List dh) (n:Nat) (w:cu):Prop :=
 ∀(l:Nat) (J:Nat->cu->Prop) (W:cu),Below w.heap.size w W->(∀k A B,J k A->Below A.heap.size A B->J k B)->(∀k A u,J k A->J k (A.setCell ⟨Bs,0,none⟩ u)) ->
  (∀k (hk:k<L.length) W1,J k W1->YieldAt Fence.wide (n-1) P l #[.string L[k]] W1 fun e W'=>e=.returned (.bool true)/\J (k+1) W'/\W'.heap[Bs]?=W1.heap[Bs]?) ->
  J 0 W->CallsIn Fence.wide n P gf #[.func (.yield l) #[] #[],.pointer (some ⟨Bs,0,none⟩)] W fun e W'=>(∃v,e=.returned v)/\J L.length W'
theorem aul {P:Program} {g:Operand} {ps:Array Tmp} {assign body:Code} {Q:Exit->Act->cu->Prop} {a:Act} {w:cu} {gf Bs n:Nat} {L:List dh}
  (hg:a.eval g=.func (.func gf) #[] #[.pointer (some ⟨Bs,0,none⟩)]) (eg:∀args w,(callFunc gf args).run P w=.ok (.enter gf args) w) (hps:ps.size=1) (hBs:Bs<w.heap.size)
  (I:Nat->cu->Prop) (hI:OwnFrom w.heap.size I) (hIs:∀k A u,I k A->I k (A.setCell ⟨Bs,0,none⟩ u)) (h0:I 0 w) (hseq:a94 P gf Bs L (n-1) w) (a₁:dh->Act)
  (hassign:∀(l:Nat) (x:dh) (W:cu) (K:Act->cu->Prop),K (a₁ x) W->assign.wpIn (Fence.wide.inRound l) (n-1-1) P (Exit.then K (fun _ _ _=>False)) { tmps:=(ps.zip #[.string x]).foldl (fun t (p,v)=>t.setIfInBounds p v) a.tmps,defers:=[] } W)
  (hbody:∀(l k:Nat) (hk:k<L.length) (W:cu),I k W->body.wpIn (Fence.wide.inRound l) (n-1-1) P (a90 w.heap.size Bs (I (k+1)) W) (a₁ L[k]) W)
  (hdone:∀(D:Nat) (W:cu),w.heap.size<=D->I L.length W->W.heap[D]?=some (.deferred (some []))->Q .normal { a with defers:={ target:=.collected D,args:=#[] }::a.defers } W) :
  (Code.rangeFunc g ps assign body).wpIn Fence.wide n P Q a w:=by
 refine wpIn_rangeFunc (fun fn hfn=>?_);obtain⟨rc,hrc⟩:∃rc:LoopState->Loop,rc=fun st=>{ state:=st,pending:=none,fn,tmps:=a.tmps,params:=ps,assign,body,defers:=w.heap.size }:=⟨_,rfl⟩
 obtain⟨W1,hW1⟩:=o8 ((w.alloc (.deferred (some []))).alloc (.loop (rc .ready)));have hb1:Below w.heap.size w W1:=by rw[hW1];exact((iq _ w).alloc (gu _) _).alloc (by simp) _
 have hL1:W1.heap[w.heap.size+1]?=some (.loop (rc .ready)):=by
  rw[hW1];have h9:=World.alloc_heap_new (w.alloc (.deferred (some []))) (.loop (rc .ready));rwa[Dy] at h9
 have hD1:W1.heap[w.heap.size]?=some (.deferred (some [])):=by
  rw[hW1];exact(Below.heap_alloc _ _ _ (by simp)).trans (World.alloc_heap_new w _)
 have hIB:∀k A B,I k A->Below A.heap.size A B->I k B:=fun k A B h hb=>hI k A B none h ⟨hb.os,hb.tape,hb.output,hb.size,fun k hk _=>hb.block k hk⟩ (fun r e=>by cases e)
 have hI1:I 0 W1:=hIB 0 w W1 h0 hb1
 refine⟨w.heap.size+1,[{ target:=.collected w.heap.size,args:=#[] }],W1,{ target:=.fn (.func gf) #[.pointer (some ⟨Bs,0,none⟩)],args:=#[.func (.yield (w.heap.size+1)) #[] #[]] },W1,gf,
  #[.func (.yield (w.heap.size + 1)) #[] #[],.pointer (some ⟨Bs,0,none⟩)],W1,?_,?_,?_,?_,?_,?_⟩
 ·rw[hW1,hrc];exact run_enterLoop_outer _ _ _ _ _
 ·simp only[resolve,hg]
  simp[go_sem]
 ·intro f' _;trivial
 ·simp[invoke,go_sem,eg]
 ·intro h;cases h
 ·refine(hseq (w.heap.size+1) (fun k W=>I k W/\W.heap[w.heap.size+1]?=some (.loop (rc .ready))/\W.heap[w.heap.size]?=some (.deferred (some []))) W1 hb1
   (fun k A B h hb=>⟨hIB k A B h.1 hb,(hb.block _ (Kv.1 h.2.1).1).trans h.2.1,(hb.block _ (Kv.1 h.2.2).1).trans h.2.2⟩)
   (fun k A u h=>⟨hIs k A u h.1,(zf _ _ _ _ (by simp only;omega)).trans h.2.1,(zf _ _ _ _ (by simp only;omega)).trans h.2.2⟩) ?_ ⟨hI1,hL1,hD1⟩).mono ?_
  ·rintro k hk W ⟨hi,hl,hd⟩
   have hlt:w.heap.size+1<W.heap.size:=(Kv.1 hl).1;have hy:=run_yield (P:=P) (args:=#[.string L[k]]) hl (by rw[hrc];exact hps.symm);rw[hrc] at hy;refine⟨fn,_,assign,body,hy,roundIn_of_wpIn hfn (hassign _ L[k] W _ ⟨_,run_beginRound hl (by rw[hrc]),?_⟩)⟩;have hl2:(W.putObj (w.heap.size+1) (.loop { rc .ready with state:=.busy })).heap[w.heap.size+1]?=some (.loop { rc .ready with state:=.busy }):=World.putObj_heap_same hlt;refine wpIn_mono (hbody _ k hk _ (hI.putObj _ hi (by omega) hl rfl)) ?_;rintro e a3 W3 hp
   cases e with
   | normal =>
    obtain⟨hk3,hs3,hi3⟩:=hp;have hl3:=hk3.same _ _ (by omega) hl2 rfl;have hd3:=hk3.same _ _ (gu _) ((World.putObj_heap_other (by omega)).trans hd) rfl;refine⟨_,_,run_endRound (P:=P) none hl3,rfl,⟨hI.putObj _ hi3 (by omega) hl3 rfl,?_,(World.putObj_heap_other (by omega)).trans hd3⟩,(World.putObj_heap_other (by omega)).trans (hs3.trans (World.putObj_heap_other (by omega)))⟩;rw[World.putObj_heap_same (Kv.1 hl3).1,hrc];rfl
   | ret=>exact hp.elim
   | exit id=>exact hp.elim
   | goto t=>exact hp.elim
   | panic ch=>exact hp.elim
   | outgrown=>exact hp.elim
  ·rintro e W2 ⟨⟨v,rfl⟩,hi,hl,hd⟩
   have h9:(Instr.endLoop (w.heap.size+1)).run P W2=.ok none (W2.putObj (w.heap.size+1) (.loop { rc .ready with state:=.exhausted })):=by
    have h8:=run_endLoop (P:=P) hl (by rw[hrc];simp);rw[hrc] at h8 ⊢;exact h8
   exact⟨none,_,h9,hdone _ _ (gu _) (hI.putObj _ hi (by omega) hl rfl) ((World.putObj_heap_other (by omega)).trans hd)⟩
end Go.Proofs.YtfeejeflmcapoaaGreatDoor
