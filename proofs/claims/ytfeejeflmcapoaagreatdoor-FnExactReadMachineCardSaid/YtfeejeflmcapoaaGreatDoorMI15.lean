import Derived.Test.YtfeejeflmcapoaaGreatDoorMI12
import Derived.Test.YtfeejeflmcapoaaGreatDoorMI9
set_option linter.unusedSimpArgs false
set_option linter.unusedVariables false
set_option maxHeartbeats 4000000
set_option maxRecDepth 20000
namespace Go.Proofs.YtfeejeflmcapoaaGreatDoor
open Go.RowKit
theorem aep (ks:List dw) (k:dw) (f:Nat) (s:lu) (ss:List lu) (H:List dh) (d:Int) (hd:¬20<d) (hu:Dl s=true) (h4:s.kind≠4) {ok:Bool} (hl:Y2 ks k H s=ok):U4 ks k f s ss H d=if ok=false then none else some (.leaf s .nil,ss):=by
 unfold U4;rw[bf hd,bf (by rw[hu];decide),bf h4,hl]
theorem a7l (ks:List dw) (k:dw) (f:Nat) (s:lu) (ss:List lu) (H:List dh) (d:Int) (hd:¬20<d) (hu:Dl s=true) (h4:s.kind=4):U4 ks k f s ss H d=chF ks k f s ss H d:=by
 unfold U4;rw[bf hd,bf (by rw[hu];decide),gy h4];rfl
theorem Tf.shape {X:BD} {H:List dh} {w w':cu} {o:Option (PL×List lu)} {e:Ending} (h:Tf X H w o e w'):e=.returned .nilIface\/∃x:TypeId×Nat,e=.returned (.iface x.1 (.pointer (some ⟨x.2,0,none⟩))):=by
 unfold Tf at h
 cases o with
 | none=>exact Or.inl h.1
 | some q =>
  obtain⟨x,h1,_⟩:=h;exact Or.inr ⟨x,h1⟩
theorem an1 (X:BD) (hE:BE X) (hkb:∀x,x∈X.known->0<=x/\x<=400001) (f:Nat) (hL:Zv X f) (H:List dh) (nx:Nat) (d:Int) (w:cu) (hS:BS X w H nx) (hG:GS X w nx) (hf:X.k.body.length-nx<f) (hd:0<=d) (hd2:d<=21) (hH:(H.length:Int)<=d) (s:lu) (sb so:Nat) (ov cv av:Value) (hA:SA X.Wm sb so s ov cv av) :
  Calls Tryz.prog 171 #[.pointer (some ⟨X.bb,0,none⟩),.pointer (some ⟨sb,so,none⟩),.int .i64 d] w (Tf X H w (U4 X.ks X.k f s (X.k.body.drop nx) H d)):=by
 by_cases h20:20<d
 ·rw[show U4 X.ks X.k f s (X.k.body.drop nx) H d=none from gy h20]
  have e1:decide (20<d)=true:=jf h20;have HO:=ak hS.old;clear hE hkb hL hS hG hf hH hA h20;go_enter Tryz.func171,Tryz.ntmps171;go_wp2;go_ret;exact⟨rfl,uh HO⟩
 have e1:decide (20<d)=false:=iy h20;have HUE:=ak (adr s sb so ov cv av w (hA.stays rfl (hS.X3 hE)))
 cases hu:Dl s
 ·rw[show U4 X.ks X.k f s (X.k.body.drop nx) H d=none by unfold U4;rw[bf h20,gy hu]]
  rw[hu] at HUE;have HOW:Hid (∀w',Below w.heap.size w w'->Below X.W0.heap.size X.W0 w'):=fun w' hb=>(hS.stays hb).old
  clear hE hkb hL hS hG hf hH hA h20 hu;go_enter Tryz.func171,Tryz.ntmps171;go_wp2_with fail;refine(uh HUE).mono ?_;rintro e w1 ⟨rfl,hb1⟩;have HB1:=ak hb1;clear hb1;go_wp2;go_ret;exact⟨rfl,uh HOW _ (uh HB1)⟩
 rw[hu] at HUE;have HK0:Hid (∀w',Below w.heap.size w w'->w'.cell? ⟨sb,so,none⟩=some (.int .i64 s.kind)):=fun w' hb=>(hA.stays rfl ((hS.stays hb).X3 hE)).c0
 have Pz:Hid (∀w1 o e w2,Below w.heap.size w w1->Tf X H w1 o e w2->Tf X H w o e w2):=fun w1 o e w2 hb h=>by
  unfold Tf at *
  cases o with
  | none=>exact h
  | some q =>
   obtain⟨i,rest⟩:=q;obtain⟨x,h1,h2,h3,h4,h5⟩:=h;exact⟨x,h1,qp.mono (fun b h=>⟨ku hb.size h.1,h.2⟩) _ _ h2,h3,(But.of_below hb).trans h4,h5⟩
 have hlo:=hS.lo;have hnl:=hS.nxl
 by_cases k1:s.kind=1
 ·have HC:Hid (∀w',Below w.heap.size w w'->Calls Tryz.prog 179 #[.pointer (some ⟨X.bb,0,none⟩),.pointer (some ⟨sb,so,none⟩)] w' (Tf X H w (U4 X.ks X.k f s (X.k.body.drop nx) H d))):=fun w' hb=>by
   refine(a7m X hE H nx w' (hS.stays hb) s sb so ov cv av hA k1).mono ?_;intro e w2 h;exact uh Pz _ _ _ _ hb (h.st hE (ku hlo hb.size) hnl (aep _ _ _ _ _ _ _ h20 hu (by omega) (by unfold Y2;rw[gy k1])))
  rw[k1] at HK0;clear hE hkb hL hS hG hf hH hA h20 hu Pz;generalize U4 X.ks X.k f s (X.k.body.drop nx) H d=R at *;go_enter Tryz.func171,Tryz.ntmps171;go_wp2_with fail;refine(uh HUE).mono ?_;rintro e w1 ⟨rfl,hb1⟩;have k0:=uh HK0 w1 hb1;have Ap:=ak (uh HC w1 hb1);clear hb1;go_wp2_with fail;refine(uh Ap).mono ?_;intro e w2 h2;have H2:=ak h2;rcases h2.shape with rfl|⟨x,rfl⟩
  all_goals
   clear h2;go_wp2;go_ret;exact uh H2
 by_cases k2:s.kind=2
 ·have HC:Hid (∀w',Below w.heap.size w w'->Calls Tryz.prog 180 #[.pointer (some ⟨X.bb,0,none⟩),.pointer (some ⟨sb,so,none⟩)] w' (Tf X H w (U4 X.ks X.k f s (X.k.body.drop nx) H d))):=fun w' hb=>by
   refine(a4a X hE H nx w' (hS.stays hb) s sb so ov cv av hA k2).mono ?_;intro e w2 h;exact uh Pz _ _ _ _ hb (h.st hE (ku hlo hb.size) hnl (aep _ _ _ _ _ _ _ h20 hu (by omega) (by unfold Y2;rw[bf k1,gy k2])))
  rw[k2] at HK0;clear hE hkb hL hS hG hf hH hA h20 hu Pz;generalize U4 X.ks X.k f s (X.k.body.drop nx) H d=R at *;go_enter Tryz.func171,Tryz.ntmps171;go_wp2_with fail;refine(uh HUE).mono ?_;rintro e w1 ⟨rfl,hb1⟩;have k0:=uh HK0 w1 hb1;have Ap:=ak (uh HC w1 hb1);clear hb1;go_wp2_with fail;refine(uh Ap).mono ?_;intro e w2 h2;have H2:=ak h2;rcases h2.shape with rfl|⟨x,rfl⟩
  all_goals
   clear h2;go_wp2;go_ret;exact uh H2
 by_cases k3:s.kind=3
 ·have HC:Hid (∀w',Below w.heap.size w w'->Calls Tryz.prog 181 #[.pointer (some ⟨X.bb,0,none⟩),.pointer (some ⟨sb,so,none⟩)] w' (Tf X H w (U4 X.ks X.k f s (X.k.body.drop nx) H d))):=fun w' hb=>by
   refine(a4b X hE H nx w' (hS.stays hb) (hG.stays hb) s sb so ov cv av hA k3).mono ?_;intro e w2 h;exact uh Pz _ _ _ _ hb (h.st hE (ku hlo hb.size) hnl (aep _ _ _ _ _ _ _ h20 hu (by omega) (by unfold Y2;rw[bf k1,bf k2,gy k3])))
  rw[k3] at HK0;clear hE hkb hL hS hG hf hH hA h20 hu Pz;generalize U4 X.ks X.k f s (X.k.body.drop nx) H d=R at *;go_enter Tryz.func171,Tryz.ntmps171;go_wp2_with fail;refine(uh HUE).mono ?_;rintro e w1 ⟨rfl,hb1⟩;have k0:=uh HK0 w1 hb1;have Ap:=ak (uh HC w1 hb1);clear hb1;go_wp2_with fail;refine(uh Ap).mono ?_;intro e w2 h2;have H2:=ak h2;rcases h2.shape with rfl|⟨x,rfl⟩
  all_goals
   clear h2;go_wp2;go_ret;exact uh H2
 by_cases k4:s.kind=4
 ·have HC:Hid (∀w',Below w.heap.size w w'->Calls Tryz.prog 182 #[.pointer (some ⟨X.bb,0,none⟩),.pointer (some ⟨sb,so,none⟩),.int .i64 d] w' (Tf X H w (U4 X.ks X.k f s (X.k.body.drop nx) H d))):=fun w' hb=>by
   refine(av5 X hE hkb f hL H nx d w' (hS.stays hb) hf hd (by omega) hH s sb so ov cv av hA).mono ?_;intro e w2 h;exact uh Pz _ _ _ _ hb (by rw[a7l _ _ _ _ _ _ _ h20 hu k4];exact h)
  rw[k4] at HK0;clear hE hkb hL hS hG hf hH hA h20 hu Pz;generalize U4 X.ks X.k f s (X.k.body.drop nx) H d=R at *;go_enter Tryz.func171,Tryz.ntmps171;go_wp2_with fail;refine(uh HUE).mono ?_;rintro e w1 ⟨rfl,hb1⟩;have k0:=uh HK0 w1 hb1;have Ap:=ak (uh HC w1 hb1);clear hb1;go_wp2_with fail;refine(uh Ap).mono ?_;intro e w2 h2;have H2:=ak h2;rcases h2.shape with rfl|⟨x,rfl⟩
  all_goals
   clear h2;go_wp2;go_ret;exact uh H2
 have HN:Hid (U4 X.ks X.k f s (X.k.body.drop nx) H d=none):=by
  refine ak ?_;rw[aep X.ks X.k f s (X.k.body.drop nx) H d h20 hu k4 (show Y2 X.ks X.k H s=false by unfold Y2;rw[bf k1,bf k2,bf k3]),gy rfl]
 rw[uh HN];have HOW:Hid (∀w',Below w.heap.size w w'->Below X.W0.heap.size X.W0 w'):=fun w' hb=>(hS.stays hb).old
 have j1:(s.kind==1)=false:=by rw[su];exact k1
 have j2:(s.kind==2)=false:=by rw[su];exact k2
 have j3:(s.kind==3)=false:=by rw[su];exact k3
 have j4:(s.kind==4)=false:=by rw[su];exact k4
 clear hE hkb hL hS hG hf hH hA h20 hu Pz HN k1 k2 k3 k4;go_enter Tryz.func171,Tryz.ntmps171;go_wp2_with fail;refine(uh HUE).mono ?_;rintro e w1 ⟨rfl,hb1⟩;have k0:=uh HK0 w1 hb1;have HB1:=ak hb1;clear hb1;go_wp2;go_ret;exact⟨rfl,uh HOW _ (uh HB1)⟩
theorem a4c {ks:List dw} {k:dw} {f:Nat} {s:lu} {ss:List lu} {H:List dh} {d:Int} {i:PL} {r:List lu} (h:U4 ks k f s ss H d=some (i,r)):r.length<=ss.length:=by
 unfold U4 at h
 split at h
 ·cases h
 split at h
 ·cases h
 split at h
 ·split at h
  ·cases h
  split at h
  ·cases h
  rename_i a el r1 h5
  split at h
  ·cases h
  rename_i b en r2 h6
  simp only[uw,Prod.mk.injEq] at h;obtain⟨_,rfl⟩:=h;exact ku (akj h6) (akj h5)
 ·split at h
  ·cases h
  simp only[uw,Prod.mk.injEq] at h;obtain⟨_,rfl⟩:=h;exact gu _
theorem azk (t i:PL) (o:Option (PL×List lu)):glue t (glue i o)=glue (t.app i) o:=by
 cases o with
 | none=>rfl
 | some p =>
  unfold glue;simp only[Option.map_some,PL.avw]
theorem BS.low {X:BD} (hE:BE X) {w w':cu} {H:List dh} {nx:Nat} (h:BS X w H nx) (hb:Below X.lo w w'):BS X w' H nx:=by
 obtain⟨gv,g1,g2,g3⟩:=h.gl;exact⟨h.old.trans (hb.mono (by have:=hE.nb;omega)),ku h.lo hb.size,h.nxl,h.bl.below hb hE.nb.2,h.hl.below hb hE.nh.2,gv,g1,g2,g3.below hb hE.ng.2⟩
theorem av6 (X:BD) (hE:BE X) (hkb:∀x,x∈X.known->0<=x/\x<=400001) (f:Nat) (hL:∀g,g<f->Zv X g):Zv X f:=by
 intro H nx d w hS hf hd hd2 hH;have HE:=ak hE;have hbl:=hE.bl;obtain⟨ba,bc,hba⟩:=hE.cls.body.shape;have Ws:=ak hba;have HBD:=ak hE.cls.body;have HST:=ak (fun g (hg:g<f) nx' w' (h1:BS X w' H nx') h2 (h3:X.k.body.length-nx'<g) s sb so ov cv av hA=>an1 X hE hkb g (hL g hg) H nx' d w' h1 h2 h3 hd hd2 hH s sb so ov cv av hA);have HS:=ak hS;have HF:=ak hf;have HLO:=ak hS.lo;have hnl:=hS.nxl;clear hL hkb hS hf hba hH hE;generalize hR:Dv X.ks X.k f (X.k.body.drop nx) H d=R at *;have HR:=ak hR;clear hR;go_enter Tryz.func151,Tryz.ntmps151;go_wp2
 go_loopg [6] (X.k.body.length-nx) (fun g lv wr=>∃(nx' f':Nat) (t0:PL) (n0:List (TypeId×Nat)),nx'<=X.k.body.length/\g=X.k.body.length-nx'/\f'<=f/\X.k.body.length-nx'<f'/\jq ah6 wr w.heap.size lv n0/\qp X (fun b=>New w.heap.size wr.heap.size b/\lv.ownBlock≠some b) wr t0 n0/\n0.length<=nx'/\BS X wr H nx'/\But (Wx X) w wr/\R=glue t0 (Dv X.ks X.k f' (X.k.body.drop nx') H d))
 case atStart =>
  refine⟨nx,f,.nil,[],hnl,rfl,gu _,uh HF,jq.nil _ _,rfl,jg _,uh HS,But.refl _ _,?_⟩;rw[←uh HR]
  cases Dv X.ks X.k f (X.k.body.drop nx) H d with
  | none=>rfl
  | some p=>rfl
 case round =>
  obtain⟨m,f',t0,n0,hm,hg,hff,hfm,hown,hnd,bex,hbs,hbt,hRe⟩:=hrel;rename cu=>wr;obtain⟨f1,rfl⟩:∃g,f'=g+1:=⟨f'-1,by omega⟩;have HG:=ak hg;have HFM:=ak hfm;have HOW:=ak hown;have HND:=ak hnd;have Rw:=ak hbs;have L6:=ak hbt;have HRE:=ak hRe;obtain⟨b0,b1,b2,b3,p0,p1,p2,c1,c4,c6⟩:=hbs.cells (uh HE);rw[uh Ws] at c6;obtain⟨la,lc,hlv⟩:=hown.slice;subst hlv;have hn0:n0.length<=30000:=by omega
  clear hg hfm hown hnd hbs hbt hRe b2 b3 p1 p2 c1 c4
  by_cases hlt:m<X.k.body.length
  case neg =>
   have em:m=X.k.body.length:=by omega
   subst em;have e1:decide ((X.k.body.length:Int)<(X.k.body.length:Int))=false:=iy (by omega)
   have HRT:Hid (R=some (t0,[])):=by
    refine ak ?_;rw[uh HRE,List.drop_length];show some (t0.app .nil,[])=_;rw[PL.aq1]
   clear hlt;go_wp2_with fail;go_quiet ((fail));have U5:Hid (Below wr.heap.size wr (wr.drewN nq)):=vk _ _;generalize wr.drewN nq=w1 at *;go_wp2
   go_ret2
   rw[uh HRT];exact⟨_,n0,rfl,⟨avz ((uh HOW).below (uh U5)) hn0,((uh HOW).below (uh U5)).lt⟩,qp.mono (fun b h=>⟨h.1.1,qg h.1.2 (uh U5).size⟩) _ _ (qp.zo (Gi.of_below (uh U5)) _ _ (uh HND)),by simpa using (uh Rw).stays (uh U5),(uh L6).trans (But.of_below (uh U5)),by simp⟩
  have e1:decide ((m:Int)<(X.k.body.length:Int))=true:=jf (by omega);have hmI:(m:Int)<(X.k.body.length:Int):=by omega
  obtain⟨sb,so0,ov,cv,av,⟨bn,bc',hb'⟩,hSA⟩:=aq2 (uh HBD) m hlt;have hbb:=uh Ws;rw[hb'] at hbb;simp only[qw] at hbb;obtain⟨rfl,_,rfl⟩:=hbb;have HSA:=ak hSA;have hdr:X.k.body.drop m=X.k.body[m]::X.k.body.drop (m+1):=List.drop_eq_getElem_cons hlt;rw[hdr] at HRE;have HDR:=ak hdr;generalize X.k.body[m]=s at *;clear hSA hb' hdr;go_wp2_with fail;go_quiet ((fail));have U5:Hid (Below wr.heap.size wr (wr.drewN nq)):=vk _ _;have a7n:=ak ((uh Rw).stays (uh U5));generalize wr.drewN nq=w1 at *;obtain⟨b0',b1',b2,b3,p0',p1,p2,c1,c4,c6'⟩:=(uh a7n).cells (uh HE);rw[uh Ws] at c6';clear b0 b1 p0 c6 b2 b3 p1 p2 c1 c4;go_wp2_with fail;go_quiet ((fail));have Rx:Hid (Below wr.heap.size wr (w1.drewN nq)):=below_drewN (uh U5) _;have ah7:=ak ((uh Rw).stays (uh Rx));generalize w1.drewN nq=w2 at *;have k0:=((uh HSA).stays rfl ((uh ah7).X3 (uh HE))).c0;clear b0' b1' p0' c6' a7n U5
  by_cases Y0:s.kind=5\/s.kind=6
  ·have HRT:Hid (R=some (t0,s::X.k.body.drop (m+1))):=by
    refine ak ?_;rw[uh HRE,ata _ _ _ _ _ _ _ Y0];show some (t0.app .nil,_)=_;rw[PL.aq1]
   have hl:X.k.body.length-(s::X.k.body.drop (m+1)).length=m:=by rw[ug,Cc];omega
   have HP:Hid (afw X H w R (.returned (.tuple #[.slice la n0.length lc,.bool true])) w2):=by
    refine ak ?_;rw[uh HRT];refine⟨_,n0,rfl,⟨avz ((uh HOW).below (uh Rx)) hn0,((uh HOW).below (uh Rx)).lt⟩,qp.mono (fun b h=>⟨h.1.1,qg h.1.2 (uh Rx).size⟩) _ _ (qp.zo (Gi.of_below (uh Rx)) _ _ (uh HND)),?_,(uh L6).trans (But.of_below (uh Rx)),?_⟩
    ·rw[hl];exact uh ah7
    ·rw[hl];exact(uh HDR).symm
   clear hl HRT;rcases Y0 with h5|h6
   ·rw[h5] at k0
    clear h5;go_wp2
    go_ret2
    exact uh HP
   ·rw[h6] at k0
    clear h6;go_wp2
    go_ret2
    exact uh HP
  have e5:(s.kind==5)=false:=by rw[su];omega
  have e6:(s.kind==6)=false:=by rw[su];omega
  have HRO:=ak ((uh HRE).trans (by rw[avy _ _ _ _ _ _ _ Y0]));obtain⟨m1,m2,m3⟩:=(uh ah7).move (uh HE) hlt;have bz:=(uh ah7).bl.free 1;have b1:=((uh ah7).cells (uh HE)).b1;have HSC:=ak (uh HST f1 (by omega) (m+1) _ m1 m2 (by have:=uh HFM;omega) s sb (so0+m*6) ov cv av (uh HSA));have HB3:Hid (But (Wx X) wr (w2.setCell ⟨X.bb,1,none⟩ (.int .i64 ((m:Int)+1)))):=(But.of_below (uh Rx)).trans m3;have hmL:(m:Int)+1<=30000:=by omega
  clear m1 m2 m3 Y0 HRE;generalize hst:U4 X.ks X.k f1 s (X.k.body.drop (m+1)) H d=o at *;have HSL:=ak hst;clear hst;go_wp2_with fail;refine(uh HSC).mono ?_
  cases o with
  | none =>
   rintro e w5 ⟨rfl,hb5⟩;have Gx:=ak hb5;have HRT:Hid (R=none):=uh HRO;clear hb5;have hnn:∀w:cu,(binOp .eql 200 .nilIface .nilIface).run Tryz.prog w=.ok (.bool true) w:=fun _=>rfl
   go_wp2
   go_ret2
   rw[uh HRT];exact⟨rfl,uh Gx⟩
  | some q =>
   obtain⟨it,r⟩:=q;rintro e w5 ⟨x,rfl,hx,a7o,a7p,hr5⟩
   have HRT:Hid (R=glue (t0.app it) (Dv X.ks X.k f1 r H d)):=by
    refine ak ?_;rw[←azk];exact uh HRO
   have hrl:r.length<=X.k.body.length-(m+1):=by
    have h9:=a4c (uh HSL);rwa[Cc] at h9
   have aer:But (Wx X) wr w5:=(uh HB3).trans a7p;have HO5:=ak ((uh HOW).but aer (fun k hk=>by have:=((uh HE).inS k hk).2;have:=uh HLO;omega));have HX5:=ak hx;have HW3:Hid (wr.heap.size<=(w2.setCell ⟨X.bb,1,none⟩ (.int .i64 ((m:Int)+1))).heap.size):=(uh HB3).size;have HN5:=ak (qp.zo (aer.zo (fun k hk h=>by have:=((uh HE).inS k hk).2;have:=h.1.1;have:=uh HLO;omega)) _ _ (uh HND));have bct:=ak a7o;have akk:=ak ((uh L6).trans aer);have Xg:=ak hr5;have hnf:∀w:cu,(binOp .eql 200 (.iface x.1 (.pointer (some ⟨x.2,0,none⟩))) .nilIface).run Tryz.prog w=.ok (.bool false) w:=fun _=>rfl
   have hbz:w.heap.size<=w5.heap.size:=(uh akk).size;have bey:wr.heap.size<=w5.heap.size:=aer.size;have HA5:Hid (Below w5.heap.size w5 (w5.alloc (.cells #[.iface x.1 (.pointer (some ⟨x.2,0,none⟩))] 200))):=(iq _ _).alloc (gu _) _;have HO6:=ak ((uh HO5).below (uh HA5));clear hx a7o a7p hr5 aer HRO HO5;go_wp2_with (at_builtin;go_must (refine La ah6 _ rfl _ _ rfl w.heap.size _ n0 rfl (uh HO6) w5.heap.size x rfl (fun j u hu=>by rw[zu _ _ _ _ rfl];simpa[ah6] using hu) (by simp[ah6];omega) (by simp;omega) ?_));intro v' w6 ho6 hg6 hn6;have Zx:=(uh HOW).lt;have hblk:∀b,b<w5.heap.size->(Value.slice la n0.length lc).ownBlock≠some b->w6.heap[b]?=w5.heap[b]?:=fun b hb hne=>(hg6.block b (qg hb (uh HA5).size) (fun e=>hne e.symm)).trans ((uh HA5).block b hb)
   have atc:w5.heap.size<=w6.heap.size:=ku (uh HA5).size hg6.size;have hB6:∀B,B<=w.heap.size->Below B w5 w6:=fun B hB=>⟨hg6.os.trans (uh HA5).os,hg6.tape.trans (uh HA5).tape,hg6.output.trans (uh HA5).output,atc,fun k hk=>hblk k (by omega) (fun e=>by have:=(Zx k e).1;omega)⟩
   have bcu:=ak ((uh bct).low (uh HE) (hB6 X.lo (uh HLO)));have bcv:Hid (But (Wx X) w w6):=⟨(hB6 _ (gu _)).os.trans (uh akk).os,(hB6 _ (gu _)).tape.trans (uh akk).tape,(hB6 _ (gu _)).output.trans (uh akk).output,ku (uh akk).size atc,fun k hk hn=>((hB6 _ (gu _)).block k hk).trans ((uh akk).block k hk hn)⟩
   have hna:qp X (fun b=>New w.heap.size w6.heap.size b/\v'.ownBlock≠some b) w6 t0 n0:=by
    refine qp.mono (fun b h=>⟨⟨h.1.1,by have:=h.1.2;omega⟩,fun e=>?_⟩) _ _ (qp.zo ⟨atc,fun b h hb=>hblk b hb h.2⟩ _ _ (uh HN5));rcases hn6 b e with h9|h9
    ·exact h.2 h9
    ·have:=h.1.2
     omega
   have hnb:qp X (fun b=>New w.heap.size w6.heap.size b/\v'.ownBlock≠some b) w6 it [x]:=by
    refine qp.mono (fun b h=>⟨⟨by have:=h.1;have:=uh HW3;have:=(uh L6).size;omega,by have:=h.2;omega⟩,fun e=>?_⟩) _ _ (qp.zo ⟨atc,fun b h hb=>hblk b hb (fun e=>by have:=(Zx b e).2;have:=h.1;have:=uh HW3;omega)⟩ _ _ (uh HX5));rcases hn6 b e with h9|h9
    ·have:=(Zx b h9).2
     have:=h.1;have:=uh HW3;omega
    ·have:=h.2
     omega
   have HN6:=ak (qp.app _ _ _ _ hna hnb);have Xd:=ak ho6;obtain⟨ga,bez,hv'⟩:=ho6.slice;subst hv';clear ho6 hg6 hn6 Zx hblk hB6 hna hnb;go_wp2
   go_roundg (X.k.body.length-(X.k.body.length-r.length))
   case measure=>have:=uh HG;omega
   case rel=>exact⟨X.k.body.length-r.length,f1,t0.app it,n0++[x],by omega,rfl,by omega,by have:=uh HFM;omega,uh Xd,uh HN6,by simp;omega,uh bcu,uh bcv,by rw[←uh Xg];exact uh HRT⟩
theorem a4d (X:BD) (hE:BE X) (hkb:∀x,x∈X.known->0<=x/\x<=400001) (f:Nat):Zv X f:=by
 induction f using Nat.strongRecOn with
 | ind f ih=>exact av6 X hE hkb f ih
end Go.Proofs.YtfeejeflmcapoaaGreatDoor
