import Derived.Test.YtfeejeflmcapoaaGreatDoorMI12
import Derived.Test.YtfeejeflmcapoaaGreatDoorMI9
set_option linter.unusedSimpArgs false
set_option linter.unusedVariables false
set_option maxHeartbeats 4000000
namespace Go.Proofs.YtfeejeflmcapoaaGreatDoor
open Go.RowKit
theorem aes (ks:List dw) (k:dw) (f:Nat) (s:lu) (ss:List lu) (H:List dh) (d:Int) (hd:¬20<d) (hu:Dy s=true) (h4:s.kind≠4) {ok:Bool} (hl:Y4 ks k H s=ok):U8 ks k f s ss H d=if ok=false then none else some (.leaf s .nil,ss):=by
 unfold U8;rw[ay hd,ay (by rw[hu];decide),ay h4,hl]
theorem a8a (ks:List dw) (k:dw) (f:Nat) (s:lu) (ss:List lu) (H:List dh) (d:Int) (hd:¬20<d) (hu:Dy s=true) (h4:s.kind=4):U8 ks k f s ss H d=chF ks k f s ss H d:=by
 unfold U8;rw[ay hd,ay (by rw[hu];decide),gu h4];rfl
theorem Tv.shape {X:BD} {H:List dh} {w w':bf} {o:Option (PL × List lu)} {e:Ending} (h:Tv X H w o e w'):e=.returned .nilIface∨∃x:TypeId × Nat,e=.returned (.iface x.1 (.pointer (some ⟨x.2,0,none⟩))):=by
 unfold Tv at h
 cases o with
 | none=>exact Or.inl h.1
 | some q =>
  obtain⟨x,h1,_⟩:=h;exact Or.inr ⟨x,h1⟩
set_option maxRecDepth 20000 in
theorem an2 (X:BD) (hE:BE X) (hkb:∀x,x∈X.known->0<=x∧x<=400001) (f:Nat) (hL:Zz X f) (H:List dh) (nx:Nat) (d:Int) (w:bf) (hS:BS X w H nx) (hG:GS X w nx) (hf:X.k.body.length-nx<f) (hd:0<=d) (hd2:d<=21) (hH:(H.length:Int)<=d) (s:lu) (sb so:Nat) (ov cv av:Value) (hA:SA X.Wm sb so s ov cv av) :
  Calls Tryz.prog 171 #[.pointer (some ⟨X.bb,0,none⟩),.pointer (some ⟨sb,so,none⟩),.int .i64 d] w (Tv X H w (U8 X.ks X.k f s (X.k.body.drop nx) H d)):=by
 by_cases h20:20<d
 ·rw[show U8 X.ks X.k f s (X.k.body.drop nx) H d=none from gu h20]
  have e1:decide (20<d)=true:=jf h20;have HO:=hide hS.old;clear hE hkb hL hS hG hf hH hA h20;go_enter Tryz.func171,Tryz.ntmps171;go_wp2;go_ret;exact⟨rfl,uh HO⟩
 have e1:decide (20<d)=false:=iw h20;have HUE:=hide (adt s sb so ov cv av w (hA.stays rfl (hS.X7 hE)))
 cases hu:Dy s
 ·rw[show U8 X.ks X.k f s (X.k.body.drop nx) H d=none by unfold U8;rw[ay h20,gu hu]]
  rw[hu] at HUE;have HOW:Hid (∀w',Below w.heap.size w w'->Below X.W0.heap.size X.W0 w'):=fun w' hb=>(hS.stays hb).old
  clear hE hkb hL hS hG hf hH hA h20 hu;go_enter Tryz.func171,Tryz.ntmps171;go_wp2_with fail;refine(uh HUE).mono ?_;rintro e w1 ⟨rfl,hb1⟩;have HB1:=hide hb1;clear hb1;go_wp2;go_ret;exact⟨rfl,uh HOW _ (uh HB1)⟩
 rw[hu] at HUE;have HK0:Hid (∀w',Below w.heap.size w w'->w'.cell? ⟨sb,so,none⟩=some (.int .i64 s.kind)):=fun w' hb=>(hA.stays rfl ((hS.stays hb).X7 hE)).c0
 have Qb:Hid (∀w1 o e w2,Below w.heap.size w w1->Tv X H w1 o e w2->Tv X H w o e w2):=fun w1 o e w2 hb h=>by
  unfold Tv at *
  cases o with
  | none=>exact h
  | some q =>
   obtain⟨i,rest⟩:=q;obtain⟨x,h1,h2,h3,h4,h5⟩:=h;exact⟨x,h1,qp.mono (fun b h=>⟨jq hb.size h.1,h.2⟩) _ _ h2,h3,(But.of_below hb).trans h4,h5⟩
 have hlo:=hS.lo;have hnl:=hS.nxl
 by_cases k1:s.kind=1
 ·have HC:Hid (∀w',Below w.heap.size w w'->Calls Tryz.prog 179 #[.pointer (some ⟨X.bb,0,none⟩),.pointer (some ⟨sb,so,none⟩)] w' (Tv X H w (U8 X.ks X.k f s (X.k.body.drop nx) H d))):=fun w' hb=>by
   refine(a8b X hE H nx w' (hS.stays hb) s sb so ov cv av hA k1).mono ?_;intro e w2 h;exact uh Qb _ _ _ _ hb (h.st hE (jq hlo hb.size) hnl (aes _ _ _ _ _ _ _ h20 hu (by omega) (by unfold Y4;rw[gu k1])))
  rw[k1] at HK0;clear hE hkb hL hS hG hf hH hA h20 hu Qb;generalize U8 X.ks X.k f s (X.k.body.drop nx) H d=R at *;go_enter Tryz.func171,Tryz.ntmps171;go_wp2_with fail;refine(uh HUE).mono ?_;rintro e w1 ⟨rfl,hb1⟩;have k0:=uh HK0 w1 hb1;have Aw:=hide (uh HC w1 hb1);clear hb1;go_wp2_with fail;refine(uh Aw).mono ?_;intro e w2 h2;have H2:=hide h2;rcases h2.shape with rfl|⟨x,rfl⟩
  all_goals
   clear h2;go_wp2;go_ret;exact uh H2
 by_cases k2:s.kind=2
 ·have HC:Hid (∀w',Below w.heap.size w w'->Calls Tryz.prog 180 #[.pointer (some ⟨X.bb,0,none⟩),.pointer (some ⟨sb,so,none⟩)] w' (Tv X H w (U8 X.ks X.k f s (X.k.body.drop nx) H d))):=fun w' hb=>by
   refine(a4l X hE H nx w' (hS.stays hb) s sb so ov cv av hA k2).mono ?_;intro e w2 h;exact uh Qb _ _ _ _ hb (h.st hE (jq hlo hb.size) hnl (aes _ _ _ _ _ _ _ h20 hu (by omega) (by unfold Y4;rw[ay k1,gu k2])))
  rw[k2] at HK0;clear hE hkb hL hS hG hf hH hA h20 hu Qb;generalize U8 X.ks X.k f s (X.k.body.drop nx) H d=R at *;go_enter Tryz.func171,Tryz.ntmps171;go_wp2_with fail;refine(uh HUE).mono ?_;rintro e w1 ⟨rfl,hb1⟩;have k0:=uh HK0 w1 hb1;have Aw:=hide (uh HC w1 hb1);clear hb1;go_wp2_with fail;refine(uh Aw).mono ?_;intro e w2 h2;have H2:=hide h2;rcases h2.shape with rfl|⟨x,rfl⟩
  all_goals
   clear h2;go_wp2;go_ret;exact uh H2
 by_cases k3:s.kind=3
 ·have HC:Hid (∀w',Below w.heap.size w w'->Calls Tryz.prog 181 #[.pointer (some ⟨X.bb,0,none⟩),.pointer (some ⟨sb,so,none⟩)] w' (Tv X H w (U8 X.ks X.k f s (X.k.body.drop nx) H d))):=fun w' hb=>by
   refine(a4m X hE H nx w' (hS.stays hb) (hG.stays hb) s sb so ov cv av hA k3).mono ?_;intro e w2 h;exact uh Qb _ _ _ _ hb (h.st hE (jq hlo hb.size) hnl (aes _ _ _ _ _ _ _ h20 hu (by omega) (by unfold Y4;rw[ay k1,ay k2,gu k3])))
  rw[k3] at HK0;clear hE hkb hL hS hG hf hH hA h20 hu Qb;generalize U8 X.ks X.k f s (X.k.body.drop nx) H d=R at *;go_enter Tryz.func171,Tryz.ntmps171;go_wp2_with fail;refine(uh HUE).mono ?_;rintro e w1 ⟨rfl,hb1⟩;have k0:=uh HK0 w1 hb1;have Aw:=hide (uh HC w1 hb1);clear hb1;go_wp2_with fail;refine(uh Aw).mono ?_;intro e w2 h2;have H2:=hide h2;rcases h2.shape with rfl|⟨x,rfl⟩
  all_goals
   clear h2;go_wp2;go_ret;exact uh H2
 by_cases k4:s.kind=4
 ·have HC:Hid (∀w',Below w.heap.size w w'->Calls Tryz.prog 182 #[.pointer (some ⟨X.bb,0,none⟩),.pointer (some ⟨sb,so,none⟩),.int .i64 d] w' (Tv X H w (U8 X.ks X.k f s (X.k.body.drop nx) H d))):=fun w' hb=>by
   refine(av8 X hE hkb f hL H nx d w' (hS.stays hb) hf hd (by omega) hH s sb so ov cv av hA).mono ?_;intro e w2 h;exact uh Qb _ _ _ _ hb (by rw[a8a _ _ _ _ _ _ _ h20 hu k4];exact h)
  rw[k4] at HK0;clear hE hkb hL hS hG hf hH hA h20 hu Qb;generalize U8 X.ks X.k f s (X.k.body.drop nx) H d=R at *;go_enter Tryz.func171,Tryz.ntmps171;go_wp2_with fail;refine(uh HUE).mono ?_;rintro e w1 ⟨rfl,hb1⟩;have k0:=uh HK0 w1 hb1;have Aw:=hide (uh HC w1 hb1);clear hb1;go_wp2_with fail;refine(uh Aw).mono ?_;intro e w2 h2;have H2:=hide h2;rcases h2.shape with rfl|⟨x,rfl⟩
  all_goals
   clear h2;go_wp2;go_ret;exact uh H2
 have HN:Hid (U8 X.ks X.k f s (X.k.body.drop nx) H d=none):=by
  refine hide ?_;rw[aes X.ks X.k f s (X.k.body.drop nx) H d h20 hu k4 (show Y4 X.ks X.k H s=false by unfold Y4;rw[ay k1,ay k2,ay k3]),gu rfl]
 rw[uh HN];have HOW:Hid (∀w',Below w.heap.size w w'->Below X.W0.heap.size X.W0 w'):=fun w' hb=>(hS.stays hb).old
 have j1:(s.kind == 1)=false:=by rw[su];exact k1
 have j2:(s.kind == 2)=false:=by rw[su];exact k2
 have j3:(s.kind == 3)=false:=by rw[su];exact k3
 have j4:(s.kind == 4)=false:=by rw[su];exact k4
 clear hE hkb hL hS hG hf hH hA h20 hu Qb HN k1 k2 k3 k4;go_enter Tryz.func171,Tryz.ntmps171;go_wp2_with fail;refine(uh HUE).mono ?_;rintro e w1 ⟨rfl,hb1⟩;have k0:=uh HK0 w1 hb1;have HB1:=hide hb1;clear hb1;go_wp2;go_ret;exact⟨rfl,uh HOW _ (uh HB1)⟩
theorem a4n {ks:List dw} {k:dw} {f:Nat} {s:lu} {ss:List lu} {H:List dh} {d:Int} {i:PL} {r:List lu} (h:U8 ks k f s ss H d=some (i,r)):r.length<=ss.length:=by
 unfold U8 at h
 split at h
 ·cases h
 split at h
 ·cases h
 split at h
 ·split at h
  ·cases h
  split at h
  ·cases h
  rename_i a el r1 h5
  split at h
  ·cases h
  rename_i b en r2 h6
  simp only[uo,Prod.mk.injEq] at h;obtain⟨_,rfl⟩:=h;exact jq (akl h6) (akl h5)
 ·split at h
  ·cases h
  simp only[uo,Prod.mk.injEq] at h;obtain⟨_,rfl⟩:=h;exact gq _
theorem azp (t i:PL) (o:Option (PL × List lu)):glue t (glue i o)=glue (t.app i) o:=by
 cases o with
 | none=>rfl
 | some p =>
  unfold glue;simp only[Option.map_some,PL.avz]
theorem BS.low {X:BD} (hE:BE X) {w w':bf} {H:List dh} {nx:Nat} (h:BS X w H nx) (hb:Below X.lo w w'):BS X w' H nx:=by
 obtain⟨gv,g1,g2,g3⟩:=h.gl;exact⟨h.old.trans (hb.mono (by have:=hE.nb;omega)),jq h.lo hb.size,h.nxl,h.bl.below hb hE.nb.2,h.hl.below hb hE.nh.2,gv,g1,g2,g3.below hb hE.ng.2⟩
set_option maxRecDepth 20000 in
theorem av9 (X:BD) (hE:BE X) (hkb:∀x,x∈X.known->0<=x∧x<=400001) (f:Nat) (hL:∀g,g<f->Zz X g):Zz X f:=by
 intro H nx d w hS hf hd hd2 hH;have HE:=hide hE;have hbl:=hE.bl;obtain⟨ba,bc,hba⟩:=hE.cls.body.shape;have Wy:=hide hba;have HBD:=hide hE.cls.body;have HST:=hide (fun g (hg:g<f) nx' w' (h1:BS X w' H nx') h2 (h3:X.k.body.length-nx'<g) s sb so ov cv av hA=>an2 X hE hkb g (hL g hg) H nx' d w' h1 h2 h3 hd hd2 hH s sb so ov cv av hA);have HS:=hide hS;have HF:=hide hf;have HLO:=hide hS.lo;have hnl:=hS.nxl;clear hL hkb hS hf hba hH hE;generalize hR:Ea X.ks X.k f (X.k.body.drop nx) H d=R at *;have HR:=hide hR;clear hR;go_enter Tryz.func151,Tryz.ntmps151;go_wp2
 go_loopg [6] (X.k.body.length-nx) (fun g lv wr=>∃(nx' f':Nat) (t0:PL) (n0:List (TypeId × Nat)),nx'<=X.k.body.length∧g=X.k.body.length-nx'∧f'<=f∧X.k.body.length-nx'<f'∧jm ah8 wr w.heap.size lv n0∧qp X (fun b=>New w.heap.size wr.heap.size b∧lv.ownBlock≠some b) wr t0 n0∧n0.length<=nx'∧BS X wr H nx'∧But (Xb X) w wr∧R=glue t0 (Ea X.ks X.k f' (X.k.body.drop nx') H d))
 case atStart =>
  refine⟨nx,f,.nil,[],hnl,rfl,gq _,uh HF,jm.nil _ _,rfl,jg _,uh HS,But.refl _ _,?_⟩;rw[←uh HR]
  cases Ea X.ks X.k f (X.k.body.drop nx) H d with
  | none=>rfl
  | some p=>rfl
 case round =>
  obtain⟨m,f',t0,n0,hm,hg,hff,hfm,hown,hnd,bfk,hbs,hbt,hRe⟩:=hrel;rename bf=>wr;obtain⟨f1,rfl⟩:∃g,f'=g+1:=⟨f'-1,by omega⟩;have HG:=hide hg;have HFM:=hide hfm;have HOW:=hide hown;have HND:=hide hnd;have Sm:=hide hbs;have L8:=hide hbt;have HRE:=hide hRe;obtain⟨b0,b1,b2,b3,p0,p1,p2,c1,c4,c6⟩:=hbs.cells (uh HE);rw[uh Wy] at c6;obtain⟨la,lc,hlv⟩:=hown.slice;subst hlv;have hn0:n0.length<=30000:=by omega
  clear hg hfm hown hnd hbs hbt hRe b2 b3 p1 p2 c1 c4
  by_cases hlt:m<X.k.body.length
  case neg =>
   have em:m=X.k.body.length:=by omega
   subst em;have e1:decide ((X.k.body.length:Int)<(X.k.body.length:Int))=false:=iw (by omega)
   have HRT:Hid (R=some (t0,[])):=by
    refine hide ?_;rw[uh HRE,List.drop_length];show some (t0.app .nil,[])=_;rw[PL.aq2]
   clear hlt;go_wp2_with fail;go_quiet ((fail));have U9:Hid (Below wr.heap.size wr (wr.drewN nq)):=uz _ _;generalize wr.drewN nq=w1 at *;go_wp2
   go_ret2
   rw[uh HRT];exact⟨_,n0,rfl,⟨av3 ((uh HOW).below (uh U9)) hn0,((uh HOW).below (uh U9)).lt⟩,qp.mono (fun b h=>⟨h.1.1,qj h.1.2 (uh U9).size⟩) _ _ (qp.zl (F7.of_below (uh U9)) _ _ (uh HND)),by simpa using (uh Sm).stays (uh U9),(uh L8).trans (But.of_below (uh U9)),by simp⟩
  have e1:decide ((m:Int)<(X.k.body.length:Int))=true:=jf (by omega);have hmI:(m:Int)<(X.k.body.length:Int):=by omega
  obtain⟨sb,so0,ov,cv,av,⟨bn,bc',hb'⟩,hSA⟩:=aq3 (uh HBD) m hlt;have hbb:=uh Wy;rw[hb'] at hbb;simp only[qw] at hbb;obtain⟨rfl,_,rfl⟩:=hbb;have HSA:=hide hSA;have hdr:X.k.body.drop m=X.k.body[m]::X.k.body.drop (m+1):=List.drop_eq_getElem_cons hlt;rw[hdr] at HRE;have HDR:=hide hdr;generalize X.k.body[m]=s at *;clear hSA hb' hdr;go_wp2_with fail;go_quiet ((fail));have U9:Hid (Below wr.heap.size wr (wr.drewN nq)):=uz _ _;have a8c:=hide ((uh Sm).stays (uh U9));generalize wr.drewN nq=w1 at *;obtain⟨b0',b1',b2,b3,p0',p1,p2,c1,c4,c6'⟩:=(uh a8c).cells (uh HE);rw[uh Wy] at c6';clear b0 b1 p0 c6 b2 b3 p1 p2 c1 c4;go_wp2_with fail;go_quiet ((fail));have Sr:Hid (Below wr.heap.size wr (w1.drewN nq)):=below_drewN (uh U9) _;have ah9:=hide ((uh Sm).stays (uh Sr));generalize w1.drewN nq=w2 at *;have k0:=((uh HSA).stays rfl ((uh ah9).X7 (uh HE))).c0;clear b0' b1' p0' c6' a8c U9
  by_cases Y2:s.kind=5∨s.kind=6
  ·have HRT:Hid (R=some (t0,s::X.k.body.drop (m+1))):=by
    refine hide ?_;rw[uh HRE,atc _ _ _ _ _ _ _ Y2];show some (t0.app .nil,_)=_;rw[PL.aq2]
   have hl:X.k.body.length-(s::X.k.body.drop (m+1)).length=m:=by rw[uf,Dh];omega
   have HP:Hid (afy X H w R (.returned (.tuple #[.slice la n0.length lc,.bool true])) w2):=by
    refine hide ?_;rw[uh HRT];refine⟨_,n0,rfl,⟨av3 ((uh HOW).below (uh Sr)) hn0,((uh HOW).below (uh Sr)).lt⟩,qp.mono (fun b h=>⟨h.1.1,qj h.1.2 (uh Sr).size⟩) _ _ (qp.zl (F7.of_below (uh Sr)) _ _ (uh HND)),?_,(uh L8).trans (But.of_below (uh Sr)),?_⟩
    ·rw[hl];exact uh ah9
    ·rw[hl];exact(uh HDR).symm
   clear hl HRT;rcases Y2 with h5|h6
   ·rw[h5] at k0
    clear h5;go_wp2
    go_ret2
    exact uh HP
   ·rw[h6] at k0
    clear h6;go_wp2
    go_ret2
    exact uh HP
  have e5:(s.kind == 5)=false:=by rw[su];omega
  have e6:(s.kind == 6)=false:=by rw[su];omega
  have HRO:=hide ((uh HRE).trans (by rw[av2 _ _ _ _ _ _ _ Y2]));obtain⟨m1,m2,m3⟩:=(uh ah9).move (uh HE) hlt;have bz:=(uh ah9).bl.free 1;have b1:=((uh ah9).cells (uh HE)).b1;have HSC:=hide (uh HST f1 (by omega) (m+1) _ m1 m2 (by have:=uh HFM;omega) s sb (so0+m*6) ov cv av (uh HSA));have HB3:Hid (But (Xb X) wr (w2.setCell ⟨X.bb,1,none⟩ (.int .i64 ((m:Int)+1)))):=(But.of_below (uh Sr)).trans m3;have hmL:(m:Int)+1<=30000:=by omega
  clear m1 m2 m3 Y2 HRE;generalize hst:U8 X.ks X.k f1 s (X.k.body.drop (m+1)) H d=o at *;have HSL:=hide hst;clear hst;go_wp2_with fail;refine(uh HSC).mono ?_
  cases o with
  | none =>
   rintro e w5 ⟨rfl,hb5⟩;have Hf:=hide hb5;have HRT:Hid (R=none):=uh HRO;clear hb5;have hnn:∀w:bf,(binOp .eql 200 .nilIface .nilIface).run Tryz.prog w=.ok (.bool true) w:=fun _=>rfl
   go_wp2
   go_ret2
   rw[uh HRT];exact⟨rfl,uh Hf⟩
  | some q =>
   obtain⟨it,r⟩:=q;rintro e w5 ⟨x,rfl,hx,a8d,a8e,hr5⟩
   have HRT:Hid (R=glue (t0.app it) (Ea X.ks X.k f1 r H d)):=by
    refine hide ?_;rw[←azp];exact uh HRO
   have hrl:r.length<=X.k.body.length-(m+1):=by
    have h9:=a4n (uh HSL);rwa[Dh] at h9
   have aeu:But (Xb X) wr w5:=(uh HB3).trans a8e;have HO5:=hide ((uh HOW).but aeu (fun k hk=>by have:=((uh HE).inS k hk).2;have:=uh HLO;omega));have HX5:=hide hx;have HW3:Hid (wr.heap.size<=(w2.setCell ⟨X.bb,1,none⟩ (.int .i64 ((m:Int)+1))).heap.size):=(uh HB3).size;have HN5:=hide (qp.zl (aeu.zl (fun k hk h=>by have:=((uh HE).inS k hk).2;have:=h.1.1;have:=uh HLO;omega)) _ _ (uh HND));have bdh:=hide a8d;have akm:=hide ((uh L8).trans aeu);have Xk:=hide hr5;have hnf:∀w:bf,(binOp .eql 200 (.iface x.1 (.pointer (some ⟨x.2,0,none⟩))) .nilIface).run Tryz.prog w=.ok (.bool false) w:=fun _=>rfl
   have hbz:w.heap.size<=w5.heap.size:=(uh akm).size;have bfl:wr.heap.size<=w5.heap.size:=aeu.size;have HA5:Hid (Below w5.heap.size w5 (w5.alloc (.cells #[.iface x.1 (.pointer (some ⟨x.2,0,none⟩))] 200))):=(gy _ _).alloc (gq _) _;have HO6:=hide ((uh HO5).below (uh HA5));clear hx a8d a8e hr5 aeu HRO HO5;go_wp2_with (at_builtin;go_must (refine Ld ah8 _ rfl _ _ rfl w.heap.size _ n0 rfl (uh HO6) w5.heap.size x rfl (fun j u hu=>by rw[zy _ _ _ _ rfl];simpa[ah8] using hu) (by simp[ah8];omega) (by simp;omega) ?_));intro v' w6 ho6 hg6 hn6;have Z8:=(uh HOW).lt;have hblk:∀b,b<w5.heap.size->(Value.slice la n0.length lc).ownBlock≠some b->w6.heap[b]?=w5.heap[b]?:=fun b hb hne=>(hg6.block b (qj hb (uh HA5).size) (fun e=>hne e.symm)).trans ((uh HA5).block b hb)
   have ate:w5.heap.size<=w6.heap.size:=jq (uh HA5).size hg6.size;have hB6:∀B,B<=w.heap.size->Below B w5 w6:=fun B hB=>⟨hg6.os.trans (uh HA5).os,hg6.tape.trans (uh HA5).tape,hg6.output.trans (uh HA5).output,ate,fun k hk=>hblk k (by omega) (fun e=>by have:=(Z8 k e).1;omega)⟩
   have bdi:=hide ((uh bdh).low (uh HE) (hB6 X.lo (uh HLO)));have bdj:Hid (But (Xb X) w w6):=⟨(hB6 _ (gq _)).os.trans (uh akm).os,(hB6 _ (gq _)).tape.trans (uh akm).tape,(hB6 _ (gq _)).output.trans (uh akm).output,jq (uh akm).size ate,fun k hk hn=>((hB6 _ (gq _)).block k hk).trans ((uh akm).block k hk hn)⟩
   have hna:qp X (fun b=>New w.heap.size w6.heap.size b∧v'.ownBlock≠some b) w6 t0 n0:=by
    refine qp.mono (fun b h=>⟨⟨h.1.1,by have:=h.1.2;omega⟩,fun e=>?_⟩) _ _ (qp.zl ⟨ate,fun b h hb=>hblk b hb h.2⟩ _ _ (uh HN5));rcases hn6 b e with h9|h9
    ·exact h.2 h9
    ·have:=h.1.2
     omega
   have hnb:qp X (fun b=>New w.heap.size w6.heap.size b∧v'.ownBlock≠some b) w6 it [x]:=by
    refine qp.mono (fun b h=>⟨⟨by have:=h.1;have:=uh HW3;have:=(uh L8).size;omega,by have:=h.2;omega⟩,fun e=>?_⟩) _ _ (qp.zl ⟨ate,fun b h hb=>hblk b hb (fun e=>by have:=(Z8 b e).2;have:=h.1;have:=uh HW3;omega)⟩ _ _ (uh HX5));rcases hn6 b e with h9|h9
    ·have:=(Z8 b h9).2
     have:=h.1;have:=uh HW3;omega
    ·have:=h.2
     omega
   have HN6:=hide (qp.app _ _ _ _ hna hnb);have Xh:=hide ho6;obtain⟨ga,bfm,hv'⟩:=ho6.slice;subst hv';clear ho6 hg6 hn6 Z8 hblk hB6 hna hnb;go_wp2
   go_roundg (X.k.body.length-(X.k.body.length-r.length))
   case measure=>have:=uh HG;omega
   case rel=>exact⟨X.k.body.length-r.length,f1,t0.app it,n0++[x],by omega,rfl,by omega,by have:=uh HFM;omega,uh Xh,uh HN6,by simp;omega,uh bdi,uh bdj,by rw[←uh Xk];exact uh HRT⟩
theorem a4o (X:BD) (hE:BE X) (hkb:∀x,x∈X.known->0<=x∧x<=400001) (f:Nat):Zz X f:=by
 induction f using Nat.strongRecOn with
 | ind f ih=>exact av9 X hE hkb f ih
end Go.Proofs.YtfeejeflmcapoaaGreatDoor
