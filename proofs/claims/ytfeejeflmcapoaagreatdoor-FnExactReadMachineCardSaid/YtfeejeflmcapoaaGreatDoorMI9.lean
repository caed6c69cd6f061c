import Derived.Test.YtfeejeflmcapoaaGreatDoorMI5
set_option linter.unusedSimpArgs false
set_option linter.unusedVariables false
set_option maxHeartbeats 4000000
set_option maxRecDepth 20000
namespace Go.Proofs.YtfeejeflmcapoaaGreatDoor
open Go.RowKit
theorem awf {w:cu} {v:Value} {xs:List (Nat×Nat)} (h:jc 2 16 am2 0 w v xs) (j:Nat) (hj:j<xs.length):∃b o n c,v=.slice (some ⟨b,o,none⟩) n c/\b<w.heap.size/\n=xs.length/\w.cell? ⟨b,o+j*2,none⟩=some (.pointer (some ⟨xs[j].1,0,none⟩))/\w.cell? ⟨b,o+j*2+1,none⟩=some (.int .i64 xs[j].2):=by
 obtain⟨a,cap,rfl,_,_,hx⟩:=h;obtain⟨b,o,cs,rfl,_,hb,hl,hc,rfl⟩:=hx j hj;exact⟨b,o,_,_,rfl,hb,rfl,hc 0 (by simp),hc 1 (by simp)⟩
theorem awg {w:cu} {v:Value} {xs:List dh} (h:jc 1 16 xk 0 w v xs):∃a c,v=.slice a xs.length c/\∀i (hi:i<xs.length),∃b o,a=some ⟨b,o,none⟩/\b<w.heap.size/\Len xs[i].size/\w.cell? ⟨b,o+i,none⟩=some (.string xs[i]):=by
 obtain⟨a,cap,rfl,_,_,hx⟩:=h;refine⟨a,cap,rfl,fun i hi=>?_⟩;obtain⟨b,o,cs,rfl,_,hb,hl,hc,rfl,hs⟩:=hx i hi;have:=hc 0 (by simp);rw[jr,ji] at this;exact⟨b,o,rfl,hb,hs,this⟩
theorem az0 (X:BD) (hE:BE X) (H:List dh) (nx:Nat) (w:cu) (hS:BS X w H nx) (hG:GS X w nx) (s:lu) (sb so:Nat) (ov cv av:Value) (hA:SA X.Wm sb so s ov cv av) (hk:s.kind=3) (hb:s.at_<0\/(X.k.ay.length:Int)<=s.at_) :
  Calls Tryz.prog 181 #[.pointer (some ⟨X.bb,0,none⟩),.pointer (some ⟨sb,so,none⟩)] w (L9 X H nx w s (Y9 X.ks X.k H s)):=by
 rw[azy _ _ _ _ hb];have Ac:Hid (∀w1,Below w.heap.size w w1->BS X w1 H nx):=fun w1 hb=>hS.stays hb
 have hC:=hS.cells hE;have hB:=hA.stays rfl (hS.X3 hE);have b0:=hC.b0;have p2:=hC.p2;have s2:=hB.c2;obtain⟨ib,ic,hiv⟩:=hE.ay.shape;have hil:=hE.ay.Ob;rw[hiv] at p2;have hl:=hE.inl;rw[hl] at p2 hil;have hat:=hA.at_;clear hS hA hC hB hE hG hk hiv hl
 by_cases h1:s.at_<0
 ·have e1:decide (s.at_<0)=true:=jf h1
  clear h1 hb;go_enter Tryz.func181,Tryz.ntmps181;go_wp2_with fail;go_quiet ((fail));go_wp2;go_ret;exact L9.no (vk _ _) (uh Ac _ (vk _ _))
 have e1:decide (s.at_<0)=false:=iy h1;have e2:decide ((X.k.ay.length:Int)<=s.at_)=true:=jf (by omega);clear h1 hb;go_enter Tryz.func181,Tryz.ntmps181;go_wp2_with fail;go_quiet ((fail));go_wp2;go_ret;exact L9.no (vk _ _) (uh Ac _ (vk _ _))
theorem a4i (X:BD) (hE:BE X) (H:List dh) (nx:Nat) (w:cu) (hS:BS X w H nx) (hG:GS X w nx) (s:lu) (sb so:Nat) (ov cv av:Value) (hA:SA X.Wm sb so s ov cv av) (hk:s.kind=3) (j:Nat) (hj:j<X.k.ay.length) (ha:s.at_=(j:Int)) :
  Calls Tryz.prog 181 #[.pointer (some ⟨X.bb,0,none⟩),.pointer (some ⟨sb,so,none⟩)] w (L9 X H nx w s (Y9 X.ks X.k H s)):=by
 have hji:j<X.ins.length:=by rw[hE.inl];exact hj
 obtain⟨gi,g,gc,go,d1,m1,d2,m2,hgi,hgk,x0,x1,x2,x5,⟨xk0,xk1⟩,xl1,xl2⟩:=hE.callee j hji hj;have HR:=ak (azz X.ks X.k H s j gi g hj ha hgi hgk)
 have HKN:Hid (xg X.k.ay X.known s=X.known.getD gi 0):=by
  refine ak ?_;unfold xg;rw[ha,Ed,show X.k.ay.getD j 0=(gi:Int) by rw[yw,jy hj,Kw,hgi],Ed]
 have Xf:Hid (X.ins.getD s.at_.toNat (0,0)=X.ins[j]):=by
  refine ak ?_;rw[ha,Ed,yw,jy hji,Kw]
 obtain⟨ib,io,inn,ic,hiv,hib,hin,i0,i1⟩:=awf hE.ay j hji;have hC:=hS.cells hE;have hB:=hA.stays rfl (hS.X3 hE);have b0:=hC.b0;have p2:=hC.p2;have s2:=hB.c2;rw[hiv,hin,hE.inl] at p2;rw[ha] at s2;have i0:=(hS.old.cell (p:=⟨ib,io+j*2,none⟩) hib).trans i0;have i1:=(hS.old.cell (p:=⟨ib,io+j*2+1,none⟩) hib).trans i1;have hil:=hE.ay.Ob;rw[hE.inl] at hil;generalize hq:X.ins[j].1=q at *;generalize hbg:X.ins[j].2=bg at *;generalize hkn:X.known.getD gi 0=kn at *;have HQB:Hid (X.ins[j]=(q,bg)):=by rw[←hq,←hbg];exact rfl
 have oz:=hS.old.size;have lb:=Jh w _ b0;have lp:=Jh w _ p2;have ls:=Jh w _ s2;have li:=Jh w _ i0;simp only at lb lp ls li;have e1:decide ((j:Int)<0)=false:=iy (by omega);have e2:decide ((X.k.ay.length:Int)<=(j:Int))=false:=iy (by omega);have e2n:decide (X.k.ay.length<=j)=false:=iy (by omega);have hjI:(j:Int)<(X.k.ay.length:Int):=by omega
 obtain⟨oa,oc,hov,hox⟩:=awg (hA.stays rfl hE.old).au;obtain⟨aa,ac,hav⟩:=hA.args.shape;have l1:=hA.au.Ob;have l2:=hA.args.Ob;subst hov hav;generalize bc8:g.ins.length=gil at *;generalize bc9:g.au.length=gol at *
 have J9:Hid (∀w',But [X.gb] w w'->Below X.W0.heap.size X.W0 w'/\w'.cell? ⟨X.bb,0,none⟩=some (.pointer (some ⟨X.pb,0,none⟩))/\w'.cell? ⟨sb,so+3,none⟩=some (.slice oa s.au.length oc)/\w'.cell? ⟨sb,so+5,none⟩=some (.slice aa s.args.length ac)/\w'.cell? ⟨q,0,none⟩=some (.pointer (some ⟨gc,go,none⟩))/\w'.cell? ⟨gc,go+1,none⟩=some (.slice d1 gil m1)/\w'.cell? ⟨gc,go+2,none⟩=some (.slice d2 gol m2)/\w'.cell? ⟨q,5,none⟩=some (.int .i64 kn)/\w'.cell? ⟨X.bb,1,none⟩=some (.int .i64 nx)/\w'.cell? ⟨X.bb,3,none⟩=some (.slice (some ⟨X.gb,0,none⟩) (varsOf X.k).length (varsOf X.k).length)):=fun w' hb=>by
  have hold:Below X.W0.heap.size X.W0 w':=hS.old.trans (hb.below _ hS.old.size (fun k hk=>by rw[yt] at hk;subst hk;exact hE.ng.1));have hbb:∀i,w'.cell? ⟨X.bb,i,none⟩=w.cell? ⟨X.bb,i,none⟩:=fun i=>hb.cell (p:=⟨X.bb,i,none⟩) hS.bl.lt (by simpa using hE.bg)
  exact⟨hold,(hbb 0).trans hC.b0,(hold.cell (p:=⟨sb,_,none⟩) (hA.stays rfl hE.old).lt).trans (hA.stays rfl hE.old).c3,(hold.cell (p:=⟨sb,_,none⟩) (hA.stays rfl hE.old).lt).trans (hA.stays rfl hE.old).c5,(hold.cell (p:=⟨q,0,none⟩) (Jh X.W0 _ x0)).trans x0,(hold.cell (p:=⟨gc,go+1,none⟩) (Jh X.W0 _ x1)).trans x1,(hold.cell (p:=⟨gc,go+2,none⟩) (Jh X.W0 _ x2)).trans x2,(hold.cell (p:=⟨q,5,none⟩) (Jh X.W0 _ x5)).trans x5,(hbb 1).trans hC.b1,(hbb 3).trans hC.b3⟩
 have Ac:Hid (∀w1,Below w.heap.size w w1->BS X w1 H nx):=fun w1 hb=>hS.stays hb
 have Ue:Hid (∀w1,Below w.heap.size w w1->GS X w1 nx):=fun w1 hb=>hG.stays hb
 have U3:Hid (∀w',But [X.gb] w w'->∀gv:List Int,gv.length=(varsOf X.k).length->(∀x,x∈gv->0<=x/\x<=nx)->jd w' X.gb 3 (gv.map (Value.int .i64)).toArray->BS X w' H nx):=fun w' hb gv g1 g2 g3=>hS.but hE hb g1 g2 g3
 have HAR:=ak (fun w' hb=>a4h X hE s.args _ (hA.stays rfl hE.old).args w' hb);have HTG:=ak (fun x hx w' hb=>al0 X hE H nx w' hb x hx)
 have HOX:Hid (∀i (hi:i<s.au.length),∃b o,oa=some ⟨b,o,none⟩/\Len s.au[i].size/\∀w',Below X.W0.heap.size X.W0 w'->w'.cell? ⟨b,o+i,none⟩=some (.string s.au[i])):=fun i hi=>by
  obtain⟨b,o,h1,h2,h3,h4⟩:=hox i hi;exact⟨b,o,h1,h3,fun w' hb=>(hb.cell (p:=⟨b,_,none⟩) h2).trans h4⟩
 have hlo:=hS.lo;have hvl:=hE.vl;have hnx:nx<=30000:=ku hS.nxl hE.bl;have HNG:=ak hE.ng;have a8o:Hid (X.gb<w.heap.size):=by obtain⟨gv,_,_,h⟩:=hG;exact h.lt
 have HK:=ak hk;have HAV:=ak hA.args;clear hox hC hB hS hE hG hA x0 x1 x2 x5 hgi hgk hq hbg hkn hiv hin bc8 bc9 hib hk;go_enter Tryz.func181,Tryz.ntmps181;go_wp2_with fail;go_quiet ((fail));go_wp2_with fail;have hwq:Below w.heap.size w (w.drewN nq):=vk w nq;have hwz:(w.drewN nq).heap.size=w.heap.size:=rfl;generalize w.drewN nq=wq at *;have hzb:Below wq.heap.size wq (wq.alloc (.cells #[.pointer none,.int .i64 0] 176)):=(iq _ _).alloc (gu _) _;have b0:=(hwq.cell (p:=⟨X.bb,0,none⟩) lb).trans b0;have p2:=(hwq.cell (p:=⟨X.pb,2,none⟩) lp).trans p2;have s2:=(hwq.cell (p:=⟨sb,so+2,none⟩) ls).trans s2;have i0:=(hwq.cell (p:=⟨ib,io+j*2,none⟩) li).trans i0;have i1:=(hwq.cell (p:=⟨ib,io+j*2+1,none⟩) li).trans i1;have z1:=(hzb.cell (p:=⟨X.bb,0,none⟩) (show X.bb<wq.heap.size by omega)).trans b0;have z2:=(hzb.cell (p:=⟨X.pb,2,none⟩) (show X.pb<wq.heap.size by omega)).trans p2;have z3:=(hzb.cell (p:=⟨sb,so+2,none⟩) (show sb<wq.heap.size by omega)).trans s2;have z4:=(hzb.cell (p:=⟨ib,io+j*2,none⟩) (show ib<wq.heap.size by omega)).trans i0;have z5:=(hzb.cell (p:=⟨ib,io+j*2+1,none⟩) (show ib<wq.heap.size by omega)).trans i1;have y1:wq.heap.size≠X.bb:=by omega
 have y2:wq.heap.size≠X.pb:=by omega
 have y3:wq.heap.size≠sb:=by omega
 have y4:wq.heap.size≠ib:=by omega
 have Gf:=ak hwq;have HWZ:=ak hwz;clear hzb hwq hwz lb lp ls li oz;go_region;clear z1 z2 z3 z4 z5 y1 y2 y3 y4;have hbG:Below wq.heap.size wq (wq.alloc (.cells #[.pointer (some ⟨q,0,none⟩),.int .i64 bg] 176)).drew:=((iq _ wq).alloc (gu _) (.cells #[.pointer (some ⟨q,0,none⟩),.int .i64 bg] 176)).drew;have hGb:jd (wq.alloc (.cells #[.pointer (some ⟨q,0,none⟩),.int .i64 bg] 176)).drew wq.heap.size 176 #[.pointer (some ⟨q,0,none⟩),.int .i64 bg]:=oh wq _ _;have hzG:(wq.alloc (.cells #[.pointer (some ⟨q,0,none⟩),.int .i64 bg] 176)).drew.heap.size=wq.heap.size+1:=by show (wq.heap.push _).size=_;rw[Array.size_push]
 generalize (wq.alloc (.cells #[.pointer (some ⟨q,0,none⟩),.int .i64 bg] 176)).drew=wG at *;have hbw:Below w.heap.size w wG:=(uh Gf).trans (hbG.mono (by rw[uh HWZ];exact gu _));generalize wq.heap.size=gB at *;obtain⟨f0,f1,f2,f3,f4,f5,f6,f7,f8,f9⟩:=uh J9 wG (But.of_below hbw);have g0:=hGb.cell (i:=0) (v:=.pointer (some ⟨q,0,none⟩)) rfl;have Bc:=ak hbw;have HGB:=ak hGb;have HZG:=ak hzG;have HF0:=ak f0;clear hbG hbw hGb hzG f0 b0 p2 s2 i0 i1 Gf;have HSW:=ak (uh Ac wG (uh Bc));generalize Y9 X.ks X.k H s=R at *
 by_cases ho:s.au.length=gol
 case neg =>
  have c1':((s.au.length:Int) != (gol:Int))=true:=by rw[bne_iff_ne];omega
  have HF:Hid (R=false):=(uh HR).trans (by simp[ho]);clear HR ho;go_wp2_with fail;go_quiet ((fail));go_wp2;go_ret;rw[uh HF];exact L9.no (below_drewN (uh Bc) _) ((uh Ac) _ (below_drewN (uh Bc) _))
 have c1':((s.au.length:Int) != (gol:Int))=false:=by rw[Ji];omega
 by_cases hag:s.args.length=gil
 case neg =>
  have c2':((s.args.length:Int) != (gil:Int))=true:=by rw[bne_iff_ne];omega
  have HF:Hid (R=false):=(uh HR).trans (by simp[hag]);clear HR ho hag;go_wp2_with fail;go_quiet ((fail));go_wp2;go_ret;rw[uh HF];exact L9.no (below_drewN (uh Bc) _) ((uh Ac) _ (below_drewN (uh Bc) _))
 have c2':((s.args.length:Int) != (gil:Int))=false:=by rw[Ji];omega
 have HR2:Hid (R=(s.args.all (U7 X.k)&&(List.range s.au.length).all (aa8 X.k H s.au))):=(uh HR).trans (by rw[jf ⟨ho,hag⟩,Ak]);clear HR hag;have HON:=ak ho
 have HAC:Hid (Calls Tryz.prog 187 #[.slice aa s.args.length ac,.func (.func 186) #[.pointer (some ⟨X.pb,0,none⟩)] #[]] wG.drew fun e w'=>e=.returned (.bool (s.args.all (U7 X.k)))/\Hid (Below w.heap.size w w'/\Below wG.heap.size wG w')/\w'.cell? ⟨X.bb,0,none⟩=some (.pointer (some ⟨X.pb,0,none⟩))/\w'.cell? ⟨sb,so+3,none⟩=some (.slice oa s.au.length oc)/\w'.cell? ⟨sb,so+5,none⟩=some (.slice aa s.args.length ac)/\w'.cell? ⟨gB,0,none⟩=some (.pointer (some ⟨q,0,none⟩))/\w'.cell? ⟨q,0,none⟩=some (.pointer (some ⟨gc,go,none⟩))/\w'.cell? ⟨gc,go+1,none⟩=some (.slice d1 gil m1)/\w'.cell? ⟨gc,go+2,none⟩=some (.slice d2 gol m2)):=by
  have hd:Below w.heap.size w wG.drew:=(uh Bc).drew;obtain⟨r0,_⟩:=uh J9 wG.drew (But.of_below hd);refine(uh HAR wG.drew r0).mono ?_;rintro e w' ⟨rfl,hb'⟩;have hb2:Below wG.heap.size wG w':=((iq _ wG).drew).trans hb';have hb3:Below w.heap.size w w':=(uh Bc).trans (hb2.mono (uh Bc).size);obtain⟨r0,r1,r2,r3,r4,r5,r6,r7,r8,r9⟩:=uh J9 w' (But.of_below hb3);exact⟨rfl,⟨hb3,hb2⟩,r1,r2,r3,((uh HGB).below hb2 (uh HGB).lt).cell (i:=0) (v:=.pointer (some ⟨q,0,none⟩)) rfl,r4,r5,r6⟩
 clear HAR ho;generalize s.args.all (U7 X.k)=ab at *
 cases ab
 ·have HF:Hid (R=false):=(uh HR2).trans (Aw _)
  clear HR2;go_wp2_with fail
  go_region_held3 (fun w'=>w'.cell? ⟨X.bb,0,none⟩=some (.pointer (some ⟨X.pb,0,none⟩))/\w'.cell? ⟨sb,so+3,none⟩=some (.slice oa s.au.length oc)/\w'.cell? ⟨sb,so+5,none⟩=some (.slice aa s.args.length ac)/\w'.cell? ⟨gB,0,none⟩=some (.pointer (some ⟨q,0,none⟩))/\w'.cell? ⟨q,0,none⟩=some (.pointer (some ⟨gc,go,none⟩))/\w'.cell? ⟨gc,go+1,none⟩=some (.slice d1 gil m1)/\w'.cell? ⟨gc,go+2,none⟩=some (.slice d2 gol m2)) (go_keep) (first|(go_at_call 187;refine(uh HAC).mono ?_;rintro e w2 ⟨rfl,HB2,u0,u1,u2,u3,u4,u5,u6⟩))
  go_wp2;go_ret;rw[uh HF];exact L9.no (uh HB2).1 ((uh Ac) _ (uh HB2).1)
 have HR3:Hid (R=(List.range s.au.length).all (aa8 X.k H s.au)):=(uh HR2).trans (Ak _);clear HR2;go_wp2_with fail
 go_region_held3 (fun w'=>w'.cell? ⟨X.bb,0,none⟩=some (.pointer (some ⟨X.pb,0,none⟩))/\w'.cell? ⟨sb,so+3,none⟩=some (.slice oa s.au.length oc)/\w'.cell? ⟨sb,so+5,none⟩=some (.slice aa s.args.length ac)/\w'.cell? ⟨gB,0,none⟩=some (.pointer (some ⟨q,0,none⟩))/\w'.cell? ⟨q,0,none⟩=some (.pointer (some ⟨gc,go,none⟩))/\w'.cell? ⟨gc,go+1,none⟩=some (.slice d1 gil m1)/\w'.cell? ⟨gc,go+2,none⟩=some (.slice d2 gol m2)) (go_keep) (first|(go_at_call 187;refine(uh HAC).mono ?_;rintro e w2 ⟨rfl,HB2,u0,u1,u2,u3,u4,u5,u6⟩))
 obtain⟨hbw2,atm⟩:=uh HB2;have hon:s.au.length<=1000:=by rw[uh HON];exact xl2
 have hA3:Below w2.heap.size w2 (w2.alloc (.cells (madeCells #[.int .i64 0] s.au.length) 3)):=(iq _ _).alloc (gu _) _;have akl:Hid (But [X.gb] w (w2.alloc (.cells (madeCells #[.int .i64 0] s.au.length) 3))):=But.of_below (hbw2.trans (hA3.mono hbw2.size));obtain⟨_,v1,v2,v3,v4,v5,v6,v7,v8,v9⟩:=uh J9 _ (uh akl);have a8p:Hid (jd (w2.alloc (.cells (madeCells #[.int .i64 0] s.au.length) 3)) gB 176 #[.pointer (some ⟨q,0,none⟩),.int .i64 bg]):=((uh HGB).below atm (uh HGB).lt).below hA3 (qg (uh HGB).lt atm.size);have HRW:Hid (∃cs,aew X.k s.au 0 cs/\jd (w2.alloc (.cells (madeCells #[.int .i64 0] s.au.length) 3)) w2.heap.size 3 cs):=⟨_,⟨by rw[size_madeCells],fun j _ hj=>absurd hj (yu _)⟩,oh w2 _ _⟩
 have HGV:Hid (∃gv,aa7 X.k s.au nx 0 gv/\jd (w2.alloc (.cells (madeCells #[.int .i64 0] s.au.length) 3)) X.gb 3 (gv.map (Value.int .i64)).toArray):=by
  obtain⟨gv,g1,g2,g3⟩:=uh Ue _ (hbw2.trans (hA3.mono hbw2.size));exact⟨gv,aa7.zero g1 g2,g3⟩
 have hgo:X.gb<w2.heap.size:=qg (uh a8o) hbw2.size;have aoc:gB<w2.heap.size:=qg (uh HGB).lt atm.size;have be6:X.lo<=w2.heap.size:=ku hlo hbw2.size;have hwo:w.heap.size<=w2.heap.size:=hbw2.size;have bda:X.gb≠gB:=by have:=uh a8o;have:=uh HWZ;omega
 have hmk:(Instr.makeSlice 47 (.int .i64 (s.au.length:Int)) (.int .i64 (s.au.length:Int))).run Tryz.prog w2=.ok (.slice (some ⟨w2.heap.size,0,none⟩) s.au.length s.au.length) (w2.alloc (.cells (madeCells #[.int .i64 0] s.au.length) 3)):=by
  have h9:=aaq (P:=Tryz.prog) 47 3 (.int .i64 0) 1 8 Tryz.underlying47 (by kernel_rfl) s.au.length (by omega) (by omega) w2;rw[jr] at h9;exact h9
 clear hbw2 atm hA3 HB2 HAC HSW Ue;go_wp2;generalize w2.alloc (.cells (madeCells #[.int .i64 0] s.au.length) 3)=w3 at *;generalize w2.heap.size=oB at *;clear u0 u1 u2 u3 u4 u5 u6 f1 f2 f3 f4 f5 f6 f7 f8 f9 g0 hmk
 go_loopg [100] s.au.length (fun g iv wr=>∃(i:Nat),i<=s.au.length/\g=s.au.length-i/\iv=.int .i64 i/\(∀j,j<i->aa8 X.k H s.au j=true)/\But [X.gb] w wr/\jd wr gB 176 #[.pointer (some ⟨q,0,none⟩),.int .i64 bg]/\(∃cs,aew X.k s.au i cs/\jd wr oB 3 cs)/\∃gv,aa7 X.k s.au nx i gv/\jd wr X.gb 3 (gv.map (Value.int .i64)).toArray)
 case atStart=>exact⟨0,jg _,by omega,rfl,fun j hj=>absurd hj (yu _),uh akl,uh a8p,uh HRW,uh HGV⟩
 case round =>
  clear akl a8p HRW HGV v1 v2 v3 v4 v5 v6 v7 v8 v9;obtain⟨i,hi,hg,rfl,hone,X4,hgB,⟨cs,hrow,hcs⟩,gv,hgv,hgb⟩:=hrel;rename cu=>wr;have HG:=ak hg;have an6:=ak hone;have aif:=ak X4;have atn:=ak hgB;have af4:=ak hrow;have Ti:=ak hcs;have HGV:=ak hgv;have akp:=ak hgb;have ato:=ak (uh U3 wr X4 gv hgv.1 hgv.bound hgb);obtain⟨hold,v1,v2,v3,v4,v5,v6,v7,v8,v9⟩:=uh J9 wr X4;have HOLD:=ak hold;clear hg hone X4 hgB hrow hcs hgv hgb hold
  by_cases hlt:i<s.au.length
  ·obtain⟨xb,xo,rfl,hxl,hxc⟩:=uh HOX i hlt
   have x0:=hxc wr (uh HOLD);have HTC:=ak (uh HTG s.au[i] hxl wr (uh ato))
   have akq:Hid (aa8 X.k H s.au i=(tgB X.k H s.au[i]&&!aie X.k s.au i)):=by
    refine ak ?_;unfold aa8;rw[jy hlt]
   have HPI:Hid (tgB X.k H s.au[i]=true->∃p:Nat,je (varsOf X.k) s.au[i]=(p:Int)/\p<(varsOf X.k).length/\tgI X.k s.au[i]=(p:Int)):=fun h=>by
    have h1:=((ajm _ _ _).1 h).1;unfold setB at h1;have h2:=xw h1;obtain⟨p,hp⟩:=Ht (show 0<=je (varsOf X.k) s.au[i] by omega);have hb:=Xw (varsOf X.k) s.au[i];exact⟨p,hp,by omega,by unfold tgI;rw[gy (by omega),hp]⟩
   have Bo:Hid (aa8 X.k H s.au i=false->R=false):=fun h=>(uh HR3).trans (by rw[List.all_eq_false];exact⟨i,uz.2 hlt,by rw[h];decide⟩)
   have HYE:Hid (aa8 X.k H s.au i=true->∀j,j<i+1->aa8 X.k H s.au j=true):=fun h j hj=>by
    by_cases e:j=i
    ·subst e;exact h
    ·exact uh an6 j (by omega)
   clear hxc;generalize htb:tgB X.k H s.au[i]=tb at *
   cases tb
   ·have HF:Hid (R=false):=uh Bo ((uh akq).trans (Aw _))
    clear Bo HYE HPI akq;go_wp2_with fail;refine(uh HTC).mono ?_;rintro e w5 ⟨rfl,hb5⟩;have Gx:=ak hb5;clear hb5;go_wp2_with fail;go_quiet ((fail));go_wp2;go_ret;rw[uh HF];exact L9.no' ((uh aif).trans (But.of_below (below_drewN (uh Gx) _))) ((uh ato).stays (below_drewN (uh Gx) _))
   obtain⟨p,hp,hpl,hti⟩:=uh HPI rfl;rw[hti] at HTC;have HP:=ak hp;have hgl:gv.length=(varsOf X.k).length:=(uh HGV).1;have hpg:p<gv.length:=by omega
   have HDU:=ak ((uh HGV).dup hlt hp hpg);have HGL:=ak hgl;clear hti HPI hp hgl;generalize aie X.k s.au i=db at *
   cases db
   case true =>
    have HF:Hid (R=false):=uh Bo ((uh akq).trans rfl);clear Bo HYE akq;go_wp2_with fail;refine(uh HTC).mono ?_;rintro e w5 ⟨rfl,hb5⟩;have Gx:=ak hb5;obtain⟨_,t1,t2,t3,t4,t5,t6,t7,t8,t9⟩:=uh J9 w5 ((uh aif).trans (But.of_below hb5));have gc:=akn ((uh akp).below hb5 (uh akp).lt) p hpg;have gd:=uh HDU;clear hb5;generalize gv[p]=gp at *;go_wp2_with fail;go_quiet ((fail));go_wp2;go_ret;rw[uh HF];exact L9.no' ((uh aif).trans (But.of_below (below_drewN (uh Gx) _))) ((uh ato).stays (below_drewN (uh Gx) _))
   have Lr:=ak (uh HYE ((uh akq).trans rfl));clear Bo HYE akq;go_wp2_with fail;refine(uh HTC).mono ?_;rintro e w5 ⟨rfl,hb5⟩;have Gx:=ak hb5;obtain⟨_,t1,t2,t3,t4,t5,t6,t7,t8,t9⟩:=uh J9 w5 ((uh aif).trans (But.of_below hb5));have gc:=akn ((uh akp).below hb5 (uh akp).lt) p hpg;have gd:=uh HDU;clear hb5;generalize hgp:gv[p]=gp at *;go_wp2_with fail;go_quiet ((fail));go_wp2_with fail;have hb6:Below wr.heap.size wr (w5.drewN nq):=below_drewN (uh Gx) nq;have h6b:But [X.gb] w (w5.drewN nq):=(uh aif).trans (But.of_below hb6);have H6B:=ak h6b;clear t1 t2 t3 t4 t5 t6 t7 t8 t9 v1 v2 v3 v4 v5 v6 v7 v8 v9 gc gd hgp;obtain⟨_,t1,t2,t3,t4,t5,t6,t7,t8,t9⟩:=uh J9 _ h6b;have G6:=ak ((uh akp).below hb6 (uh akp).lt);have R6:=ak ((uh Ti).below hb6 (uh Ti).lt);have B6:=ak ((uh atn).below hb6 (uh atn).lt);have gc:=akn (uh G6) p hpg;have gz:=(uh G6).free p;have rz:=(uh R6).free i;obtain⟨ru,hru⟩:∃u,cs[i]?=some u:=⟨_,Array.getElem?_eq_getElem (by rw[(uh af4).1];exact hlt)⟩;have rc:=(uh R6).cell hru;generalize w5.drewN nq=w6 at *;have hpI:(p:Int)<((varsOf X.k).length:Int):=by omega
   have Yy:(i:Int)<(s.au.length:Int):=by omega
   have hno:oB≠X.gb:=by omega
   have bdb:X.gb≠oB:=by omega
   clear hb6 h6b hru x0;go_region;have H7B:Hid (But [X.gb] w (w6.setCell ⟨X.gb,p,none⟩ (.int .i64 nx)).drew):=((uh H6B).abd (yt.2 rfl) _).drew
   have G7:Hid (jd (w6.setCell ⟨X.gb,p,none⟩ (.int .i64 nx)).drew X.gb 3 ((gv.set p nx).map (Value.int .i64)).toArray):=by
    have h9:=(uh G6).set p (.int .i64 nx);rw[a8m] at h9;exact h9
   have R7:Hid (jd (w6.setCell ⟨X.gb,p,none⟩ (.int .i64 nx)).drew oB 3 cs):=(uh R6).other hno _;have B7:Hid (jd (w6.setCell ⟨X.gb,p,none⟩ (.int .i64 nx)).drew gB 176 #[.pointer (some ⟨q,0,none⟩),.int .i64 bg]):=(uh B6).other bda.symm _
   have rc7:(w6.setCell ⟨X.gb,p,none⟩ (.int .i64 nx)).drew.cell? ⟨oB,i,none⟩=some ru:=by
    rw[←rc];exact World.cell?_of_block (w:=w6) (zf w6 ⟨X.gb,p,none⟩ (.int .i64 nx) oB hno)
   have rz7:(w6.setCell ⟨X.gb,p,none⟩ (.int .i64 nx)).drew.frozen? ⟨oB,i,none⟩=false:=(uh R7).free i;generalize (w6.setCell ⟨X.gb,p,none⟩ (.int .i64 nx)).drew=w7 at *;clear t1 t2 t3 t4 t5 t6 t7 t8 t9 gc gz rz rc G6 R6 B6;go_wp2
   go_roundg (s.au.length-(i+1))
   case measure=>have:=uh HG;omega
   case rel=>exact⟨i+1,by omega,rfl,by go_num,uh Lr,(uh H7B).a8n hwo _,(uh B7).other (show gB≠oB by omega) _,⟨_,(uh af4).next hlt (uh HP),(uh R7).set i _⟩,_,(uh HGV).next hlt (uh HP) hpl,(uh G7).other bdb _⟩
  ·have e:i=s.au.length:=by omega
   subst e;have HF:Hid (R=true):=(uh HR3).trans (by rw[yc];exact fun j hj=>uh an6 j (uz.1 hj));have k0:=(uh atn).cell (i:=0) (v:=.pointer (some ⟨q,0,none⟩)) rfl;have k1:=(uh atn).cell (i:=1) (v:=.int .i64 bg) rfl;clear v1 v2 v4 v5 v6 v8 v9;go_wp2_with fail;go_region;go_wp2;go_ret;rw[uh HF];have hal:Below wr.heap.size wr (wr.alloc (.cells #[.int .i64 (1+kn),.pointer (some ⟨q,0,none⟩),.int .i64 bg,.slice (some ⟨oB,0,none⟩) s.au.length s.au.length,.slice aa s.args.length ac] 223)).drew:=((iq _ wr).alloc (gu _) _).drew;refine⟨fun _=>⟨(221,wr.heap.size),rfl,⟨(uh aif).size,(oh wr _ _).lt⟩,Or.inr (Or.inr ⟨uh HK,rfl,.slice (some ⟨oB,0,none⟩) s.au.length s.au.length,_,?_,?_,?_,uh HAV⟩)⟩,(fun h=>by cases h),(uh aif).trans (But.of_below hal),(uh ato).stays hal⟩
   ·rw[uh HKN,uh Xf,uh HQB]
    exact oh wr _ _
   ·exact((uh af4).at (uh Ti) hon hvl).stays E8 hal
   ·intro b hb
    simp only[Value.ownBlock,uw] at hb;subst hb;exact⟨hwo,qg (uh Ti).lt hal.size⟩
theorem a4b (X:BD) (hE:BE X) (H:List dh) (nx:Nat) (w:cu) (hS:BS X w H nx) (hG:GS X w nx) (s:lu) (sb so:Nat) (ov cv av:Value) (hA:SA X.Wm sb so s ov cv av) (hk:s.kind=3):Calls Tryz.prog 181 #[.pointer (some ⟨X.bb,0,none⟩),.pointer (some ⟨sb,so,none⟩)] w (L9 X H nx w s (Y9 X.ks X.k H s)):=by
 by_cases hb:s.at_<0\/(X.k.ay.length:Int)<=s.at_
 ·exact az0 X hE H nx w hS hG s sb so ov cv av hA hk hb
 ·obtain⟨j,hj⟩:=Ht (show 0<=s.at_ by omega)
  exact a4i X hE H nx w hS hG s sb so ov cv av hA hk j (by omega) hj
end Go.Proofs.YtfeejeflmcapoaaGreatDoor
