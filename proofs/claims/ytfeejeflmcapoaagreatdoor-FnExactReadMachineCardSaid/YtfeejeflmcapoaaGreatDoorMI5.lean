import Derived.Test.YtfeejeflmcapoaaGreatDoorMQ2
import Derived.Deep.RegionHeld3
import Derived.Deep.RegionWith
set_option linter.unusedSimpArgs false
set_option linter.unusedVariables false
set_option maxHeartbeats 2000000
set_option maxRecDepth 20000
namespace Go.Proofs.YtfeejeflmcapoaaGreatDoor
open Go.RowKit
def qIt (k:dw) (xs:List l9) (j:Nat):Bool:=match xs[j]? with|some t=>Z7 k t|none=>false
theorem afx {α:Type} (p:α->Bool) (q:Nat->Bool) (xs:List α) (h:∀j (hj:j<xs.length),q j=p xs[j]):(List.range xs.length).all q=xs.all p:=by
 rw[Oa,yc,yc];constructor
 ·intro g x hx
  obtain⟨j,hj,rfl⟩:=List.getElem_of_mem hx;rw[←h j hj];exact g j (uz.2 hj)
 ·intro g j hj
  rw[h j (uz.1 hj)];exact g _ (o7 _)
theorem ac5 (k:dw) (xs:List l9) (v:Value) (pb mb cb co:Nat) (w:cu) (h:PR w pb mb cb co k) (hv:jc 3 32 Gg 0 w v xs) :
  Calls Tryz.prog 186 #[.pointer (some ⟨pb,0,none⟩),v] w (Ans (.bool (U7 k xs)) w):=by
 obtain⟨b0,c0,rfl⟩:=hv.shape;have hlen:=hv.Ob;have HQ:Hid ((List.range xs.length).all (qIt k xs)=xs.all (Z7 k)):=afx _ _ _ (fun j hj=>by unfold qIt;rw[jy hj])
 have HE:Hid (Calls Tryz.prog 189 #[.slice b0 xs.length c0,.func (.func 190) #[.pointer (some ⟨pb,0,none⟩)] #[]] w fun e w'=>e=.returned (.bool (xs.all (Z7 k)))/\Below w.heap.size w w'):=by
  refine(ar8 pb (fun _ wr=>Below w.heap.size w wr) (fun wr=>Below w.heap.size w wr) (qIt k xs) xs _ w ?_ ?_ ?_ (iq _ _)).mono ?_
  ·intro _ wr hb
   exact hv.stays Ad hb
  ·intro _ w1 w2 h1 h2
   exact h1.trans (h2.mono h1.size)
  ·intro j hj cs wr hb hR
   obtain⟨rfl,hs,_,_⟩:=hR;refine(ap9 k xs[j] pb mb cb co wr (h.stays hb) hs).mono ?_;rintro e w' ⟨rfl,hb'⟩;have e1:qIt k xs j=Z7 k xs[j]:=by unfold qIt;rw[jy hj]
   rw[e1];have hb2:=hb.trans (hb'.mono hb.size);exact⟨rfl,(fun _=>hb2),fun _=>hb2⟩
  ·rintro e w' ⟨rfl,h1,h2⟩
   rw[uh HQ] at h1 h2 ⊢;refine⟨rfl,?_⟩
   cases hh:xs.all (Z7 k)
   ·exact h2 hh
   ·exact h1 hh
 have HV:=ak hv;have HC:Hid (U7 k xs=(decide (xs.length<=6000)&&xs.all (Z7 k)&&wk xs 0)):=rfl;clear hv h HQ;have HWK:Hid (∀w1,Below w.heap.size w w1->Calls Tryz.prog 191 #[.slice b0 xs.length c0] w1 (Ans (.bool (wk xs 0)) w1)):=fun w1 hb=>ap0 xs _ w1 ((uh HV).stays Ad hb)
 clear HV;generalize U7 k xs=R at *;generalize xs.all (Z7 k)=ab at *;generalize wk xs 0=kb at *
 by_cases h1:xs.length<=6000
 case neg =>
  have e1:decide ((xs.length:Int)<=6000)=false:=iy (by omega);have HF:Hid (R=false):=(uh HC).trans (by rw[iy h1];rfl);clear HC h1;go_enter Tryz.func186,Tryz.ntmps186;go_wp2;go_ret;exact⟨Nq (uh HF).symm,iq _ _⟩
 have e1:decide ((xs.length:Int)<=6000)=true:=jf (by omega);have HC2:Hid (R=(ab&&kb)):=(uh HC).trans (by rw[jf h1,Ak]);clear HC
 cases ab
 ·have HF:Hid (R=false):=(uh HC2).trans (Aw _)
  clear HC2;go_enter Tryz.func186,Tryz.ntmps186;go_wp2_with fail;refine(uh HE).mono ?_;rintro e w1 ⟨rfl,hb1⟩;have HB1:=ak hb1;clear hb1;go_wp2;go_ret;exact⟨Nq (uh HF).symm,uh HB1⟩
 ·have HF:Hid (R=kb):=(uh HC2).trans (Ak _)
  clear HC2;go_enter Tryz.func186,Tryz.ntmps186;go_wp2_with fail;refine(uh HE).mono ?_;rintro e w1 ⟨rfl,hb1⟩;have HB1:=ak hb1;clear hb1;go_wp2_with fail;refine(uh HWK w1 (uh HB1)).mono ?_;rintro e w2 ⟨rfl,hb2⟩;have HB2:=ak ((uh HB1).trans (hb2.mono (uh HB1).size));clear hb2;go_wp2;go_ret;exact⟨Nq (uh HF).symm,uh HB2⟩
def am2 (_:Nat) (_:cu) (cs:List Value) (x:Nat×Nat):Prop:=cs=[.pointer (some ⟨x.1,0,none⟩),.int .i64 x.2]
structure BD where
 W0:cu
 ks:List dw
 k:dw
 pb:Nat
 mb:Nat
 cb:Nat
 co:Nat
 a1:Value
 a2:Value
 a3:Value
 a4:Value
 a5:Value
 a6:Value
 iv:Value
 ins:List (Nat×Nat)
 known:List Int
 bb:Nat
 hb:Nat
 gb:Nat
 lo:Nat
 Wm:cu
structure BE (X:BD):Prop where
 cls:CA X.Wm X.cb X.co X.k X.a1 X.a2 X.a3 X.a4 X.a5 X.a6
 p0:X.W0.cell? ⟨X.pb,0,none⟩=some (.pointer (some ⟨X.cb,X.co,none⟩))
 p1:X.W0.cell? ⟨X.pb,1,none⟩=some (.map (some X.mb))
 p2:X.W0.cell? ⟨X.pb,2,none⟩=some X.iv
 map:Iu X.W0 X.mb (varsOf X.k).length (Ce (varsOf X.k))
 inl:X.ins.length=X.k.ay.length
 ay:jc 2 16 am2 0 X.W0 X.iv X.ins
 callee:∀j (h:j<X.ins.length) (h':j<X.k.ay.length),∃gi g cb co b1 n1 b2 n2,X.k.ay[j]=((gi:Nat):Int)/\X.ks[gi]?=some g/\X.W0.cell? ⟨X.ins[j].1,0,none⟩=some (.pointer (some ⟨cb,co,none⟩))/\X.W0.cell? ⟨cb,co+1,none⟩=some (.slice b1 g.ins.length n1)/\X.W0.cell? ⟨cb,co+2,none⟩=some (.slice b2 g.au.length n2)/\X.W0.cell? ⟨X.ins[j].1,5,none⟩=some (.int .i64 (X.known.getD gi 0))/\(0<=X.known.getD gi 0/\X.known.getD gi 0<=400000)/\g.ins.length<=1000/\g.au.length<=1000
 vl:(varsOf X.k).length<=1000
 bl:X.k.body.length<=30000
 nb:X.W0.heap.size<=X.bb/\X.bb<X.lo
 nh:X.W0.heap.size<=X.hb/\X.hb<X.lo
 ng:X.W0.heap.size<=X.gb/\X.gb<X.lo
 bh:X.bb≠X.hb
 bg:X.bb≠X.gb
 hg:X.hb≠X.gb
 old:Below X.Wm.heap.size X.Wm X.W0
theorem BE.aev {X:BD} (hE:BE X):CA X.W0 X.cb X.co X.k X.a1 X.a2 X.a3 X.a4 X.a5 X.a6:=hE.cls.stays hE.old
def aan (k:dw) (H:List dh):Array Value:=((List.range (varsOf k).length).map (fun q=>Value.int .i64 (cnt k H q))).toArray
def anz (X:BD) (nx:Nat):Array Value:=#[.pointer (some ⟨X.pb,0,none⟩),.int .i64 nx,.slice (some ⟨X.hb,0,none⟩) (varsOf X.k).length (varsOf X.k).length,.slice (some ⟨X.gb,0,none⟩) (varsOf X.k).length (varsOf X.k).length]
structure BS (X:BD) (w:cu) (H:List dh) (nx:Nat):Prop where
 old:Below X.W0.heap.size X.W0 w
 lo:X.lo<=w.heap.size
 nxl:nx<=X.k.body.length
 bl:jd w X.bb 179 (anz X nx)
 hl:jd w X.hb 3 (aan X.k H)
 gl:∃gv:List Int,gv.length=(varsOf X.k).length/\(∀x,x∈gv->0<=x/\x<=nx)/\jd w X.gb 3 (gv.map (Value.int .i64)).toArray
theorem BS.stays {X:BD} {w w':cu} {H:List dh} {nx:Nat} (h:BS X w H nx) (hb:Below w.heap.size w w'):BS X w' H nx:=by
 obtain⟨gv,g1,g2,g3⟩:=h.gl;exact⟨h.old.trans (hb.mono h.old.size),ku h.lo hb.size,h.nxl,h.bl.below hb h.bl.lt,h.hl.below hb h.hl.lt,gv,g1,g2,g3.below hb g3.lt⟩
theorem BS.X3 {X:BD} {w:cu} {H:List dh} {nx:Nat} (h:BS X w H nx) (hE:BE X):Below X.Wm.heap.size X.Wm w:=hE.old.trans (h.old.mono hE.old.size)
theorem BE.pr {X:BD} (hE:BE X):PR X.W0 X.pb X.mb X.cb X.co X.k:=by
 obtain⟨b,c,hh⟩:=hE.aev.gq.shape;exact⟨hE.p0,hE.p1,⟨b,c,by rw[hE.aev.c4,hh]⟩,hE.aev.gq.Ob,hE.map⟩
structure BC (X:BD) (w:cu) (nx:Nat):Prop where
 b0:w.cell? ⟨X.bb,0,none⟩=some (.pointer (some ⟨X.pb,0,none⟩))
 b1:w.cell? ⟨X.bb,1,none⟩=some (.int .i64 nx)
 b2:w.cell? ⟨X.bb,2,none⟩=some (.slice (some ⟨X.hb,0,none⟩) (varsOf X.k).length (varsOf X.k).length)
 b3:w.cell? ⟨X.bb,3,none⟩=some (.slice (some ⟨X.gb,0,none⟩) (varsOf X.k).length (varsOf X.k).length)
 p0:w.cell? ⟨X.pb,0,none⟩=some (.pointer (some ⟨X.cb,X.co,none⟩))
 p1:w.cell? ⟨X.pb,1,none⟩=some (.map (some X.mb))
 p2:w.cell? ⟨X.pb,2,none⟩=some X.iv
 c1:w.cell? ⟨X.cb,X.co+1,none⟩=some X.a1
 c4:w.cell? ⟨X.cb,X.co+4,none⟩=some X.a4
 c6:w.cell? ⟨X.cb,X.co+6,none⟩=some X.a6
theorem BS.cells {X:BD} (hE:BE X) {w:cu} {H:List dh} {nx:Nat} (h:BS X w H nx):BC X w nx :=
 have hp:=Jh X.W0 _ hE.p0
 ⟨h.bl.cell (i:=0) rfl,h.bl.cell (i:=1) rfl,h.bl.cell (i:=2) rfl,h.bl.cell (i:=3) rfl,(h.old.cell (p:=⟨X.pb,0,none⟩) hp).trans hE.p0,(h.old.cell (p:=⟨X.pb,1,none⟩) hp).trans hE.p1,(h.old.cell (p:=⟨X.pb,2,none⟩) hp).trans hE.p2,(h.old.cell (p:=⟨X.cb,X.co+1,none⟩) hE.aev.lt).trans hE.aev.c1,(h.old.cell (p:=⟨X.cb,X.co+4,none⟩) hE.aev.lt).trans hE.aev.c4,(h.old.cell (p:=⟨X.cb,X.co+6,none⟩) hE.aev.lt).trans hE.aev.c6⟩
theorem BS.held {X:BD} {w:cu} {H:List dh} {nx:Nat} (h:BS X w H nx) (q:Nat) (hq:q<(varsOf X.k).length):w.cell? ⟨X.hb,q,none⟩=some (.int .i64 (cnt X.k H q)) :=
 h.hl.cell (i:=q) (v:=.int .i64 (cnt X.k H q)) (by unfold aan;simp[hq])
def tgI (k:dw) (x:dh):Int:=if 0<=je (varsOf k) x then je (varsOf k) x else 0
theorem ajl {a b:Int} {p q:Bool} (h:a=b) (g:p=q):Ending.returned (.tuple #[.int .i64 a,.bool p])=.returned (.tuple #[.int .i64 b,.bool q]):=by rw[h,g]
theorem al0 (X:BD) (hE:BE X) (H:List dh) (nx:Nat) (w:cu) (hS:BS X w H nx) (x:dh) (hx:Len x.size) :
  Calls Tryz.prog 185 #[.pointer (some ⟨X.bb,0,none⟩),.string x] w fun e w'=>e=.returned (.tuple #[.int .i64 (tgI X.k x),.bool (tgB X.k H x)])/\Below w.heap.size w w':=by
 have hx':x.size<=maxLen:=by unfold Len at hx;unfold maxLen;omega
 have hC:=hS.cells hE;obtain⟨b0,b1,b2,b3,p0,p1,p2,c1,c4,c6⟩:=hC;clear b1 b3 p2 c4 c6;obtain⟨i1,n1,h1⟩:=hE.cls.ins.shape;rw[h1] at c1;have hil:=hE.cls.ins.Ob;have hvl:=hE.vl;have hM:Iu w X.mb (varsOf X.k).length (Ce (varsOf X.k)):=hE.map.below hS.old hE.map.lt;have HHD:=ak (fun q hq=>hS.held q hq);clear hE hS h1;have hbd:=Xw (varsOf X.k) x
 by_cases hp:0<=je (varsOf X.k) x
 case neg =>
  have hlk:=hM.miss Tryz.underlying9 Tryz.underlying33 (Yb w) hx' (ac0 _ _ (by omega));have HT:Hid (tgI X.k x=0):=bf hp
  have HB:Hid (tgB X.k H x=false):=by
   refine ak ?_;unfold tgB setB;rw[iy (by omega),Aw]
  generalize tgI X.k x=ti at *;generalize tgB X.k H x=tb at *;clear hM hp hbd HHD;go_enter Tryz.func185,Tryz.ntmps185;go_wp2_with fail;go_quiet ((fail));go_wp2
  go_ret2
  exact⟨ajl (uh HT).symm (uh HB).symm,vk _ _⟩
 have hlk:=hM.hit Tryz.underlying9 Tryz.underlying33 (Yb w) hx' (aeh _ _ hp);have HT:Hid (tgI X.k x=je (varsOf X.k) x):=gy hp;have HB:Hid (tgB X.k H x=(decide ((X.k.ins.length:Int)<=je (varsOf X.k) x)&&decide (cnt X.k H (je (varsOf X.k) x).toNat=0))):=rfl;generalize tgI X.k x=ti at *;generalize tgB X.k H x=tb at *;obtain⟨q,hq⟩:=Ht hp;rw[hq] at HT HB hlk hbd;clear hq hp hM;have hqn:q<(varsOf X.k).length:=by omega
 have h0:=uh HHD q hqn;rw[Ed] at HB;generalize cnt X.k H q=cq at *;generalize (varsOf X.k).length=vn at *;clear HHD
 by_cases h2:X.k.ins.length<=q
 case neg =>
  have e2:decide ((X.k.ins.length:Int)<=(q:Int))=false:=iy (by omega);have e2n:decide (X.k.ins.length<=q)=false:=iy h2;have HF:Hid (tb=false):=(uh HB).trans (by rw[e2];rfl);clear HB h2;go_enter Tryz.func185,Tryz.ntmps185;go_wp2_with fail;go_quiet ((fail));go_wp2
  go_ret2
  exact⟨ajl (uh HT).symm (uh HF).symm,vk _ _⟩
 have e2:decide ((X.k.ins.length:Int)<=(q:Int))=true:=jf (by omega);have e2n:decide (X.k.ins.length<=q)=true:=jf h2;have HB2:Hid (tb=decide (cq=0)):=(uh HB).trans (by rw[e2];rfl);clear HB h2
 by_cases h3:cq=0
 ·have e3:((cq:Int)==0)=true:=by rw[Ey];omega
  have HF:Hid (tb=true):=(uh HB2).trans (jf h3);clear HB2 h3;go_enter Tryz.func185,Tryz.ntmps185;go_wp2_with fail;go_quiet ((fail));go_wp2
  go_ret2
  exact⟨ajl (uh HT).symm (uh HF).symm,vk _ _⟩
 ·have e3:((cq:Int)==0)=false:=by rw[su];omega
  have HF:Hid (tb=false):=(uh HB2).trans (iy h3);clear HB2 h3;go_enter Tryz.func185,Tryz.ntmps185;go_wp2_with fail;go_quiet ((fail));go_wp2
  go_ret2
  exact⟨ajl (uh HT).symm (uh HF).symm,vk _ _⟩
structure SA (w:cu) (sb so:Nat) (s:lu) (ov cv av:Value):Prop where
 lt:sb<w.heap.size
 c0:w.cell? ⟨sb,so,none⟩=some (.int .i64 s.kind)
 c1:w.cell? ⟨sb,so+1,none⟩=some (.string s.name)
 c2:w.cell? ⟨sb,so+2,none⟩=some (.int .i64 s.at_)
 c3:w.cell? ⟨sb,so+3,none⟩=some ov
 c4:w.cell? ⟨sb,so+4,none⟩=some cv
 c5:w.cell? ⟨sb,so+5,none⟩=some av
 name:Len s.name.size
 kd:I64 s.kind
 at_:I64 s.at_
 au:jc 1 16 xk 0 w ov s.au
 code:jc 3 32 Gg 0 w cv s.code
 args:jc 1 24 Ih 0 w av s.args
theorem SA.stays {w w':cu} {sb so:Nat} {s:lu} {ov cv av:Value} (h:SA w sb so s ov cv av) {B:Nat} (hB:B=w.heap.size) (hb:Below B w w'):SA w' sb so s ov cv av:=by
 subst hB;have hc:∀j,w'.cell? ⟨sb,j,none⟩=w.cell? ⟨sb,j,none⟩:=fun j=>hb.cell (p:=⟨sb,j,none⟩) h.lt
 exact⟨qg h.lt hb.size,(hc _).trans h.c0,(hc _).trans h.c1,(hc _).trans h.c2,(hc _).trans h.c3,(hc _).trans h.c4,(hc _).trans h.c5,h.name,h.kd,h.at_,h.au.stays zk hb,h.code.stays Ad hb,h.args.stays I8 hb⟩
theorem aq2 {w:cu} {v:Value} {xs:List lu} (h:jc 6 104 Zq 0 w v xs) (i:Nat) (hi:i<xs.length):∃b o ov cv av,(∃n c,v=.slice (some ⟨b,o,none⟩) n c)/\SA w b (o+i*6) xs[i] ov cv av:=by
 obtain⟨a,cap,rfl,_,_,hx⟩:=h;obtain⟨b,o,cs,rfl,_,hb,hl,hc,⟨ov,cv,av,rfl,h1,h2,h3,h4,h5,h6⟩⟩:=hx i hi;exact⟨b,o,ov,cv,av,⟨_,_,rfl⟩,hb,hc 0 (by simp),hc 1 (by simp),hc 2 (by simp),hc 3 (by simp),hc 4 (by simp),hc 5 (by simp),h1,h2,h3,h4,h5,h6⟩
theorem adr (s:lu) (sb so:Nat) (ov cv av:Value) (w:cu) (h:SA w sb so s ov cv av):Calls Tryz.prog 178 #[.pointer (some ⟨sb,so,none⟩)] w (Ans (.bool (Dl s)) w):=by
 obtain⟨o1,p1,rfl⟩:=h.au.shape;obtain⟨o2,p2,rfl⟩:=h.code.shape;obtain⟨o3,p3,rfl⟩:=h.args.shape;have l1:=h.au.Ob;have l3:=h.args.Ob;obtain⟨_,c0,c1,c2,c3,c4,c5,_⟩:=h;obtain⟨kd,nm,jl,au,code,args⟩:=s;simp only at *
 by_cases k1:kd=1
 ·subst k1;exact amu nm jl au code args o1 o2 o3 _ _ _ p1 p2 p3 rfl rfl rfl l1 l3 sb so w c0 c1 c2 c3 c4 c5
 by_cases k2:kd=2
 ·subst k2;exact amv nm jl au code args o1 o2 o3 _ _ _ p1 p2 p3 rfl rfl rfl l1 l3 sb so w c0 c1 c2 c3 c4 c5
 by_cases k3:kd=3
 ·subst k3;exact amw nm jl au code args o1 o2 o3 _ _ _ p1 p2 p3 rfl rfl rfl l1 l3 sb so w c0 c1 c2 c3 c4 c5
 by_cases k4:kd=4
 ·subst k4;exact amx nm jl au code args o1 o2 o3 _ _ _ p1 p2 p3 rfl rfl rfl l1 l3 sb so w c0 c1 c2 c3 c4 c5
 exact amy kd k1 k2 k3 k4 nm jl au code args o1 o2 o3 _ _ _ p1 p2 p3 rfl rfl rfl l1 l3 sb so w c0 c1 c2 c3 c4 c5
def New (a c:Nat) (b:Nat):Prop:=a<=b/\b<c
def Gi (P:Nat->Prop) (w w':cu):Prop:=w.heap.size<=w'.heap.size/\∀b,P b->b<w.heap.size->w'.heap[b]?=w.heap[b]?
theorem Gi.of_below {P:Nat->Prop} {w w':cu} (h:Below w.heap.size w w'):Gi P w w':=⟨h.size,fun b _ hb=>h.block b hb⟩
theorem But.zo {S:List Nat} {P:Nat->Prop} {w w':cu} (h:But S w w') (hs:∀k,k∈S->¬P k):Gi P w w':=⟨h.size,fun b hp hb=>h.block b hb (fun e=>hs b e hp)⟩
theorem Gi.trans {P:Nat->Prop} {a b c:cu} (h:Gi P a b) (k:Gi P b c):Gi P a c:=⟨ku h.1 k.1,fun i hp hi=>(k.2 i hp (qg hi h.1)).trans (h.2 i hp hi)⟩
theorem jd.zo {P:Nat->Prop} {w w':cu} {g:Nat} {e:TypeId} {cs:Array Value} (h:jd w g e cs) (hk:Gi P w w') (hg:P g):jd w' g e cs:=(hk.2 g hg h.lt).trans h
theorem jc.zo {α:Type} {sz uf:Nat} {R:Nat->cu->List Value->α->Prop} (hR:∀w w' cs x,R 0 w cs x->R 0 w' cs x) {P:Nat->Prop} {w w':cu} {v:Value} {xs:List α} (hk:Gi P w w') (hv:∀b,v.ownBlock=some b->P b) (h:jc sz uf R 0 w v xs):jc sz uf R 0 w' v xs:=by
 obtain⟨a,cap,rfl,hl,hl2,h⟩:=h;refine⟨a,cap,rfl,hl,hl2,fun i hi=>?_⟩;obtain⟨b,o,cs,ha,hlo,hbl,hcs,hc,hr⟩:=h i hi;subst ha;have hp:P b:=hv b rfl;exact⟨b,o,cs,rfl,hlo,qg hbl hk.1,hcs,fun j hj=>by rw[World.cell?_of_block (w:=w) (a:=⟨b,_,none⟩) (hk.2 b hp hbl)];exact hc j hj,hR _ _ _ _ hr⟩
def aas (X:BD) (P:Nat->Prop) (w:cu) (x:TypeId×Nat) (s:lu):Prop :=
 (s.kind=1/\x.1=212/\∃cv,jd w x.2 216 #[.int .i64 1,.int .i64 (je (varsOf X.k) s.name),cv]/\jc 3 32 Gg 0 X.Wm cv s.code) \/
 (s.kind=2/\x.1=217/\∃cv,jd w x.2 219 #[.int .i64 1,.int .i64 s.at_,cv]/\jc 3 32 Gg 0 X.Wm cv s.code) \/
 (s.kind=3/\x.1=221/\∃ov av,jd w x.2 223 #[.int .i64 (1+xg X.k.ay X.known s),.pointer (some ⟨(X.ins.getD s.at_.toNat (0,0)).1,0,none⟩),.int .i64 (X.ins.getD s.at_.toNat (0,0)).2,ov,av]/\jc 1 8 Jv 0 w ov (s.au.map (je (varsOf X.k)))/\(∀b,ov.ownBlock=some b->P b)/\jc 1 24 Ih 0 X.Wm av s.args)
def L9 (X:BD) (H:List dh) (nx:Nat) (w:cu) (s:lu) (ok:Bool) (e:Ending) (w':cu):Prop :=
 (ok=true->∃x:TypeId×Nat,e=.returned (.iface x.1 (.pointer (some ⟨x.2,0,none⟩)))/\New w.heap.size w'.heap.size x.2/\aas X (New w.heap.size w'.heap.size) w' x s)/\(ok=false->e=.returned .nilIface)/\But [X.gb] w w'/\BS X w' H nx
theorem L9.no {X:BD} {H:List dh} {nx:Nat} {w w':cu} {s:lu} (hb:Below w.heap.size w w') (hs:BS X w' H nx):L9 X H nx w s false (.returned .nilIface) w':=⟨(fun h=>by cases h),(fun _=>rfl),But.of_below hb,hs⟩
theorem aas.zo {X:BD} {P:Nat->Prop} {w w':cu} {x:TypeId×Nat} {s:lu} (h:aas X P w x s) (hx:P x.2) (hk:Gi P w w'):aas X P w' x s:=by
 rcases h with ⟨a,b,cv,c,d⟩|⟨a,b,cv,c,d⟩|⟨a,b,ov,av,c,d,f,e⟩
 ·exact Or.inl ⟨a,b,cv,c.zo hk hx,d⟩
 ·exact Or.inr (Or.inl ⟨a,b,cv,c.zo hk hx,d⟩)
 ·exact Or.inr (Or.inr ⟨a,b,ov,av,c.zo hk hx,d.zo (fun _ _ _ _ h=>h) hk f,f,e⟩)
theorem aas.mono {X:BD} {P Q:Nat->Prop} {w:cu} {x:TypeId×Nat} {s:lu} (h:aas X P w x s) (hq:∀b,P b->Q b):aas X Q w x s:=by
 rcases h with ⟨a,b,cv,c,d⟩|⟨a,b,cv,c,d⟩|⟨a,b,ov,av,c,d,f,e⟩
 ·exact Or.inl ⟨a,b,cv,c,d⟩
 ·exact Or.inr (Or.inl ⟨a,b,cv,c,d⟩)
 ·exact Or.inr (Or.inr ⟨a,b,ov,av,c,d,(fun b hb=>hq b (f b hb)),e⟩)
theorem a7m (X:BD) (hE:BE X) (H:List dh) (nx:Nat) (w:cu) (hS:BS X w H nx) (s:lu) (sb so:Nat) (ov cv av:Value) (hA:SA X.Wm sb so s ov cv av) (hk:s.kind=1) :
  Calls Tryz.prog 179 #[.pointer (some ⟨X.bb,0,none⟩),.pointer (some ⟨sb,so,none⟩)] w (L9 X H nx w s (tgB X.k H s.name&&U7 X.k s.code)):=by
 have hAw:=hA.stays rfl (hS.X3 hE);have c1:=hAw.c1;have hT:=al0 X hE H nx w hS s.name hA.name;have HTG:=ak hT
 have Xm:Hid (∀w1,Below w.heap.size w w1->Calls Tryz.prog 186 #[.pointer (some ⟨X.pb,0,none⟩),cv] w1.drew fun e w'=>e=.returned (.bool (U7 X.k s.code))/\Hid (Below w.heap.size w w')/\w'.cell? ⟨X.bb,0,none⟩=some (.pointer (some ⟨X.pb,0,none⟩))/\w'.cell? ⟨sb,so+4,none⟩=some cv):=fun w1 hb=>by
  have hd:Below w.heap.size w w1.drew:=hb.drew;refine(ac5 X.k s.code cv X.pb X.mb X.cb X.co w1.drew (hE.pr.stays (hS.stays hd).old) (hA.code.stays Ad ((hS.stays hd).X3 hE))).mono ?_;rintro e w' ⟨rfl,hb'⟩;have h2:=hd.trans (hb'.mono hd.size);exact⟨rfl,h2,((hS.stays h2).cells hE).b0,(hA.stays rfl ((hS.stays h2).X3 hE)).c4⟩
 have Qb:Hid (∀w1,Below w.heap.size w w1->w1.cell? ⟨sb,so+4,none⟩=some cv/\w1.cell? ⟨X.bb,0,none⟩=some (.pointer (some ⟨X.pb,0,none⟩))):=fun w1 hb=>⟨(hA.stays rfl ((hS.stays hb).X3 hE)).c4,((hS.stays hb).cells hE).b0⟩
 have Ac:Hid (∀w1,Below w.heap.size w w1->BS X w1 H nx):=fun w1 hb=>hS.stays hb
 have HCV:=ak hA.code
 have HTI:Hid (tgB X.k H s.name=true->tgI X.k s.name=je (varsOf X.k) s.name):=fun h=>by
  have h1:=((ajm _ _ _).1 h).1;unfold setB at h1;have:=xw h1;exact gy (by omega)
 have HK:=ak hk;clear hS hA hAw hT hk;obtain⟨o2,p2,rfl⟩:=(uh HCV).shape;obtain⟨q4,q0⟩:=uh Qb w (iq _ _);generalize tgB X.k H s.name=tb at *;generalize U7 X.k s.code=cb at *
 cases tb
 ·rw[Aw]
  go_enter Tryz.func179,Tryz.ntmps179;go_wp2_with fail;refine(uh HTG).mono ?_;rintro e w1 ⟨rfl,hb1⟩;have HB1:=ak hb1;clear hb1;go_wp2_with fail;go_quiet ((fail));go_wp2;go_ret;exact L9.no (below_drewN (uh HB1) _) (uh Ac _ (below_drewN (uh HB1) _))
 ·rw[Ak]
  have hti:=uh HTI rfl;rw[hti] at HTG;clear hti HTI
  cases cb
  ·go_enter Tryz.func179,Tryz.ntmps179
   go_wp2_with fail;refine(uh HTG).mono ?_;rintro e w1 ⟨rfl,hb1⟩;have HB1:=ak hb1;obtain⟨r4,r0⟩:=uh Qb w1 hb1;clear hb1;go_wp2_with fail;have HC2:=ak (uh Xm w1 (uh HB1));clear Xm
   go_region_held3 (fun w'=>w'.cell? ⟨X.bb,0,none⟩=some (.pointer (some ⟨X.pb,0,none⟩))/\w'.cell? ⟨sb,so+4,none⟩=some (.slice o2 s.code.length p2)) (go_keep) (first|(go_at_call 186;refine(uh HC2).mono ?_;rintro e w2 ⟨rfl,HB2,u0,u4⟩))
   go_wp2;go_ret;exact L9.no (uh HB2) (uh Ac _ (uh HB2))
  ·go_enter Tryz.func179,Tryz.ntmps179
   go_wp2_with fail;refine(uh HTG).mono ?_;rintro e w1 ⟨rfl,hb1⟩;have HB1:=ak hb1;obtain⟨r4,r0⟩:=uh Qb w1 hb1;clear hb1;go_wp2_with fail;have HC2:=ak (uh Xm w1 (uh HB1));clear Xm
   go_region_held3 (fun w'=>w'.cell? ⟨X.bb,0,none⟩=some (.pointer (some ⟨X.pb,0,none⟩))/\w'.cell? ⟨sb,so+4,none⟩=some (.slice o2 s.code.length p2)) (go_keep) (first|(go_at_call 186;refine(uh HC2).mono ?_;rintro e w2 ⟨rfl,HB2,u0,u4⟩))
   go_wp2;go_ret;have hb:=(uh HB2).alloc (uh HB2).size (.cells #[.int .i64 1,.int .i64 (je (varsOf X.k) s.name),.slice o2 s.code.length p2] 216);exact⟨(fun _=>⟨(212,w2.heap.size),rfl,⟨(uh HB2).size,by simp⟩,Or.inl ⟨uh HK,rfl,_,oh _ _ _,uh HCV⟩⟩),(fun h=>by cases h),But.of_below hb,uh Ac _ hb⟩
theorem a4a (X:BD) (hE:BE X) (H:List dh) (nx:Nat) (w:cu) (hS:BS X w H nx) (s:lu) (sb so:Nat) (ov cv av:Value) (hA:SA X.Wm sb so s ov cv av) (hk:s.kind=2) :
  Calls Tryz.prog 180 #[.pointer (some ⟨X.bb,0,none⟩),.pointer (some ⟨sb,so,none⟩)] w (L9 X H nx w s (decide (0<=s.at_/\s.at_<(X.k.gq.length:Int))&&U7 X.k s.code)):=by
 have Xm:Hid (Calls Tryz.prog 186 #[.pointer (some ⟨X.pb,0,none⟩),cv] w.drew fun e w'=>e=.returned (.bool (U7 X.k s.code))/\Hid (Below w.heap.size w w')/\w'.cell? ⟨X.bb,0,none⟩=some (.pointer (some ⟨X.pb,0,none⟩))/\w'.cell? ⟨X.pb,0,none⟩=some (.pointer (some ⟨X.cb,X.co,none⟩))/\w'.cell? ⟨X.cb,X.co+4,none⟩=some X.a4/\w'.cell? ⟨sb,so+2,none⟩=some (.int .i64 s.at_)/\w'.cell? ⟨sb,so+4,none⟩=some cv):=by
  have hd:Below w.heap.size w w.drew:=(iq _ _).drew;refine(ac5 X.k s.code cv X.pb X.mb X.cb X.co w.drew (hE.pr.stays (hS.stays hd).old) (hA.code.stays Ad ((hS.stays hd).X3 hE))).mono ?_;rintro e w' ⟨rfl,hb'⟩;have h2:=hd.trans (hb'.mono hd.size);have hC:=(hS.stays h2).cells hE;have hB:=hA.stays rfl ((hS.stays h2).X3 hE);exact⟨rfl,h2,hC.b0,hC.p0,hC.c4,hB.c2,hB.c4⟩
 have Ac:Hid (∀w1,Below w.heap.size w w1->BS X w1 H nx):=fun w1 hb=>hS.stays hb
 have HCV:=ak hA.code;have HK:=ak hk;have hC:=hS.cells hE;have hB:=hA.stays rfl (hS.X3 hE);have b0:=hC.b0;have p0:=hC.p0;have c4:=hC.c4;have s2:=hB.c2;have s4:=hB.c4;obtain⟨mi,mc,hm⟩:=hE.cls.gq.shape;have hml:=hE.cls.gq.Ob;rw[hm] at c4 Xm;obtain⟨o2,p2,rfl⟩:=(uh HCV).shape;have hat:=hA.at_;clear hS hA hC hB hm hk hE;generalize U7 X.k s.code=cb at *;have HAT:Hid (∃a,s.at_=a):=⟨_,rfl⟩
 by_cases h1:s.at_<0
 ·have e1:decide (s.at_<0)=true:=jf h1
  rw[iy (by omega),Aw];clear Xm h1;go_enter Tryz.func180,Tryz.ntmps180;go_wp2_with fail;go_quiet ((fail));go_wp2;go_ret;exact L9.no (vk _ _) (uh Ac _ (vk _ _))
 have e1:decide (s.at_<0)=false:=iy h1
 by_cases h2:(X.k.gq.length:Int)<=s.at_
 ·have e2:decide ((X.k.gq.length:Int)<=s.at_)=true:=jf h2
  rw[iy (by omega),Aw];clear Xm h1 h2;go_enter Tryz.func180,Tryz.ntmps180;go_wp2_with fail;go_quiet ((fail));go_wp2;go_ret;exact L9.no (vk _ _) (uh Ac _ (vk _ _))
 have e2:decide ((X.k.gq.length:Int)<=s.at_)=false:=iy h2;rw[jf (⟨by omega,by omega⟩:0<=s.at_/\s.at_<(X.k.gq.length:Int)),Ak];clear h1 h2
 cases cb
 ·go_enter Tryz.func180,Tryz.ntmps180
  go_wp2_with fail
  go_region_held3 (fun w'=>w'.cell? ⟨X.bb,0,none⟩=some (.pointer (some ⟨X.pb,0,none⟩))/\w'.cell? ⟨X.pb,0,none⟩=some (.pointer (some ⟨X.cb,X.co,none⟩))/\w'.cell? ⟨X.cb,X.co+4,none⟩=some (.slice mi X.k.gq.length mc)/\w'.cell? ⟨sb,so+2,none⟩=some (.int .i64 s.at_)/\w'.cell? ⟨sb,so+4,none⟩=some (.slice o2 s.code.length p2)) (go_keep) (first|(go_at_call 186;refine(uh Xm).mono ?_;rintro e w2 ⟨rfl,HB2,u0,u1,u2,u3,u4⟩))
  go_wp2;go_ret;exact L9.no (uh HB2) (uh Ac _ (uh HB2))
 ·go_enter Tryz.func180,Tryz.ntmps180
  go_wp2_with fail
  go_region_held3 (fun w'=>w'.cell? ⟨X.bb,0,none⟩=some (.pointer (some ⟨X.pb,0,none⟩))/\w'.cell? ⟨X.pb,0,none⟩=some (.pointer (some ⟨X.cb,X.co,none⟩))/\w'.cell? ⟨X.cb,X.co+4,none⟩=some (.slice mi X.k.gq.length mc)/\w'.cell? ⟨sb,so+2,none⟩=some (.int .i64 s.at_)/\w'.cell? ⟨sb,so+4,none⟩=some (.slice o2 s.code.length p2)) (go_keep) (first|(go_at_call 186;refine(uh Xm).mono ?_;rintro e w2 ⟨rfl,HB2,u0,u1,u2,u3,u4⟩))
  go_wp2_with fail;go_region;go_wp2;go_ret;have hb:=((uh HB2).drew).alloc (uh HB2).size (.cells #[.int .i64 1,.int .i64 s.at_,.slice o2 s.code.length p2] 219);exact⟨(fun _=>⟨(217,w2.heap.size),rfl,⟨(uh HB2).size,(oh w2.drew _ _).lt⟩,Or.inr (Or.inl ⟨uh HK,rfl,_,oh _ _ _,uh HCV⟩)⟩),(fun h=>by cases h),But.of_below hb,uh Ac _ hb⟩
def GS (X:BD) (w:cu) (nx:Nat):Prop:=∃gv:List Int,gv.length=(varsOf X.k).length/\(∀x,x∈gv->0<=x/\x<nx)/\jd w X.gb 3 (gv.map (Value.int .i64)).toArray
def aa7 (k:dw) (au:List dh) (nx:Nat) (i:Nat) (gv:List Int):Prop:=gv.length=(varsOf k).length/\∀q (h:q<gv.length),(0<=gv[q]/\gv[q]<=nx)/\(gv[q]=nx↔∃j,∃hj:j<au.length,j<i/\je (varsOf k) au[j]=(q:Int))
theorem aa7.zero {k:dw} {au:List dh} {nx:Nat} {gv:List Int} (h1:gv.length=(varsOf k).length) (h2:∀x,x∈gv->0<=x/\x<nx):aa7 k au nx 0 gv:=by
 refine⟨h1,fun q h=>?_⟩;have:=h2 _ (o7 h);refine⟨by omega,?_⟩;constructor
 ·intro e;omega
 ·rintro⟨j,_,hj,_⟩;omega
theorem aa7.next {k:dw} {au:List dh} {nx:Nat} {i p:Nat} {gv:List Int} (h:aa7 k au nx i gv) (hi:i<au.length) (hp:je (varsOf k) au[i]=(p:Int)) (hn:p<(varsOf k).length):aa7 k au nx (i+1) (gv.set p nx):=by
 obtain⟨h1,h2⟩:=h;refine⟨by rw[List.length_set];exact h1,fun q hq=>?_⟩;rw[List.length_set] at hq;rw[List.getElem_set];obtain⟨a,b⟩:=h2 q hq
 by_cases e:p=q
 ·rw[gy e]
  exact⟨by omega,fun _=>⟨i,hi,by omega,by rw[hp,e]⟩,fun _=>rfl⟩
 ·rw[bf e]
  refine⟨a,b.trans ?_⟩;constructor
  ·rintro⟨j,hj,hji,hh⟩;exact⟨j,hj,by omega,hh⟩
  ·rintro⟨j,hj,hji,hh⟩
   refine⟨j,hj,?_,hh⟩
   by_cases ej:j=i
   ·subst ej;rw[hp] at hh;omega
   ·omega
theorem aa7.bound {k:dw} {au:List dh} {nx:Nat} {i:Nat} {gv:List Int} (h:aa7 k au nx i gv):∀x,x∈gv->0<=x/\x<=nx:=fun x hx=>by
 obtain⟨q,hq,rfl⟩:=List.getElem_of_mem hx;exact(h.2 q hq).1
theorem aa7.dup {k:dw} {au:List dh} {nx:Nat} {i p:Nat} {gv:List Int} (h:aa7 k au nx i gv) (hi:i<au.length) (hp:je (varsOf k) au[i]=(p:Int)) (hq:p<gv.length):(gv[p]==(nx:Int))=aie k au i:=by
 rw[Oa,Ey,(h.2 p hq).2];unfold aie;rw[jy hi];simp only;rw[List.any_eq_true];constructor
 ·rintro⟨j,hj,hji,e⟩
  refine⟨j,uz.2 hji,?_⟩;rw[jy hj];simp only[Ey];rw[e,hp]
 ·rintro⟨j,hj,e⟩
  rw[uz] at hj;rw[jy (by omega)] at e;simp only[Ey] at e;exact⟨j,by omega,hj,by rw[e,hp]⟩
theorem a8m (gv:List Int) (p:Nat) (v:Int):(gv.map (Value.int .i64)).toArray.setIfInBounds p (.int .i64 v)=((gv.set p v).map (Value.int .i64)).toArray:=by
 simp[List.map_set]
theorem akn {w:cu} {g:Nat} {e:TypeId} {gv:List Int} (h:jd w g e (gv.map (Value.int .i64)).toArray) (p:Nat) (hp:p<gv.length):w.cell? ⟨g,p,none⟩=some (.int .i64 gv[p]) :=
 h.cell (i:=p) (v:=.int .i64 gv[p]) (by simp[hp])
def aew (k:dw) (au:List dh) (i:Nat) (cs:Array Value):Prop:=cs.size=au.length/\∀j (hj:j<au.length),j<i->cs[j]?=some (.int .i64 (je (varsOf k) au[j]))
theorem aew.next {k:dw} {au:List dh} {i:Nat} {cs:Array Value} (h:aew k au i cs) (hi:i<au.length) {v:Int} (hv:je (varsOf k) au[i]=v):aew k au (i+1) (cs.setIfInBounds i (.int .i64 v)):=by
 refine⟨by rw[Array.size_setIfInBounds];exact h.1,fun j hj hji=>?_⟩;rw[Array.getElem?_setIfInBounds]
 by_cases e:i=j
 ·subst e
  rw[gy rfl,gy (by rw[h.1];exact hi),hv]
 ·rw[bf e]
  exact h.2 j hj (by omega)
theorem aew.at {k:dw} {au:List dh} {cs:Array Value} {w:cu} {g:Nat} {e:TypeId} (h:aew k au au.length cs) (hb:jd w g e cs) (hn:au.length<=1000) (hv:(varsOf k).length<=1000):jc 1 8 Jv 0 w (.slice (some ⟨g,0,none⟩) au.length au.length) (au.map (je (varsOf k))):=by
 refine⟨some ⟨g,0,none⟩,au.length,by rw[zy],⟨by rw[zy];unfold Len;omega,by rw[zy];omega⟩,by rw[zy];unfold Len;omega,fun i hi=>?_⟩;rw[zy] at hi;refine⟨g,0,[.int .i64 (je (varsOf k) au[i])],rfl,jg _,hb.lt,rfl,fun j hj=>?_,?_⟩
 ·have:j=0:=by simpa using hj
  subst this;simp only[jr,ji,Ba,og];exact hb.cell (h.2 i hi hi)
 ·rw[List.getElem_map]
  have:=Xw (varsOf k) au[i];exact⟨rfl,by unfold I64;omega⟩
theorem BS.but {X:BD} (hE:BE X) {w w':cu} {H:List dh} {nx:Nat} (h:BS X w H nx) (hb:But [X.gb] w w') {gv:List Int} (g1:gv.length=(varsOf X.k).length) (g2:∀x,x∈gv->0<=x/\x<=nx) (g3:jd w' X.gb 3 (gv.map (Value.int .i64)).toArray):BS X w' H nx :=
 ⟨h.old.trans (hb.below _ h.old.size (fun q hq=>by rw[yt] at hq;subst hq;exact hE.ng.1)),ku h.lo hb.size,h.nxl,hb.blk h.bl (by simpa using hE.bg),hb.blk h.hl (by simpa using hE.hg),gv,g1,g2,g3⟩
theorem GS.stays {X:BD} {w w':cu} {nx:Nat} (h:GS X w nx) (hb:Below w.heap.size w w'):GS X w' nx:=by
 obtain⟨gv,a,b,c⟩:=h;exact⟨gv,a,b,c.below hb c.lt⟩
theorem L9.no' {X:BD} {H:List dh} {nx:Nat} {w w':cu} {s:lu} (hb:But [X.gb] w w') (hs:BS X w' H nx):L9 X H nx w s false (.returned .nilIface) w':=⟨(fun h=>by cases h),(fun _=>rfl),hb,hs⟩
theorem But.a8n {S:List Nat} {a w:cu} (h:But S a w) {p:Addr} (hp:a.heap.size<=p.block) (u:Value):But S a (w.setCell p u) :=
 ⟨h.os,h.tape,h.output,by simpa[World.setCell] using h.size,fun k hk hn=>by rw[zf _ _ _ _ (by omega)];exact h.block k hk hn⟩
theorem But.abd {S:List Nat} {a w:cu} (h:But S a w) {p:Addr} (hp:p.block∈S) (u:Value):But S a (w.setCell p u):=h.trans (But.setCell w hp u)
theorem jd.other {w:cu} {g:Nat} {e:TypeId} {cs:Array Value} (h:jd w g e cs) {p:Addr} (hp:g≠p.block) (u:Value):jd (w.setCell p u) g e cs:=(zf _ _ _ _ hp).trans h
theorem a4h (X:BD) (hE:BE X) (args:List (List l9)) (v:Value) (hv:jc 1 24 Ih 0 X.W0 v args) (w:cu) (hb:Below X.W0.heap.size X.W0 w) :
  Calls Tryz.prog 187 #[v,.func (.func 186) #[.pointer (some ⟨X.pb,0,none⟩)] #[]] w (Ans (.bool (args.all (U7 X.k))) w):=by
 have HQ:(List.range args.length).all (fun j=>match args[j]? with|some c=>U7 X.k c|none=>false)=args.all (U7 X.k):=afx _ _ _ (fun j hj=>by rw[jy hj])
 refine(ar9 X.pb (fun _ wr=>Below w.heap.size w wr) (fun wr=>Below w.heap.size w wr) (fun j=>match args[j]? with|some c=>U7 X.k c|none=>false) args _ w ?_ ?_ ?_ (iq _ _)).mono ?_
 ·intro _ wr h
  exact hv.stays I8 (hb.trans (h.mono hb.size))
 ·intro _ w1 w2 h1 h2
  exact h1.trans (h2.mono h1.size)
 ·intro j hj cs wr h hR
  obtain⟨c,rfl,hc⟩:=hR;refine(ac5 X.k args[j] c X.pb X.mb X.cb X.co wr (hE.pr.stays (hb.trans (h.mono hb.size))) hc).mono ?_;rintro e w' ⟨rfl,hb'⟩;rw[jy hj];have hb2:=h.trans (hb'.mono h.size);exact⟨rfl,(fun _=>hb2),fun _=>hb2⟩
 ·rintro e w' ⟨rfl,h1,h2⟩
  rw[HQ] at h1 h2 ⊢;refine⟨rfl,?_⟩
  cases hh:args.all (U7 X.k)
  ·exact h2 hh
  ·exact h1 hh
theorem azy (ks:List dw) (k:dw) (H:List dh) (s:lu) (h:s.at_<0\/(k.ay.length:Int)<=s.at_):Y9 ks k H s=false:=by unfold Y9;rw[gy h]
theorem azz (ks:List dw) (k:dw) (H:List dh) (s:lu) (j gi:Nat) (g:dw) (hj:j<k.ay.length) (ha:s.at_=(j:Int)) (hgi:k.ay[j]=(gi:Int)) (hg:ks[gi]?=some g) :
  Y9 ks k H s=(decide (s.au.length=g.au.length/\s.args.length=g.ins.length)&&s.args.all (U7 k)&&(List.range s.au.length).all (aa8 k H s.au)):=by
 have e:(k.ay.getD s.at_.toNat 0).toNat=gi:=by
  rw[ha,Ed,yw,jy hj,Kw,hgi,Ed]
 unfold Y9;rw[bf (by rw[ha];omega),e,hg]
def RIf (_:Nat) (_:cu) (cs:List Value) (x:TypeId×Nat):Prop:=cs=[.iface x.1 (.pointer (some ⟨x.2,0,none⟩))]
theorem ah8:P9 RIf:=fun _ _ _ _ _ _ h=>h
def qp (X:BD) (P:Nat->Prop) (w:cu):PL->List (TypeId×Nat)->Prop
 | ⟨none⟩,ns=>ns=[]
 | ⟨some (s, r, none)⟩,ns=>∃x ns',ns=x::ns'/\P x.2/\aas X P w x s/\qp X P w r ns'
 | ⟨some (s, r, some (_, a, _, b))⟩,ns=>∃x ns' fv sv na nb,ns=x::ns'/\P x.2/\x.1=225/\jd w x.2 227 #[.int .i64 (1+maxS (a.cost (xg X.k.ay X.known) 0) (b.cost (xg X.k.ay X.known) 0)),.int .i64 (je (varsOf X.k) s.name),fv,sv]/\(jc 1 16 RIf 0 w fv na/\∀b,fv.ownBlock=some b->P b)/\qp X P w a na/\(jc 1 16 RIf 0 w sv nb/\∀b,sv.ownBlock=some b->P b)/\qp X P w b nb/\qp X P w r ns'
theorem Yf:∀(w w':cu) (cs:List Value) (x:TypeId×Nat),RIf 0 w cs x->RIf 0 w' cs x:=fun _ _ _ _ h=>h
theorem qp.zo {X:BD} {P:Nat->Prop} {w w':cu} (hk:Gi P w w'):∀(t:PL) (ns:List (TypeId×Nat)),qp X P w t ns->qp X P w' t ns:=by
 intro t
 induction t using PL.ind with
 | nil=>intro ns h;exact h
 | leaf s r ih =>
  rintro ns ⟨x,ns',h1,h2,h3,h4⟩;exact⟨x,ns',h1,h2,h3.zo h2 hk,ih _ h4⟩
 | br s a el b en r iha ihb ihr =>
  rintro ns ⟨x,ns',fv,sv,na,nb,h1,h2,h3,h4,⟨h5,g5⟩,h6,⟨h7,g7⟩,h8,h9⟩;exact⟨x,ns',fv,sv,na,nb,h1,h2,h3,h4.zo hk h2,⟨h5.zo Yf hk g5,g5⟩,iha _ h6,⟨h7.zo Yf hk g7,g7⟩,ihb _ h8,ihr _ h9⟩
theorem qp.mono {X:BD} {P Q:Nat->Prop} {w:cu} (hq:∀b,P b->Q b):∀(t:PL) (ns:List (TypeId×Nat)),qp X P w t ns->qp X Q w t ns:=by
 intro t
 induction t using PL.ind with
 | nil=>intro ns h;exact h
 | leaf s r ih =>
  rintro ns ⟨x,ns',h1,h2,h3,h4⟩;exact⟨x,ns',h1,hq _ h2,h3.mono hq,ih _ h4⟩
 | br s a el b en r iha ihb ihr =>
  rintro ns ⟨x,ns',fv,sv,na,nb,h1,h2,h3,h4,⟨h5,g5⟩,h6,⟨h7,g7⟩,h8,h9⟩;exact⟨x,ns',fv,sv,na,nb,h1,hq _ h2,h3,h4,⟨h5,fun b hb=>hq b (g5 b hb)⟩,iha _ h6,⟨h7,fun b hb=>hq b (g7 b hb)⟩,ihb _ h8,ihr _ h9⟩
def Uw (kn:lu->Int):PL->Int
 | ⟨none⟩=>0
 | ⟨some (s, _, none)⟩=>if s.kind=3 then 1+kn s else 1
 | ⟨some (_, _, some (_, a, _, b))⟩=>1+maxS (a.cost kn 0) (b.cost kn 0)
def aex:PL->PL
 | ⟨none⟩=>.nil
 | ⟨some (_, r, none)⟩=>r
 | ⟨some (_, r, some (_, _, _, _))⟩=>r
theorem awd (kn:lu->Int) (t:PL) (h:t≠.nil) (s:Int):t.cost kn s=(aex t).cost kn (Ll (s+Uw kn t)):=by
 cases t using PL.inv with
 | nil=>exact absurd rfl h
 | leaf _ _=>rfl
 | br _ _ _ _ _ _=>rfl
theorem qp.head {X:BD} {P:Nat->Prop} {w:cu} {t:PL} {x:TypeId×Nat} {ns:List (TypeId×Nat)} (h:qp X P w t (x::ns)):t≠.nil/\qp X P w (aex t) ns/\w.cell? ⟨x.2,0,none⟩=some (.int .i64 (Uw (xg X.k.ay X.known) t))/\(x.1=212\/x.1=217\/x.1=221\/x.1=225):=by
 cases t using PL.inv with
 | nil=>cases h
 | leaf s r =>
  obtain⟨x',ns',h1,h2,h3,h4⟩:=h;simp only[List.cons.injEq] at h1;obtain⟨rfl,rfl⟩:=h1;refine⟨by simp,h4,?_,?_⟩
  ·rcases h3 with ⟨a,b,cv,c,d⟩|⟨a,b,cv,c,d⟩|⟨a,b,ov,av,c,d⟩
   ·have:=c.cell (i:=0) (v:=.int .i64 1) rfl
    simp only[Uw];rw[bf (by omega)];exact this
   ·have:=c.cell (i:=0) (v:=.int .i64 1) rfl
    simp only[Uw];rw[bf (by omega)];exact this
   ·have:=c.cell (i:=0) (v:=.int .i64 (1+xg X.k.ay X.known s)) rfl
    simp only[Uw];rw[gy a];exact this
  ·rcases h3 with ⟨a,b,_⟩|⟨a,b,_⟩|⟨a,b,_⟩
   ·exact Or.inl b
   ·exact Or.inr (Or.inl b)
   ·exact Or.inr (Or.inr (Or.inl b))
 | br s a el b en r =>
  obtain⟨x',ns',fv,sv,na,nb,h1,h2,h3,h4,h5,h6,h7,h8,h9⟩:=h;simp only[List.cons.injEq] at h1;obtain⟨rfl,rfl⟩:=h1;exact⟨by simp,h9,h4.cell (i:=0) rfl,Or.inr (Or.inr (Or.inr h3))⟩
theorem qp.none {X:BD} {P:Nat->Prop} {w:cu} {t:PL} (h:qp X P w t []):t=.nil:=by
 cases t using PL.inv with
 | nil=>rfl
 | leaf s r=>obtain⟨x,ns',h1,_⟩:=h;cases h1
 | br s a el b en r=>obtain⟨x,ns',fv,sv,na,nb,h1,_⟩:=h;cases h1
theorem Zw (kn:lu->Int) (hk:∀s,0<=kn s/\kn s<=400001) (t:PL):∀s:Int,0<=s->s<=400001->0<=t.cost kn s/\t.cost kn s<=400001:=by
 induction t using PL.ind with
 | nil=>intro s h1 h2;exact⟨h1,h2⟩
 | leaf st r ih =>
  intro s h1 h2;have:=hk st;have hc:=P7 (s+(if st.kind=3 then 1+kn st else 1)) (by split<;>omega);exact ih _ hc.1 hc.2
 | br st a el b en r iha ihb ihr =>
  intro s h1 h2;have ha:=iha 0 (by omega) (by omega);have hb:=ihb 0 (by omega) (by omega);have hm:=ag0 _ _ _ ha hb;have hc:=P7 (s+(1+maxS (a.cost kn 0) (b.cost kn 0))) (by omega);exact ihr _ hc.1 hc.2
theorem awe (kn:lu->Int) (hk:∀s,0<=kn s/\kn s<=400001) (t:PL):0<=Uw kn t/\Uw kn t<=400002:=by
 cases t using PL.inv with
 | nil=>simp[Uw]
 | leaf st r =>
  have:=hk st;simp only[Uw]
  split<;>omega
 | br st a el b en r =>
  have ha:=Zw kn hk a 0 (by omega) (by omega);have hb:=Zw kn hk b 0 (by omega) (by omega);have hm:=ag0 _ _ _ ha hb;simp only[Uw];omega
theorem aoa (n nb : Nat) (ck : Int) (w : cu) (h : w.cell? ⟨nb, 0, none⟩ = some (.int .i64 ck)) : (method (n + 1) 212 (.pointer (some ⟨nb, 0, none⟩)) "loop.example/s0043/impl.most").run Tryz.prog w = .ok (215, .agg #[.int .i64 ck]) w := by
 have h1 : ((Tryz.prog.info? 212).map fun i => (i.methods.find? (·.name == "loop.example/s0043/impl.most")).map fun m => (m.path, m.func)) = some (some (#[⟨216, 0, true⟩], some (215, false))) := by kernel_rfl
 obtain⟨i,hi,h2⟩:=Option.map_eq_some_iff.1 h1;obtain⟨m,hm,h3⟩:=Option.map_eq_some_iff.1 h2;simp only[Prod.mk.injEq] at h3;obtain⟨hp,hf⟩:=h3;unfold method;simp[typeInfo,hi,hm,hp,hf,follow,Place.get,asAddr,fieldPlace,receiverAt,go_sem,h,Result.andThen]
theorem aqa (n nb : Nat) (ck : Int) (w : cu) (h : w.cell? ⟨nb, 0, none⟩ = some (.int .i64 ck)) : (method (n + 1) 217 (.pointer (some ⟨nb, 0, none⟩)) "loop.example/s0043/impl.most").run Tryz.prog w = .ok (215, .agg #[.int .i64 ck]) w := by
 have h1 : ((Tryz.prog.info? 217).map fun i => (i.methods.find? (·.name == "loop.example/s0043/impl.most")).map fun m => (m.path, m.func)) = some (some (#[⟨219, 0, true⟩], some (215, false))) := by kernel_rfl
 obtain⟨i,hi,h2⟩:=Option.map_eq_some_iff.1 h1;obtain⟨m,hm,h3⟩:=Option.map_eq_some_iff.1 h2;simp only[Prod.mk.injEq] at h3;obtain⟨hp,hf⟩:=h3;unfold method;simp[typeInfo,hi,hm,hp,hf,follow,Place.get,asAddr,fieldPlace,receiverAt,go_sem,h,Result.andThen]
theorem aob (n nb : Nat) (ck : Int) (w : cu) (h : w.cell? ⟨nb, 0, none⟩ = some (.int .i64 ck)) : (method (n + 1) 221 (.pointer (some ⟨nb, 0, none⟩)) "loop.example/s0043/impl.most").run Tryz.prog w = .ok (215, .agg #[.int .i64 ck]) w := by
 have h1 : ((Tryz.prog.info? 221).map fun i => (i.methods.find? (·.name == "loop.example/s0043/impl.most")).map fun m => (m.path, m.func)) = some (some (#[⟨223, 0, true⟩], some (215, false))) := by kernel_rfl
 obtain⟨i,hi,h2⟩:=Option.map_eq_some_iff.1 h1;obtain⟨m,hm,h3⟩:=Option.map_eq_some_iff.1 h2;simp only[Prod.mk.injEq] at h3;obtain⟨hp,hf⟩:=h3;unfold method;simp[typeInfo,hi,hm,hp,hf,follow,Place.get,asAddr,fieldPlace,receiverAt,go_sem,h,Result.andThen]
theorem ako (n nb : Nat) (ck : Int) (w : cu) (h : w.cell? ⟨nb, 0, none⟩ = some (.int .i64 ck)) : (method (n + 1) 225 (.pointer (some ⟨nb, 0, none⟩)) "loop.example/s0043/impl.most").run Tryz.prog w = .ok (215, .agg #[.int .i64 ck]) w := by
 have h1 : ((Tryz.prog.info? 225).map fun i => (i.methods.find? (·.name == "loop.example/s0043/impl.most")).map fun m => (m.path, m.func)) = some (some (#[⟨227, 0, true⟩], some (215, false))) := by kernel_rfl
 obtain⟨i,hi,h2⟩:=Option.map_eq_some_iff.1 h1;obtain⟨m,hm,h3⟩:=Option.map_eq_some_iff.1 h2;simp only[Prod.mk.injEq] at h3;obtain⟨hp,hf⟩:=h3;unfold method;simp[typeInfo,hi,hm,hp,hf,follow,Place.get,asAddr,fieldPlace,receiverAt,go_sem,h,Result.andThen]
theorem ag4 (x:Int) (h:x<=400001):Ll x=x:=by unfold Ll;split<;>omega
theorem ag5 (x:Int) (h:400001<x):Ll x=400001:=by unfold Ll;rw[gy (by omega)]
theorem aco (X:BD) (P:Nat->Prop) (lo:Nat) (t:PL) (v:Value) (nodes:List (TypeId×Nat)) (w:cu) (hv:jc 1 16 RIf lo w v nodes) (hN:qp X P w t nodes) (hk:∀s,0<=xg X.k.ay X.known s/\xg X.k.ay X.known s<=400001) :
  Calls Tryz.prog 152 #[v] w (Ans (.int .i64 (t.cost (xg X.k.ay X.known) 0)) w):=by
 obtain⟨a,cap,rfl,_,hn,hx⟩:=hv;unfold Len at hn;have HX:=ak hx;have HN:=ak hN;have HK:=ak hk;generalize hkn:xg X.k.ay X.known=kn at *;have HKN:=ak hkn;clear hx hN hk hkn;go_enter Tryz.func152,Tryz.ntmps152;go_wp2
 go_loopg [3,8] nodes.length (fun g sv i wr=>∃(k:Nat) (tk:PL) (sum:Int),k<=nodes.length/\g=nodes.length-k/\i=.int .i64 k/\sv=.int .i64 sum/\0<=sum/\sum<=400001/\t.cost kn 0=tk.cost kn sum/\qp X P w tk (nodes.drop k)/\Below w.heap.size w wr)
 case atStart=>exact⟨0,t,0,jg _,by omega,rfl,rfl,by omega,by omega,rfl,by simpa using uh HN,iq _ _⟩
 case round =>
  obtain⟨k,tk,sum,hk,hg,rfl,rfl,hs0,hs1,a3h,hnk,hbl⟩:=hrel;have HG:=ak hg;have HC:=ak a3h;have HNK:=ak hnk;have Ae:=ak hbl;clear hg a3h hnk
  by_cases hlt:k<nodes.length
  ·obtain⟨b,o,cs,rfl,_,hb,hcs,hc,rfl⟩:=uh HX k hlt
   have c0:=(hbl.cell (p:=⟨b,_,none⟩) hb).trans (hc 0 (by simp));simp only[jr,ji,og] at c0;have hd:nodes.drop k=nodes[k]::nodes.drop (k+1):=List.drop_eq_getElem_cons hlt;have hh:=uh HNK;rw[hd] at hh;obtain⟨h1,h2,h3,h4⟩:=hh.head;have h3':=(hbl.cell (p:=⟨nodes[k].2,0,none⟩) (Jh w _ h3)).trans h3;have hcb:=awe kn (uh HK) tk;rw[uh HKN] at h3';have Zp:=ak h2;have HC2:Hid (t.cost kn 0=(aex tk).cost kn (Ll (sum+Uw kn tk))):=(uh HC).trans (awd kn tk h1 sum);clear hd hh h1 h2 h3 hc hcs hbl;generalize nodes[k].1=ty at *;generalize nodes[k].2=nb at *;generalize Uw kn tk=ck at *;rcases h4 with rfl|rfl|rfl|rfl
   ·have hm:=fun n=>aoa n nb ck wr h3'
    go_wp2
    all_goals
     go_roundg (nodes.length-(k+1))
     case measure=>have:=uh HG;omega
     case rel=>exact⟨k+1,aex tk,Ll (sum+ck),by omega,rfl,by go_num,(by first|rw[ag4 _ (by omega)]|rw[ag5 _ (by omega)]),(P7 _ (by omega)).1,(P7 _ (by omega)).2,uh HC2,uh Zp,(uh Ae).alloc (uh Ae).size _⟩
   ·have hm:=fun n=>aqa n nb ck wr h3'
    go_wp2
    all_goals
     go_roundg (nodes.length-(k+1))
     case measure=>have:=uh HG;omega
     case rel=>exact⟨k+1,aex tk,Ll (sum+ck),by omega,rfl,by go_num,(by first|rw[ag4 _ (by omega)]|rw[ag5 _ (by omega)]),(P7 _ (by omega)).1,(P7 _ (by omega)).2,uh HC2,uh Zp,(uh Ae).alloc (uh Ae).size _⟩
   ·have hm:=fun n=>aob n nb ck wr h3'
    go_wp2
    all_goals
     go_roundg (nodes.length-(k+1))
     case measure=>have:=uh HG;omega
     case rel=>exact⟨k+1,aex tk,Ll (sum+ck),by omega,rfl,by go_num,(by first|rw[ag4 _ (by omega)]|rw[ag5 _ (by omega)]),(P7 _ (by omega)).1,(P7 _ (by omega)).2,uh HC2,uh Zp,(uh Ae).alloc (uh Ae).size _⟩
   ·have hm:=fun n=>ako n nb ck wr h3'
    go_wp2
    all_goals
     go_roundg (nodes.length-(k+1))
     case measure=>have:=uh HG;omega
     case rel=>exact⟨k+1,aex tk,Ll (sum+ck),by omega,rfl,by go_num,(by first|rw[ag4 _ (by omega)]|rw[ag5 _ (by omega)]),(P7 _ (by omega)).1,(P7 _ (by omega)).2,uh HC2,uh Zp,(uh Ae).alloc (uh Ae).size _⟩
  ·have e:k=nodes.length:=by omega
   subst e;have hh:=uh HNK;rw[List.drop_length] at hh;have ht:=hh.none;subst ht;have HF:Hid (t.cost kn 0=sum):=uh HC;clear HC hh;go_wp2;go_ret;exact⟨Sm (uh HF).symm,uh Ae⟩
end Go.Proofs.YtfeejeflmcapoaaGreatDoor
