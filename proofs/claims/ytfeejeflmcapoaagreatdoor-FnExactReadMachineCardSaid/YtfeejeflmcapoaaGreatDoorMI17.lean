import Derived.Test.YtfeejeflmcapoaaGreatDoorMI15
import Derived.Test.YtfeejeflmcapoaaGreatDoorMI12
import Derived.Test.YtfeejeflmcapoaaGreatDoorM11
import Derived.Deep.RegionLaw
set_option linter.unusedSimpArgs false
set_option linter.unusedVariables false
set_option maxHeartbeats 4000000
set_option maxRecDepth 20000
namespace Go.Proofs.YtfeejeflmcapoaaGreatDoor
open Go.RowKit
def Vr (Wm W0:cu) (ks:List dw) (k:dw) (pb mb cb co:Nat) (a1 a2 a3 a4 a5 a6 iv:Value) (ins:List (Nat×Nat)) (known:List Int) (bb hb gb lo:Nat):BD:=⟨W0,ks,k,pb,mb,cb,co,a1,a2,a3,a4,a5,a6,iv,ins,known,bb,hb,gb,lo,Wm⟩
structure PE (Wm W0:cu) (ks:List dw) (k:dw) (pb mb cb co:Nat) (a1 a2 a3 a4 a5 a6 iv:Value) (ins:List (Nat×Nat)) (known:List Int):Prop where
 cls:CA Wm cb co k a1 a2 a3 a4 a5 a6
 p0:W0.cell? ⟨pb,0,none⟩=some (.pointer (some ⟨cb,co,none⟩))
 p1:W0.cell? ⟨pb,1,none⟩=some (.map (some mb))
 p2:W0.cell? ⟨pb,2,none⟩=some iv
 map:Iu W0 mb (varsOf k).length (Ce (varsOf k))
 inl:ins.length=k.ay.length
 ay:jc 2 16 am2 0 W0 iv ins
 callee:∀j (h:j<ins.length) (h':j<k.ay.length),∃gi g cb co b1 n1 b2 n2,k.ay[j]=((gi:Nat):Int)/\ks[gi]?=some g/\W0.cell? ⟨ins[j].1,0,none⟩=some (.pointer (some ⟨cb,co,none⟩))/\W0.cell? ⟨cb,co+1,none⟩=some (.slice b1 g.ins.length n1)/\W0.cell? ⟨cb,co+2,none⟩=some (.slice b2 g.au.length n2)/\W0.cell? ⟨ins[j].1,5,none⟩=some (.int .i64 (known.getD gi 0))/\(0<=known.getD gi 0/\known.getD gi 0<=400000)/\g.ins.length<=1000/\g.au.length<=1000
 vl:(varsOf k).length<=1000
 old:Below Wm.heap.size Wm W0
theorem PE.be {Wm W0:cu} {ks:List dw} {k:dw} {pb mb cb co:Nat} {a1 a2 a3 a4 a5 a6 iv:Value} {ins:List (Nat×Nat)} {known:List Int} (h:PE Wm W0 ks k pb mb cb co a1 a2 a3 a4 a5 a6 iv ins known) (hbl:k.body.length<=30000) {bb hb gb lo:Nat} (nb:W0.heap.size<=bb/\bb<lo) (nh:W0.heap.size<=hb/\hb<lo) (ng:W0.heap.size<=gb/\gb<lo) (bh:bb≠hb) (bg:bb≠gb) (hg:hb≠gb):BE (Vr Wm W0 ks k pb mb cb co a1 a2 a3 a4 a5 a6 iv ins known bb hb gb lo) :=
 ⟨h.cls,h.p0,h.p1,h.p2,h.map,h.inl,h.ay,h.callee,h.vl,hbl,nb,nh,ng,bh,bg,hg,h.old⟩
def Vs (ks:List dw) (k:dw) (known:List Int):Bool:=match Dv ks k (k.body.length+1) k.body [] 0 with
 | some (t,[])=>decide (t.cost (xg k.ay known) 0<=400000)
 | _=>false
def Og (n:Nat):Obj:=.cells (madeCells #[.int .i64 0] n) 3
theorem a4e (k:dw) (q:Nat):cnt k [] q=0:=rfl
theorem av7 (k:dw):aan k []=madeCells #[.int .i64 0] (varsOf k).length:=by
 apply Array.ext_getElem?;intro i
 by_cases hi:i<(varsOf k).length
 ·rw[acn k [] i hi,a4e]
  simp[madeCells,hi,Nat.mod_one]
 ·rw[Array.getElem?_eq_none (by rw[abe];omega),Array.getElem?_eq_none (by rw[size_madeCells];omega)]
theorem atd (n:Nat):madeCells #[.int .i64 0] n=((List.replicate n (0:Int)).map (Value.int .i64)).toArray:=by
 apply Array.ext_getElem?;intro i
 by_cases hi:i<n
 ·simp[madeCells,hi,Nat.mod_one]
 ·rw[Array.getElem?_eq_none (by rw[size_madeCells];omega),Array.getElem?_eq_none (by simp;omega)]
theorem Zy {w w5:cu} (hb:Below w.heap.size w w5) (pb:Nat) (a b:Value):But [pb] w ((w5.setCell ⟨pb,4,none⟩ a).setCell ⟨pb,5,none⟩ b) :=
 ((But.of_below hb).abd (p:=⟨pb,4,none⟩) (yt.2 rfl) a).abd (p:=⟨pb,5,none⟩) (yt.2 rfl) b
theorem azl {ks:List dw} {k:dw} {pb mb cb co:Nat} {a1 a2 a3 a4 a5 a6 iv:Value} {ins:List (Nat×Nat)} {known:List Int} {Wm w:cu} (h:PE Wm w ks k pb mb cb co a1 a2 a3 a4 a5 a6 iv ins known) (h3:k.body.length<=30000) (hb gb:Nat) (hh:(hb=w.heap.size/\gb=w.heap.size+1)\/(hb=w.heap.size+1/\gb=w.heap.size)) :
  BE (Vr Wm w ks k pb mb cb co a1 a2 a3 a4 a5 a6 iv ins known (w.heap.size+1+1) hb gb (w.heap.size+3))/\BS (Vr Wm w ks k pb mb cb co a1 a2 a3 a4 a5 a6 iv ins known (w.heap.size+1+1) hb gb (w.heap.size+3)) (((w.alloc (Og (varsOf k).length)).alloc (Og (varsOf k).length)).alloc (.cells #[.pointer (some ⟨pb,0,none⟩),.int .i64 0,.slice (some ⟨hb,0,none⟩) (varsOf k).length (varsOf k).length,.slice (some ⟨gb,0,none⟩) (varsOf k).length (varsOf k).length] 179)).drew [] 0/\Below w.heap.size w (((w.alloc (Og (varsOf k).length)).alloc (Og (varsOf k).length)).alloc (.cells #[.pointer (some ⟨pb,0,none⟩),.int .i64 0,.slice (some ⟨hb,0,none⟩) (varsOf k).length (varsOf k).length,.slice (some ⟨gb,0,none⟩) (varsOf k).length (varsOf k).length] 179)).drew:=by
 have hE:BE (Vr Wm w ks k pb mb cb co a1 a2 a3 a4 a5 a6 iv ins known (w.heap.size+1+1) hb gb (w.heap.size+3)):=h.be h3 (by omega) (by omega) (by omega) (by omega) (by omega) (by omega);have s1:(w.alloc (Og (varsOf k).length)).heap.size=w.heap.size+1:=by simp
 have s2:((w.alloc (Og (varsOf k).length)).alloc (Og (varsOf k).length)).heap.size=w.heap.size+1+1:=by simp
 have k1:jd (w.alloc (Og (varsOf k).length)) w.heap.size 3 (madeCells #[.int .i64 0] (varsOf k).length):=oh w _ _;have k2:=oh (w.alloc (Og (varsOf k).length)) (madeCells #[.int .i64 0] (varsOf k).length) 3;rw[s1] at k2;have b2:Below (w.heap.size+1) (w.alloc (Og (varsOf k).length)) ((w.alloc (Og (varsOf k).length)).alloc (Og (varsOf k).length)):=(iq _ _).alloc (by omega) _;have k1':jd ((w.alloc (Og (varsOf k).length)).alloc (Og (varsOf k).length)) w.heap.size 3 (madeCells #[.int .i64 0] (varsOf k).length):=k1.below b2 (by omega)
 have hr:∀g,g=w.heap.size\/g=w.heap.size+1->jd ((w.alloc (Og (varsOf k).length)).alloc (Og (varsOf k).length)) g 3 (madeCells #[.int .i64 0] (varsOf k).length):=fun g hg=>by
  rcases hg with rfl|rfl
  ·exact k1'
  ·exact k2
 have hrb:=hr hb (by omega);have hrg:=hr gb (by omega);have bw:Below w.heap.size w ((w.alloc (Og (varsOf k).length)).alloc (Og (varsOf k).length)):=((iq _ _).alloc (gu _) _).alloc (by omega) _;generalize (w.alloc (Og (varsOf k).length)).alloc (Og (varsOf k).length)=W at *;have b3:Below W.heap.size W (W.alloc (.cells #[.pointer (some ⟨pb,0,none⟩),.int .i64 0,.slice (some ⟨hb,0,none⟩) (varsOf k).length (varsOf k).length,.slice (some ⟨gb,0,none⟩) (varsOf k).length (varsOf k).length] 179)).drew:=((iq _ _).alloc (gu _) _).drew;have k3:jd (W.alloc (.cells #[.pointer (some ⟨pb,0,none⟩),.int .i64 0,.slice (some ⟨hb,0,none⟩) (varsOf k).length (varsOf k).length,.slice (some ⟨gb,0,none⟩) (varsOf k).length (varsOf k).length] 179)).drew W.heap.size 179 #[.pointer (some ⟨pb,0,none⟩),.int .i64 0,.slice (some ⟨hb,0,none⟩) (varsOf k).length (varsOf k).length,.slice (some ⟨gb,0,none⟩) (varsOf k).length (varsOf k).length]:=oh W _ _;have bw3:=bw.trans (b3.mono bw.size);have hlt:=k3.lt;rw[s2] at k3 hlt;refine⟨hE,⟨bw3,by show w.heap.size+3<=_;omega,jg _,k3,?_,List.replicate (varsOf k).length 0,by simp[Vr],?_,?_⟩,bw3⟩
 ·rw[show aan (Vr Wm w ks k pb mb cb co a1 a2 a3 a4 a5 a6 iv ins known (w.heap.size+1+1) hb gb (w.heap.size+3)).k []=madeCells #[.int .i64 0] (varsOf k).length from av7 k]
  exact hrb.below b3 hrb.lt
 ·intro x hx
  have:=List.eq_of_mem_replicate hx;omega
 ·rw[←atd]
  exact hrg.below b3 hrg.lt
def av8 (Wm:cu) (ks:List dw) (k:dw) (pb mb cb co:Nat) (a1 a2 a3 a4 a5 a6 iv fv:Value) (ins:List (Nat×Nat)) (known:List Int) (room:Int) (w:cu) (R:Bool) (o:Option (PL×List lu)) (e:Ending) (w':cu):Prop :=
 e=.returned (.bool R)/\But [pb] w w'/\(R=true->∃t bv nodes bb hb gb lo,o=some (t,[])/\jd w' pb 127 #[.pointer (some ⟨cb,co,none⟩),.map (some mb),iv,fv,bv,.int .i64 (t.cost (xg k.ay known) 0),.int .i64 room]/\(jc 1 16 RIf 0 w' bv nodes/\∀b,bv.ownBlock=some b->New w.heap.size w'.heap.size b)/\qp (Vr Wm w ks k pb mb cb co a1 a2 a3 a4 a5 a6 iv ins known bb hb gb lo) (New w.heap.size w'.heap.size) w' t nodes)
theorem azm (Wm:cu) (ks:List dw) (k:dw) (pb mb cb co:Nat) (a1 a2 a3 a4 a5 a6 iv fv:Value) (ins:List (Nat×Nat)) (known:List Int) (room:Int) (w:cu) (h:PE Wm w ks k pb mb cb co a1 a2 a3 a4 a5 a6 iv ins known) (hkb:∀x,x∈known->0<=x/\x<=400001)
  (hpl:jd w pb 127 #[.pointer (some ⟨cb,co,none⟩),.map (some mb),iv,fv,.slice none 0 0,.int .i64 0,.int .i64 room]) (hcp:cb≠pb) :
  Calls Tryz.prog 128 #[.pointer (some ⟨pb,0,none⟩)] w (av8 Wm ks k pb mb cb co a1 a2 a3 a4 a5 a6 iv fv ins known room w (decide (k.body.length<=30000)&&Vs ks k known) (Dv ks k (k.body.length+1) k.body [] 0)):=by
 have p0:=h.p0;have p1:=h.p1;have lp:=hpl.lt;have hcls:=h.cls.stays h.old;obtain⟨ba,bc,hba⟩:=hcls.body.shape;have hbl:=hcls.body.Ob;have c6:=hcls.c6;rw[hba] at c6;have lc:=hcls.lt;clear hcls;clear hba;have hvl:=h.vl;have HP:=ak h;have Fa:=ak hpl
 by_cases h3:k.body.length<=30000
 case neg =>
  have e1:decide (30000<(k.body.length:Int))=true:=jf (by omega);rw[iy h3,Aw];clear h hpl hkb HP Fa h3;go_enter Tryz.func128,Tryz.ntmps128;go_wp2;go_ret;exact⟨rfl,But.refl _ _,fun h=>by cases h⟩
 have e1:decide (30000<(k.body.length:Int))=false:=iy (by omega);rw[jf h3,Ak];have hml:∀ty,(Builtin.len_ #[33] ty #[.map (some mb)]).run Tryz.prog w.drew=.ok (.int .i64 ((varsOf k).length:Int)) w.drew:=fun ty=>Jk.len (w:=w.drew) (h.map.block rfl) Tryz.underlying33 ty
 have hA:Below w.heap.size w (w.alloc (Og (varsOf k).length)).drew:=((iq _ _).alloc (gu _) _).drew;have a7q:∀ty,(Builtin.len_ #[33] ty #[.map (some mb)]).run Tryz.prog (w.alloc (Og (varsOf k).length)).drew=.ok (.int .i64 ((varsOf k).length:Int)) (w.alloc (Og (varsOf k).length)).drew:=fun ty=>(h.map.below hA h.map.lt).len Tryz.underlying33 ty
 have q1:(w.alloc (Og (varsOf k).length)).drew.cell? ⟨pb,1,none⟩=some (.map (some mb)):=(hA.cell (p:=⟨pb,1,none⟩) lp).trans p1
 have hmk:∀w:cu,(Instr.makeSlice 47 (.int .i64 ((varsOf k).length:Int)) (.int .i64 ((varsOf k).length:Int))).run Tryz.prog w=.ok (.slice (some ⟨w.heap.size,0,none⟩) (varsOf k).length (varsOf k).length) (w.alloc (Og (varsOf k).length)):=fun w=>by
  have h9:=aaq (P:=Tryz.prog) 47 3 (.int .i64 0) 1 8 Tryz.underlying47 (by kernel_rfl) (varsOf k).length (by omega) (by omega) w;rw[jr] at h9;exact h9
 have HKK:Hid (∀s,0<=xg k.ay known s/\xg k.ay known s<=400001):=fun s=>Ye known 400001 (by omega) hkb _
 have HKB:=ak hkb;have HST:=ak (fun hb gb hh=>azl h h3 hb gb hh)
 have Pz:Hid (Vs ks k known=match Dv ks k (k.body.length+1) k.body [] 0 with
  | some (t,[])=>decide (t.cost (xg k.ay known) 0<=400000)
  | _=>false):=rfl
 have HLO:Hid (∀X:BD,X.ks=ks->X.k=k->X.known=known->BE X->∀w3,BS X w3 [] 0->Calls Tryz.prog 151 #[.pointer (some ⟨X.bb,0,none⟩),.int .i64 0] w3 (afw X [] w3 (Dv ks k (k.body.length+1) k.body [] 0))):=fun X e1 e2 e3 hE w3 hS=>by
  have h9:=a4d X hE (by rw[e3];exact hkb) (k.body.length+1) [] 0 0 w3 hS (by rw[e2];omega) (by omega) (by omega) (by simp);rw[e1,e2] at h9;exact h9
 clear hA h hpl HP hkb;generalize Vs ks k known=R at *;generalize Dv ks k (k.body.length+1) k.body [] 0=o at *;generalize hz:Og (varsOf k).length=Z at *;go_enter Tryz.func128,Tryz.ntmps128;go_wp2_with fail;go_region
 ·obtain⟨hE,hS,hbw⟩:=uh HST (w.heap.size) (w.heap.size+1) (Or.inl ⟨rfl,rfl⟩)
  have HL:Hid (Calls Tryz.prog 151 #[.pointer (some ⟨w.heap.size+1+1,0,none⟩),.int .i64 0] _ (afw (Vr Wm w ks k pb mb cb co a1 a2 a3 a4 a5 a6 iv ins known (w.heap.size+1+1) (w.heap.size) (w.heap.size+1) (w.heap.size+3)) [] _ o)):=uh HLO (Vr Wm w ks k pb mb cb co a1 a2 a3 a4 a5 a6 iv ins known (w.heap.size+1+1) (w.heap.size) (w.heap.size+1) (w.heap.size+3)) rfl rfl rfl hE _ hS;have HE:=ak hE;have Bc:=ak hbw;clear hE hS hbw HST hml a7q q1 hmk;generalize (((w.alloc Z).alloc Z).alloc (.cells #[.pointer (some ⟨pb,0,none⟩),.int .i64 0,.slice (some ⟨w.heap.size,0,none⟩) (varsOf k).length (varsOf k).length,.slice (some ⟨w.heap.size+1,0,none⟩) (varsOf k).length (varsOf k).length] 179)).drew=w3 at *;have HPS:Hid (∀w4,Below w.heap.size w w4->jd w4 pb 127 #[.pointer (some ⟨cb,co,none⟩),.map (some mb),iv,fv,.slice none 0 0,.int .i64 0,.int .i64 room]):=fun w4 hb=>(uh Fa).below hb lp
  have HMO:Hid (∀t v nodes w4 P,jc 1 16 RIf 0 w4 v nodes->qp (Vr Wm w ks k pb mb cb co a1 a2 a3 a4 a5 a6 iv ins known (w.heap.size+1+1) (w.heap.size) (w.heap.size+1) (w.heap.size+3)) P w4 t nodes->Calls Tryz.prog 152 #[v] w4 (Ans (.int .i64 (t.cost (xg k.ay known) 0)) w4)):=fun t v nodes w4 P h1 h2=>aco (Vr Wm w ks k pb mb cb co a1 a2 a3 a4 a5 a6 iv ins known (w.heap.size+1+1) (w.heap.size) (w.heap.size+1) (w.heap.size+3)) P 0 t v nodes w4 h1 h2 (uh HKK)
  have HB3:Hid (Below w.heap.size w w3):=uh Bc;clear Bc
  cases o with
  | none =>
   have e:R=false:=uh Pz;subst e;go_wp2_with fail;refine(uh HL).mono ?_;rintro e w4 ⟨rfl,hb4⟩;have an2:Below w.heap.size w w4:=hb4;have HM:=ak (uh HMO .nil (.slice none 0 0) [] w4 (fun _=>True) ⟨none,0,rfl,⟨by simp[Len],gu _⟩,by simp[Len],fun i hi=>absurd hi (yu _)⟩ rfl);have HB4:=ak an2;clear hb4 an2;go_wp2_with fail;refine(uh HM).mono ?_;rintro e w5 ⟨rfl,hb5⟩;have Vt:Below w.heap.size w w5:=(uh HB4).trans (hb5.mono (uh HB4).size);have hk5:=uh HPS w5 Vt;have x4:=hk5.cell (i:=4) (v:=.slice none 0 0) rfl;have x5:=hk5.cell (i:=5) (v:=.int .i64 0) rfl;have z4:=hk5.free 4;have z5:=hk5.free 5;have Gx:=ak Vt;clear hb5 Vt hk5 HPS;simp only[PL.cost];go_wp2_with fail;go_quiet ((fail));go_wp2;go_ret;exact⟨rfl,(Zy (uh Gx) pb _ _).trans (But.of_below (vk _ _)),fun h=>by cases h⟩
  | some qq =>
   obtain⟨t,rest⟩:=qq;go_wp2_with fail;refine(uh HL).mono ?_;rintro e w4 ⟨v,nodes,rfl,⟨hv,hvb⟩,hn,hbs,hbt,hrest⟩;have HM:=ak (uh HMO t v nodes w4 _ hv hn);have HV:=ak hv;have HN:=ak hn;have hb4:Below w.heap.size w w4:=hbs.old;have HB4:=ak hb4;have Rw:=ak hbs;obtain⟨va,vc,rfl⟩:=hv.shape;have HSZ:Hid (w3.heap.size<=w4.heap.size):=hbt.size;have HVB:=ak hvb
   have HRL:Hid (rest.length<=k.body.length):=by
    have h9:rest.length=(k.body.drop (k.body.length-rest.length)).length:=ni List.length hrest;rw[Cc] at h9;refine ak ?_;omega
   clear hv hvb hn hbs hbt hb4 hrest;go_wp2_with fail;refine(uh HM).mono ?_;rintro e w5 ⟨rfl,hb5⟩;have Vt:Below w.heap.size w w5:=(uh HB4).trans (hb5.mono (uh HB4).size);have hk5:=uh HPS w5 Vt;have x4:=hk5.cell (i:=4) (v:=.slice none 0 0) rfl;have x5:=hk5.cell (i:=5) (v:=.int .i64 0) rfl;have z4:=hk5.free 4;have z5:=hk5.free 5;have Gx:=ak Vt;have azn:=ak hb5;have HK5:=ak hk5;have hcc:=Zw _ (uh HKK) t 0 (by omega) (by omega);have hS5:=(uh Rw).stays hb5;have hC5:=hS5.cells (uh HE);have y1:w5.cell? ⟨w.heap.size+1+1,1,none⟩=some (.int .i64 ((k.body.length-rest.length:Nat):Int)):=hC5.b1;have y6:w5.cell? ⟨cb,co+6,none⟩=some (.slice ba k.body.length bc):=by rw[Vt.cell (p:=⟨cb,_,none⟩) lc];exact c6
   have HRT:Hid (R=true->∃t' bv nodes' bb hb gb lo,some (t,rest)=some (t',[])/\jd ((w5.setCell ⟨pb,4,none⟩ (.slice va nodes.length vc)).setCell ⟨pb,5,none⟩ (.int .i64 (t.cost (xg k.ay known) 0))) pb 127 #[.pointer (some ⟨cb,co,none⟩),.map (some mb),iv,fv,bv,.int .i64 (t'.cost (xg k.ay known) 0),.int .i64 room]/\(jc 1 16 RIf 0 ((w5.setCell ⟨pb,4,none⟩ (.slice va nodes.length vc)).setCell ⟨pb,5,none⟩ (.int .i64 (t.cost (xg k.ay known) 0))) bv nodes'/\∀b,bv.ownBlock=some b->New w.heap.size ((w5.setCell ⟨pb,4,none⟩ (.slice va nodes.length vc)).setCell ⟨pb,5,none⟩ (.int .i64 (t.cost (xg k.ay known) 0))).heap.size b)/\qp (Vr Wm w ks k pb mb cb co a1 a2 a3 a4 a5 a6 iv ins known bb hb gb lo) (New w.heap.size ((w5.setCell ⟨pb,4,none⟩ (.slice va nodes.length vc)).setCell ⟨pb,5,none⟩ (.int .i64 (t.cost (xg k.ay known) 0))).heap.size) ((w5.setCell ⟨pb,4,none⟩ (.slice va nodes.length vc)).setCell ⟨pb,5,none⟩ (.int .i64 (t.cost (xg k.ay known) 0))) t' nodes'):=fun hr=>by
    have hrest:rest=[]:=by
     cases rest with
     | nil=>rfl
     | cons r rs=>rw[hr] at Pz;have h9:true=false:=uh Pz;cases h9
    have hk:Gi (New w3.heap.size w4.heap.size) w4 ((w5.setCell ⟨pb,4,none⟩ (.slice va nodes.length vc)).setCell ⟨pb,5,none⟩ (.int .i64 (t.cost (xg k.ay known) 0))):=(Gi.of_below (uh azn)).trans ((Zy (iq _ w5) pb _ _).zo (fun q hq h=>by rw[yt] at hq;subst hq;have:=h.1;have:=(uh HB3).size;omega));refine⟨t,.slice va nodes.length vc,nodes,w.heap.size+1+1,w.heap.size,w.heap.size+1,w.heap.size+3,by rw[hrest],?_,⟨(uh HV).zo Yf hk (uh HVB),fun b hb=>⟨ku (uh HB3).size (uh HVB b hb).1,qg (uh HVB b hb).2 hk.1⟩⟩,qp.mono (fun b h=>⟨ku (uh HB3).size h.1,qg h.2 hk.1⟩) _ _ (qp.zo hk _ _ (uh HN))⟩;have h9:=((uh HK5).set 4 (.slice va nodes.length vc)).set 5 (.int .i64 (t.cost (xg k.ay known) 0));exact h9
   have L6:Hid (But [pb] w ((w5.setCell ⟨pb,4,none⟩ (.slice va nodes.length vc)).setCell ⟨pb,5,none⟩ (.int .i64 (t.cost (xg k.ay known) 0)))):=Zy (uh Gx) pb _ _;have hK6:jd ((w5.setCell ⟨pb,4,none⟩ (.slice va nodes.length vc)).setCell ⟨pb,5,none⟩ (.int .i64 (t.cost (xg k.ay known) 0))) pb 127 #[.pointer (some ⟨cb,co,none⟩),.map (some mb),iv,fv,.slice va nodes.length vc,.int .i64 (t.cost (xg k.ay known) 0),.int .i64 room]:=((uh HK5).set 4 (.slice va nodes.length vc)).set 5 (.int .i64 (t.cost (xg k.ay known) 0));have f0:=hK6.cell (i:=0) (v:=.pointer (some ⟨cb,co,none⟩)) rfl;have f5:=hK6.cell (i:=5) (v:=.int .i64 (t.cost (xg k.ay known) 0)) rfl
   have f1:((w5.setCell ⟨pb,4,none⟩ (.slice va nodes.length vc)).setCell ⟨pb,5,none⟩ (.int .i64 (t.cost (xg k.ay known) 0))).cell? ⟨w.heap.size+1+1,1,none⟩=some (.int .i64 ((k.body.length-rest.length:Nat):Int)):=by
    rw[←y1];exact World.cell?_of_block (w:=w5) (((zf _ _ _ _ (by show w.heap.size+1+1≠pb;omega)).trans (zf _ _ _ _ (by show w.heap.size+1+1≠pb;omega))))
   have f6:((w5.setCell ⟨pb,4,none⟩ (.slice va nodes.length vc)).setCell ⟨pb,5,none⟩ (.int .i64 (t.cost (xg k.ay known) 0))).cell? ⟨cb,co+6,none⟩=some (.slice ba k.body.length bc):=by
    rw[←y6];exact World.cell?_of_block (w:=w5) (((zf _ _ _ _ (by show cb≠pb;exact hcp)).trans (zf _ _ _ _ (by show cb≠pb;exact hcp))))
   clear y1 y6 hS5 hC5 hK6 hk5 hb5 Vt HPS;generalize an3:t.cost (xg k.ay known) 0=cst at *;have Ti:=ak an3;clear an3;go_wp2_with fail;generalize (w5.setCell ⟨pb,4,none⟩ (.slice va nodes.length vc)).setCell ⟨pb,5,none⟩ (.int .i64 cst)=w6 at *;clear x4 x5 z4 z5
   cases rest with
   | nil =>
    have e7:((k.body.length:Int)==(k.body.length:Int))=true:=by simp
    rw[Ar,Nat.sub_zero] at f1
    by_cases hc4:cst<=400000
    ·have e8:decide (cst<=400000)=true:=jf hc4
     have HF:Hid (R=true):=(uh Pz).trans (by show decide (t.cost (xg k.ay known) 0<=400000)=true;rw[uh Ti];exact e8);go_quiet ((fail));go_wp2;go_ret;rw[uh HF];refine⟨rfl,(uh L6).trans (But.of_below (vk _ _)),fun _=>?_⟩;obtain⟨t',bv,nodes',bb,hb,gb,lo,g1,g2,g3,g4⟩:=uh HRT (uh HF);exact⟨t',bv,nodes',bb,hb,gb,lo,g1,g2,g3,qp.zo (Gi.of_below (vk w6 nq)) _ _ g4⟩
    ·have e8:decide (cst<=400000)=false:=iy hc4
     have HF:Hid (R=false):=(uh Pz).trans (by show decide (t.cost (xg k.ay known) 0<=400000)=false;rw[uh Ti];exact e8);go_quiet ((fail));go_wp2;go_ret;rw[uh HF];exact⟨rfl,(uh L6).trans (But.of_below (vk _ _)),fun h=>by cases h⟩
   | cons r rs =>
    have azo:=(uh Rw).nxl
    have e7:(((k.body.length-(r::rs).length:Nat):Int)==(k.body.length:Int))=false:=by
     rw[su,ug];have:=uh HRL;rw[ug] at this;omega
    have e7n:((k.body.length-(r::rs).length)==k.body.length)=false:=by
     rw[su,ug];have:=uh HRL;rw[ug] at this;omega
    have HF:Hid (R=false):=uh Pz;generalize k.body.length-(r::rs).length=nn at *;clear azo;go_quiet ((fail));go_wp2;go_ret;rw[uh HF];exact⟨rfl,(uh L6).trans (But.of_below (vk _ _)),fun h=>by cases h⟩
 ·obtain⟨hE,hS,hbw⟩:=uh HST (w.heap.size+1) (w.heap.size) (Or.inr ⟨rfl,rfl⟩)
  have HL:Hid (Calls Tryz.prog 151 #[.pointer (some ⟨w.heap.size+1+1,0,none⟩),.int .i64 0] _ (afw (Vr Wm w ks k pb mb cb co a1 a2 a3 a4 a5 a6 iv ins known (w.heap.size+1+1) (w.heap.size+1) (w.heap.size) (w.heap.size+3)) [] _ o)):=uh HLO (Vr Wm w ks k pb mb cb co a1 a2 a3 a4 a5 a6 iv ins known (w.heap.size+1+1) (w.heap.size+1) (w.heap.size) (w.heap.size+3)) rfl rfl rfl hE _ hS;have HE:=ak hE;have Bc:=ak hbw;clear hE hS hbw HST hml a7q q1 hmk;generalize (((w.alloc Z).alloc Z).alloc (.cells #[.pointer (some ⟨pb,0,none⟩),.int .i64 0,.slice (some ⟨w.heap.size+1,0,none⟩) (varsOf k).length (varsOf k).length,.slice (some ⟨w.heap.size,0,none⟩) (varsOf k).length (varsOf k).length] 179)).drew=w3 at *;have HPS:Hid (∀w4,Below w.heap.size w w4->jd w4 pb 127 #[.pointer (some ⟨cb,co,none⟩),.map (some mb),iv,fv,.slice none 0 0,.int .i64 0,.int .i64 room]):=fun w4 hb=>(uh Fa).below hb lp
  have HMO:Hid (∀t v nodes w4 P,jc 1 16 RIf 0 w4 v nodes->qp (Vr Wm w ks k pb mb cb co a1 a2 a3 a4 a5 a6 iv ins known (w.heap.size+1+1) (w.heap.size+1) (w.heap.size) (w.heap.size+3)) P w4 t nodes->Calls Tryz.prog 152 #[v] w4 (Ans (.int .i64 (t.cost (xg k.ay known) 0)) w4)):=fun t v nodes w4 P h1 h2=>aco (Vr Wm w ks k pb mb cb co a1 a2 a3 a4 a5 a6 iv ins known (w.heap.size+1+1) (w.heap.size+1) (w.heap.size) (w.heap.size+3)) P 0 t v nodes w4 h1 h2 (uh HKK)
  have HB3:Hid (Below w.heap.size w w3):=uh Bc;clear Bc
  cases o with
  | none =>
   have e:R=false:=uh Pz;subst e;go_wp2_with fail;refine(uh HL).mono ?_;rintro e w4 ⟨rfl,hb4⟩;have an2:Below w.heap.size w w4:=hb4;have HM:=ak (uh HMO .nil (.slice none 0 0) [] w4 (fun _=>True) ⟨none,0,rfl,⟨by simp[Len],gu _⟩,by simp[Len],fun i hi=>absurd hi (yu _)⟩ rfl);have HB4:=ak an2;clear hb4 an2;go_wp2_with fail;refine(uh HM).mono ?_;rintro e w5 ⟨rfl,hb5⟩;have Vt:Below w.heap.size w w5:=(uh HB4).trans (hb5.mono (uh HB4).size);have hk5:=uh HPS w5 Vt;have x4:=hk5.cell (i:=4) (v:=.slice none 0 0) rfl;have x5:=hk5.cell (i:=5) (v:=.int .i64 0) rfl;have z4:=hk5.free 4;have z5:=hk5.free 5;have Gx:=ak Vt;clear hb5 Vt hk5 HPS;simp only[PL.cost];go_wp2_with fail;go_quiet ((fail));go_wp2;go_ret;exact⟨rfl,(Zy (uh Gx) pb _ _).trans (But.of_below (vk _ _)),fun h=>by cases h⟩
  | some qq =>
   obtain⟨t,rest⟩:=qq;go_wp2_with fail;refine(uh HL).mono ?_;rintro e w4 ⟨v,nodes,rfl,⟨hv,hvb⟩,hn,hbs,hbt,hrest⟩;have HM:=ak (uh HMO t v nodes w4 _ hv hn);have HV:=ak hv;have HN:=ak hn;have hb4:Below w.heap.size w w4:=hbs.old;have HB4:=ak hb4;have Rw:=ak hbs;obtain⟨va,vc,rfl⟩:=hv.shape;have HSZ:Hid (w3.heap.size<=w4.heap.size):=hbt.size;have HVB:=ak hvb
   have HRL:Hid (rest.length<=k.body.length):=by
    have h9:rest.length=(k.body.drop (k.body.length-rest.length)).length:=ni List.length hrest;rw[Cc] at h9;refine ak ?_;omega
   clear hv hvb hn hbs hbt hb4 hrest;go_wp2_with fail;refine(uh HM).mono ?_;rintro e w5 ⟨rfl,hb5⟩;have Vt:Below w.heap.size w w5:=(uh HB4).trans (hb5.mono (uh HB4).size);have hk5:=uh HPS w5 Vt;have x4:=hk5.cell (i:=4) (v:=.slice none 0 0) rfl;have x5:=hk5.cell (i:=5) (v:=.int .i64 0) rfl;have z4:=hk5.free 4;have z5:=hk5.free 5;have Gx:=ak Vt;have azn:=ak hb5;have HK5:=ak hk5;have hcc:=Zw _ (uh HKK) t 0 (by omega) (by omega);have hS5:=(uh Rw).stays hb5;have hC5:=hS5.cells (uh HE);have y1:w5.cell? ⟨w.heap.size+1+1,1,none⟩=some (.int .i64 ((k.body.length-rest.length:Nat):Int)):=hC5.b1;have y6:w5.cell? ⟨cb,co+6,none⟩=some (.slice ba k.body.length bc):=by rw[Vt.cell (p:=⟨cb,_,none⟩) lc];exact c6
   have HRT:Hid (R=true->∃t' bv nodes' bb hb gb lo,some (t,rest)=some (t',[])/\jd ((w5.setCell ⟨pb,4,none⟩ (.slice va nodes.length vc)).setCell ⟨pb,5,none⟩ (.int .i64 (t.cost (xg k.ay known) 0))) pb 127 #[.pointer (some ⟨cb,co,none⟩),.map (some mb),iv,fv,bv,.int .i64 (t'.cost (xg k.ay known) 0),.int .i64 room]/\(jc 1 16 RIf 0 ((w5.setCell ⟨pb,4,none⟩ (.slice va nodes.length vc)).setCell ⟨pb,5,none⟩ (.int .i64 (t.cost (xg k.ay known) 0))) bv nodes'/\∀b,bv.ownBlock=some b->New w.heap.size ((w5.setCell ⟨pb,4,none⟩ (.slice va nodes.length vc)).setCell ⟨pb,5,none⟩ (.int .i64 (t.cost (xg k.ay known) 0))).heap.size b)/\qp (Vr Wm w ks k pb mb cb co a1 a2 a3 a4 a5 a6 iv ins known bb hb gb lo) (New w.heap.size ((w5.setCell ⟨pb,4,none⟩ (.slice va nodes.length vc)).setCell ⟨pb,5,none⟩ (.int .i64 (t.cost (xg k.ay known) 0))).heap.size) ((w5.setCell ⟨pb,4,none⟩ (.slice va nodes.length vc)).setCell ⟨pb,5,none⟩ (.int .i64 (t.cost (xg k.ay known) 0))) t' nodes'):=fun hr=>by
    have hrest:rest=[]:=by
     cases rest with
     | nil=>rfl
     | cons r rs=>rw[hr] at Pz;have h9:true=false:=uh Pz;cases h9
    have hk:Gi (New w3.heap.size w4.heap.size) w4 ((w5.setCell ⟨pb,4,none⟩ (.slice va nodes.length vc)).setCell ⟨pb,5,none⟩ (.int .i64 (t.cost (xg k.ay known) 0))):=(Gi.of_below (uh azn)).trans ((Zy (iq _ w5) pb _ _).zo (fun q hq h=>by rw[yt] at hq;subst hq;have:=h.1;have:=(uh HB3).size;omega));refine⟨t,.slice va nodes.length vc,nodes,w.heap.size+1+1,w.heap.size+1,w.heap.size,w.heap.size+3,by rw[hrest],?_,⟨(uh HV).zo Yf hk (uh HVB),fun b hb=>⟨ku (uh HB3).size (uh HVB b hb).1,qg (uh HVB b hb).2 hk.1⟩⟩,qp.mono (fun b h=>⟨ku (uh HB3).size h.1,qg h.2 hk.1⟩) _ _ (qp.zo hk _ _ (uh HN))⟩;have h9:=((uh HK5).set 4 (.slice va nodes.length vc)).set 5 (.int .i64 (t.cost (xg k.ay known) 0));exact h9
   have L6:Hid (But [pb] w ((w5.setCell ⟨pb,4,none⟩ (.slice va nodes.length vc)).setCell ⟨pb,5,none⟩ (.int .i64 (t.cost (xg k.ay known) 0)))):=Zy (uh Gx) pb _ _;have hK6:jd ((w5.setCell ⟨pb,4,none⟩ (.slice va nodes.length vc)).setCell ⟨pb,5,none⟩ (.int .i64 (t.cost (xg k.ay known) 0))) pb 127 #[.pointer (some ⟨cb,co,none⟩),.map (some mb),iv,fv,.slice va nodes.length vc,.int .i64 (t.cost (xg k.ay known) 0),.int .i64 room]:=((uh HK5).set 4 (.slice va nodes.length vc)).set 5 (.int .i64 (t.cost (xg k.ay known) 0));have f0:=hK6.cell (i:=0) (v:=.pointer (some ⟨cb,co,none⟩)) rfl;have f5:=hK6.cell (i:=5) (v:=.int .i64 (t.cost (xg k.ay known) 0)) rfl
   have f1:((w5.setCell ⟨pb,4,none⟩ (.slice va nodes.length vc)).setCell ⟨pb,5,none⟩ (.int .i64 (t.cost (xg k.ay known) 0))).cell? ⟨w.heap.size+1+1,1,none⟩=some (.int .i64 ((k.body.length-rest.length:Nat):Int)):=by
    rw[←y1];exact World.cell?_of_block (w:=w5) (((zf _ _ _ _ (by show w.heap.size+1+1≠pb;omega)).trans (zf _ _ _ _ (by show w.heap.size+1+1≠pb;omega))))
   have f6:((w5.setCell ⟨pb,4,none⟩ (.slice va nodes.length vc)).setCell ⟨pb,5,none⟩ (.int .i64 (t.cost (xg k.ay known) 0))).cell? ⟨cb,co+6,none⟩=some (.slice ba k.body.length bc):=by
    rw[←y6];exact World.cell?_of_block (w:=w5) (((zf _ _ _ _ (by show cb≠pb;exact hcp)).trans (zf _ _ _ _ (by show cb≠pb;exact hcp))))
   clear y1 y6 hS5 hC5 hK6 hk5 hb5 Vt HPS;generalize an3:t.cost (xg k.ay known) 0=cst at *;have Ti:=ak an3;clear an3;go_wp2_with fail;generalize (w5.setCell ⟨pb,4,none⟩ (.slice va nodes.length vc)).setCell ⟨pb,5,none⟩ (.int .i64 cst)=w6 at *;clear x4 x5 z4 z5
   cases rest with
   | nil =>
    have e7:((k.body.length:Int)==(k.body.length:Int))=true:=by simp
    rw[Ar,Nat.sub_zero] at f1
    by_cases hc4:cst<=400000
    ·have e8:decide (cst<=400000)=true:=jf hc4
     have HF:Hid (R=true):=(uh Pz).trans (by show decide (t.cost (xg k.ay known) 0<=400000)=true;rw[uh Ti];exact e8);go_quiet ((fail));go_wp2;go_ret;rw[uh HF];refine⟨rfl,(uh L6).trans (But.of_below (vk _ _)),fun _=>?_⟩;obtain⟨t',bv,nodes',bb,hb,gb,lo,g1,g2,g3,g4⟩:=uh HRT (uh HF);exact⟨t',bv,nodes',bb,hb,gb,lo,g1,g2,g3,qp.zo (Gi.of_below (vk w6 nq)) _ _ g4⟩
    ·have e8:decide (cst<=400000)=false:=iy hc4
     have HF:Hid (R=false):=(uh Pz).trans (by show decide (t.cost (xg k.ay known) 0<=400000)=false;rw[uh Ti];exact e8);go_quiet ((fail));go_wp2;go_ret;rw[uh HF];exact⟨rfl,(uh L6).trans (But.of_below (vk _ _)),fun h=>by cases h⟩
   | cons r rs =>
    have azo:=(uh Rw).nxl
    have e7:(((k.body.length-(r::rs).length:Nat):Int)==(k.body.length:Int))=false:=by
     rw[su,ug];have:=uh HRL;rw[ug] at this;omega
    have e7n:((k.body.length-(r::rs).length)==k.body.length)=false:=by
     rw[su,ug];have:=uh HRL;rw[ug] at this;omega
    have HF:Hid (R=false):=uh Pz;generalize k.body.length-(r::rs).length=nn at *;clear azo;go_quiet ((fail));go_wp2;go_ret;rw[uh HF];exact⟨rfl,(uh L6).trans (But.of_below (vk _ _)),fun h=>by cases h⟩
def firstTo (fs:List (List Int)) (gq ay:List Int) (q:Nat):List Int:=gq++(ay.take q).flatMap (fun g=>fs.getD g.toNat [])
theorem Y3 (fs:List (List Int)) (gq ay:List Int):firstTo fs gq ay 0=gq:=by simp[firstTo]
theorem abp (fs:List (List Int)) (gq ay:List Int) (q:Nat) (hq:q<ay.length):firstTo fs gq ay (q+1)=firstTo fs gq ay q++fs.getD ay[q].toNat []:=by
 unfold firstTo;rw[Eu hq,List.flatMap_append,Gl];simp
def Qk (pl:List Nat) (fs:List (List Int)) (gq ay:List Int) (q:Nat):List (Nat×Nat):=(List.range q).map (fun j=>(pl.getD (ay.getD j 0).toNat 0,(firstTo fs gq ay j).length))
theorem ate (pl:List Nat) (fs:List (List Int)) (gq ay:List Int) (q:Nat):Qk pl fs gq ay (q+1)=Qk pl fs gq ay q++[(pl.getD (ay.getD q 0).toNat 0,(firstTo fs gq ay q).length)]:=by
 unfold Qk;rw[List.range_succ,Ig];rfl
theorem Yg (pl:List Nat) (fs:List (List Int)) (gq ay:List Int) (q:Nat):(Qk pl fs gq ay q).length=q:=by simp[Qk]
def Ea (rs ay:List Int):Nat->Int
 | 0=>0
 | q+1=>maxS (Ea rs ay q) (rs.getD (ay.getD q 0).toNat 0)
def O9 (fs:List (List Int)) (gq ay:List Int) (q:Nat):Bool:=match ay[q]? with
 | some g=>decide (0<=g/\g<(fs.length:Int))&&decide ((firstTo fs gq ay (q+1)).length<=20000)
 | none=>false
def ownB (fs:List (List Int)) (k:dw):Bool:=decide (k.gq.length<=1000/\k.ay.length<=1000)&&(k.gq.all Qq&&(List.range k.ay.length).all (O9 fs k.gq k.ay))
structure EA (W0:cu) (ev:Value) (pl:List Nat) (fs:List (List Int)) (rs:List Int):Prop where
 sl:jc 1 8 akh 0 W0 ev pl
 fl:fs.length=pl.length
 rl:rs.length=pl.length
 c3:∀i (h:i<pl.length) (h':i<fs.length),∃a c,W0.cell? ⟨pl[i],3,none⟩=some (.slice a fs[i].length c)/\jc 1 4 ac3 0 W0 (.slice a fs[i].length c) fs[i]/\fs[i].length<=20000
 c6:∀i (h:i<pl.length) (h':i<rs.length),W0.cell? ⟨pl[i],6,none⟩=some (.int .i64 rs[i])/\0<=rs[i]/\rs[i]<=1000000
def Jr (cb co mb:Nat) (iv fv bv:Value) (bound room:Int):Array Value:=#[.pointer (some ⟨cb,co,none⟩),.map (some mb),iv,fv,bv,.int .i64 bound,.int .i64 room]
def an4 (k:dw) (pb mb cb co:Nat) (pl:List Nat) (fs:List (List Int)) (rs:List Int) (w:cu) (R:Bool) (e:Ending) (w':cu):Prop :=
 e=.returned (.bool R)/\But [pb] w w'/\(R=true->∃iv g c,jd w' pb 127 (Jr cb co mb iv (.slice (some ⟨g,0,none⟩) (firstTo fs k.gq k.ay k.ay.length).length c) (.slice none 0 0) 0 (((varsOf k).length:Int)+Ea rs k.ay k.ay.length))/\jq Xk w' w.heap.size iv (Qk pl fs k.gq k.ay k.ay.length)/\jq W9 w' w.heap.size (.slice (some ⟨g,0,none⟩) (firstTo fs k.gq k.ay k.ay.length).length c) (firstTo fs k.gq k.ay k.ay.length))
theorem aq3 (rs ay:List Int) (h:∀x,x∈rs->0<=x/\x<=1000000) (q:Nat):0<=Ea rs ay q/\Ea rs ay q<=1000000:=by
 induction q with
 | zero=>simp[Ea]
 | succ q ih=>exact ag0 _ _ _ ih (Ye rs 1000000 (by omega) h _)
theorem ajg {P:Program} {α β:Type} {E:Fj P α} {F:Fj P β} {w:cu} {b1 b2:Nat} {v u:Value} {xs:List α} {ys:List β} (h1:jq E w b1 v xs) (h2:jq F w b2 u ys) (ht:E.T≠F.T) (b:Nat) (e1:v.ownBlock=some b):u.ownBlock≠some b:=fun e2=>by
 rcases h1.2 with ⟨rfl,_⟩|⟨g,cap,cur,rfl,_,hg,_⟩
 ·cases e1
 ·rcases h2.2 with ⟨rfl,_⟩|⟨g',cap',cur',rfl,_,hg',_⟩
  ·cases e2
  ·simp only[Value.ownBlock,uw] at e1 e2
   subst e1;subst e2;rw[hg] at hg';simp only[uw,Obj.cells.injEq] at hg';exact ht hg'.2.1
theorem jq.Tj {P:Program} {α:Type} {E:Fj P α} {w:cu} {b1 g:Nat} {v:Value} {xs:List α} {T:TypeId} {cs:Array Value} (h1:jq E w b1 v xs) (h2:jd w g T cs) (ht:E.T≠T):v.ownBlock≠some g:=fun e=>by
 rcases h1.2 with ⟨rfl,_⟩|⟨g',cap,cur,rfl,_,hg,_⟩
 ·cases e
 ·simp only[Value.ownBlock,uw] at e
  subst e;unfold jd at h2;rw[hg] at h2;simp only[uw,Obj.cells.injEq] at h2;exact ht h2.2.1
theorem jq.Ia {P:Program} {α:Type} {E:Fj P α} {w w':cu} {base:Nat} {v:Value} {xs:List α} (h:jq E w base v xs) (hb:∀b,v.ownBlock=some b->w'.heap[b]?=w.heap[b]?):jq E w' base v xs:=by
 obtain⟨h1,h2⟩:=h;refine⟨h1,?_⟩;rcases h2 with h2|⟨g,cap,cur,rfl,hg,hh,r⟩
 ·exact Or.inl h2
 ·exact Or.inr ⟨g,cap,cur,rfl,hg,(hb g rfl).trans hh,r⟩
theorem Iw {P:Program} {α:Type} (E:Fj P α) {R:Nat->cu->List Value->α->Prop} (hRf:∀w cs x,R 0 w cs x->cs=E.f x) (w:cu) {ops:Array Oper} {o:Oper} {a:Act} {K:Act->cu->Prop} {Q:Exit->Act->cu->Prop} {Er:Prop} (hgd:o.guard=none) (s x:Operand)
  (ho:o.op=.call { callee:=.builtin .append,args:=#[s,x],argTypes:=#[E.ST,E.ST] })
  (base g cap:Nat) (xs:List α) (hs:a.eval s=.slice (some ⟨g,0,none⟩) xs.length cap) (hown:jq E w base (.slice (some ⟨g,0,none⟩) xs.length cap) xs)
  (xv:Value) (hx:a.eval x=xv) (ys:List α) (hsl:jc E.sz E.uf R 0 w xv ys) (hb:(xs.length+ys.length)*E.uf<=140737488355328) (hbase:base<=w.heap.size)
  (h:∀g' cap' w',jq E w' base (.slice (some ⟨g',0,none⟩) (xs.length+ys.length) cap') (xs++ys)->w.grownBy w' (some g)->K (a.put o.dst (.slice (some ⟨g',0,none⟩) (xs.length+ys.length) cap')) w') :
  if Region.wanted o (yielded ops a.tmps)=true then Oper.wp P o a w K Q else Er:=by
 have hwant:Region.wanted o (yielded ops a.tmps)=true:=by simp[Region.wanted,hgd]
 rw[gy hwant];obtain⟨i,hi,hz0,hz1,hz2⟩:=info_parts E.hi;obtain⟨ax,cx,rfl,_,hn,hel⟩:=hsl;have hlen:xs.length+ys.length<=140737488355328:=ku (Xa _ E.hby) hb
 have hcap:xs.length<=cap:=by
  rcases hown.shape with ⟨hh,_⟩|⟨g1,cap1,hv,_,_,h2⟩
  ·cases hh
  ·simp only[qw] at hv
   obtain⟨_,_,rfl⟩:=hv;exact h2
 cases ax with
 | none =>
  have hy:ys=[]:=by
   cases ys with
   | nil=>rfl
   | cons y ys =>
    obtain⟨b,o,cs,Fe,_⟩:=hel 0 (by simp)
    cases Fe
  subst hy;have hrun:=run_append_room_src (P:=P) w E.ST E.ST o.type E.T i E.hT hi g 0 xs.length cap (.slice none 0 cx) 0 [] (Src.ofNil w E.hT cx) (by omega) (fun j hj=>by simp at hj) (fun j hj=>by simp at hj);unfold Oper.wp execOp;simp only[ho,resolve,invoke,builtin,Sem.run_bind,Sem.run_pure,Result.andThen_ok,List.map_toArray,Ai,Fv,hs,hx,hrun,Ar];have hsc:w.setCells g (0+xs.length*i.size) []=w:=by simp[World.setCells]
  rw[hsc];have:=h g cap w (by simpa using hown) (World.grownBy.refl w _);simp only[Ar,ji] at this ⊢;exact this
 | some ad =>
  have hcellA:∀j u,(ys.flatMap E.f)[j]?=some u->w.cell? (ad.add j)=some u:=fun j u hu=>by
   have hj:j<ys.length*E.sz:=by
    have:=(List.getElem?_eq_some_iff.1 hu).1;rwa[Rl E.f E.sz E.hf] at this
   have hsz:=E.hsz;have hdiv:j / E.sz<ys.length:=Nat.div_lt_of_lt_mul (by rw[Nat.mul_comm];exact hj);have hmod:j % E.sz<E.sz:=Nat.mod_lt _ hsz;have hjj:j / E.sz*E.sz+j % E.sz=j:=by rw[Nat.mul_comm];exact Nat.div_add_mod j E.sz
   obtain⟨b,oo,cs,Fe,_,_,hl,hc,hR⟩:=hel (j / E.sz) hdiv;simp only[uw] at Fe;subst Fe;have ecs:=hRf _ _ _ hR;subst ecs;have hg:=flat_get E.f E.sz E.hf ys (j / E.sz) hdiv (j % E.sz) hmod;rw[hjj,hu] at hg;obtain⟨hjl,hju⟩:=List.getElem?_eq_some_iff.1 hg.symm;have hcc:=hc (j % E.sz) hjl;rw[hju] at hcc;rw[Addr.add_lit,←hcc];congr 2;omega
  refine wp_append_own w s x E.ST ho base E.T i _ E.sz E.uf E.hT hi hz0 hz1 hz2 E.hz E.hsz _ xs.length (xs.flatMap E.f) hs hown ad ys.length cx (ys.flatMap E.f) hx (Rl E.f E.sz E.hf ys) hcellA (fun u hu=>?_) (by simp[maxLen];omega) hb hbase ?_
  ·obtain⟨y,_,hy⟩:=List.mem_flatMap.1 hu
   exact E.h1 y u hy
  ·intro v' w' h1 h2 h3
   obtain⟨hl,hh⟩:=h1;rcases hh with ⟨rfl,_⟩|⟨g',cap',cur,rfl,hr⟩
   ·have:=h3.1 rfl
    cases this.1
   ·refine h g' cap' w' ⟨?_,Or.inr ⟨g',cap',cur,by rw[jh],?_⟩⟩ h2
    ·rw[jh,List.flatMap_append]
     exact hl
    ·rw[jh,List.flatMap_append]
     exact hr
def F5:Fj Tryz.prog jw where
 T:=54
 ST:=46
 sz:=2
 uf:=24
 f:=fun t=>[.string t.name,.int .i64 t.type]
 z:=.agg #[.string ByteArray.empty,.int .i64 0]
 hT:=Tryz.underlying46
 hi:=by kernel_rfl
 hz:=rfl
 hf:=fun _=>rfl
 h1:=fun c u hu=>by
  simp only[qj,xq,xu] at hu;rcases hu with rfl|rfl<;>rfl
 hsz:=by decide
 hby:=by decide
theorem aqw:∀(w:cu) (cs:List Value) (x:jw),Oq 0 w cs x->cs=F5.f x:=fun _ _ _ h=>h.1
end Go.Proofs.YtfeejeflmcapoaaGreatDoor
