import Derived.Test.YtfeejeflmcapoaaGreatDoorPS3
import Derived.Test.YtfeejeflmcapoaaGreatDoorMI20
import Derived.Deep.RegionHeld3
import Derived.Deep.QuietTactic
import Derived.BigQuiet
import Derived.Test.YtfeejeflmcapoaaGreatDoorRS6
set_option linter.unusedSimpArgs false
set_option linter.unusedVariables false
set_option maxHeartbeats 8000000
set_option maxRecDepth 1000000
namespace Go.Proofs.YtfeejeflmcapoaaGreatDoor
open Go.RowKit
theorem Mc.bb6 {W4:cu} {sb:Nat} {at_:Int} (hb:jd W4 sb 60 #[.int .i64 3,.string ⟨#[]⟩,.int .i64 at_,.slice none 0 0,.slice none 0 0,.slice none 0 0]):Mc W4 sb at_ (.slice none 0 0) [] [] (.slice none 0 0) (.slice none 0 0) [] W4 :=
 ⟨hb,yj.nil _ _ _ _,jq.nil _ _,But.refl _ _⟩
section
variable {W4:cu} {sb:Nat} {at_:Int} {ov:Value} {args:List (List l9)} {au:List dh} {av:Value} {abs:List Nat} {wr:cu}
theorem Mc.out {w9:cu} {p:dh} (h:Mc W4 sb at_ ov args au av ov abs wr) (hsb:sb<W4.heap.size) (Qe:Below wr.heap.size wr w9) (hol:au.length<=2000000) :
  ∃va n2 vc w5,(Builtin.append_ #[40,40] 40 #[ov,.slice (some ⟨w9.heap.size,0,none⟩) 1 1]).run Tryz.prog (w9.alloc (.cells #[.string p] 9))=.ok (.slice va n2 vc) w5/\(w5.cell? ⟨sb,3,none⟩=some ov/\w5.frozen? ⟨sb,3,none⟩=false/\sb<w5.heap.size)/\Mc W4 sb at_ (.slice va n2 vc) args (au++[p]) av (.slice va n2 vc) abs (w5.setCell ⟨sb,3,none⟩ (.slice va n2 vc)):=by
 have hA:Below w9.heap.size w9 (w9.alloc (.cells #[.string p] 9)):=(iq _ _).alloc (gu _) _;have h9:=h.below Qe;have hcA:=h9.below hA
 obtain⟨v',w5,hrun,yh,hg5,F9⟩:=Dn ny (w9.alloc (.cells #[.string p] 9)) 40 W4.heap.size ov au hcA.cur w9.heap.size p (fun j u hu=>by
  exact(oh w9 #[.string p] 9).cell (i:=j) (v:=u) (by simpa[ny] using hu)) (by show (au.length+1)*16<=_;omega) hcA.but.size
 have h5:=h9.arg hA hg5 yh;obtain⟨va,vc,rfl⟩:=yh.slice;have hset:∀b,b≠sb->(w5.setCell ⟨sb,3,none⟩ (.slice va (au++[p]).length vc)).heap[b]?=w5.heap[b]?:=fun b hb=>zf _ _ _ _ (fun e=>hb e)
 have hz:(w5.setCell ⟨sb,3,none⟩ (.slice va (au++[p]).length vc)).heap.size=w5.heap.size:=by simp[World.setCell]
 refine⟨va,_,vc,w5,hrun,⟨h5.box.cell (i:=3) (v:=ov) rfl,h5.box.free 3,h5.box.lt⟩,⟨h5.box.set 3 _,h5.row.fr Yh (fun b hb=>hset b (by have:=(h5.row.nd.2 b hb).1;omega)) (by omega),h5.cur.Ia (fun b hb=>hset b (by have:=h5.cur.block b hb;omega)),⟨h5.but.os,h5.but.tape,h5.but.output,by rw[hz];exact h5.but.size,fun b hb hs=>(hset b (by simpa using hs)).trans (h5.but.block b hb hs)⟩⟩⟩
theorem Mc.bb7 (h:Mc W4 sb at_ ov args au av ov abs wr) (hos:∀x,x∈au->okS x) (hol:au.length<=2000000) (hat:I64 at_):Y4 wr [.int .i64 3,.string ⟨#[]⟩,.int .i64 at_,ov,.slice none 0 0,av] ⟨3,⟨#[]⟩,at_,au,[],args⟩ (zq ov++abs)/\(zq ov++abs).Nodup/\∀b,b∈zq ov++abs->W4.heap.size<=b/\b<wr.heap.size:=by
 have hlt:=fun b hb=>Az h.cur b (Bq.1 hb)
 refine⟨⟨_,_,_,zq ov,[],abs,rfl,by show Len 0;unfold Len;omega,by show I64 3;unfold I64;omega,hat,⟨h.cur.low (jg _),hos,by show au.length*16<=_;omega,rfl⟩,⟨jq.nil _ _,(fun x hx=>by cases hx),by simp,rfl⟩,h.row.rowT,by simp⟩,?_,fun b hb=>?_⟩
 ·rw[List.nodup_append]
  refine⟨by unfold zq;cases ov.ownBlock<;>simp,h.row.nd.1,fun x hx y hy e=>?_⟩;subst e;exact h.ne x hy (Bq.1 hx)
 ·rcases Dx.1 hb with h9|h9
  ·exact hlt b h9
  ·exact h.row.nd.2 b h9
theorem Mc.bb8 {w9:cu} {ca:Option Addr} {cn cc:Nat} {code:List l9} {aa:Option Addr} {an ac:Nat} (h:Mc W4 sb at_ ov args au (.slice aa an ac) ov abs wr) (hsb:sb<W4.heap.size) (Qe:Below wr.heap.size wr w9) (Jc:jq Gp w9 wr.heap.size (.slice ca cn cc) code) (hok:∀x,x∈code->okI x) (hcl:code.length<=2000000) (hal:args.length<=2000000) :
  ∃va n2 vc w5 X Zz,w9.cell? ⟨sb,5,none⟩=some (.slice aa an ac)/\(w9.alloc (.cells #[.slice ca cn cc] 56)).cell? ⟨sb,5,none⟩=some (.slice aa an ac)/\sb<w9.heap.size/\Hid ((Builtin.append_ #[58,58] 58 #[.slice aa an ac,.slice (some ⟨w9.heap.size,0,none⟩) 1 1]).run Tryz.prog (w9.alloc (.cells #[.slice ca cn cc] 56))=.ok (.slice va n2 vc) w5)/\w5.cell? ⟨sb,5,none⟩=some (.slice aa an ac)/\w5.frozen? ⟨sb,5,none⟩=false/\sb<w5.heap.size/\Hid (X=w5.setCell ⟨sb,5,none⟩ (.slice va n2 vc))/\Hid (Mc W4 sb at_ ov (args++[code]) au (.slice va n2 vc) ov Zz X):=by
 obtain⟨va,n2,vc,w5,Zz,h1,h2,h3⟩:=h.push hsb Qe Jc hok hcl hal;have hx:=(h.below Qe).box;have hA:Below w9.heap.size w9 (w9.alloc (.cells #[.slice ca cn cc] 56)):=(iq _ _).alloc (gu _) _;exact⟨va,n2,vc,w5,_,Zz,hx.cell (i:=5) (v:=.slice aa an ac) rfl,(hx.below hA hx.lt).cell (i:=5) (v:=.slice aa an ac) rfl,hx.lt,ak h1,h2.1,h2.2.1,h2.2.2,ak rfl,ak h3⟩
end
theorem ahf {w:cu} {b o n cap:Nat} {f:List dh} (h:jc 1 16 xk 0 w (.slice (some ⟨b,o,none⟩) n cap) f) (p:Nat) (hp:p<=f.length):jc 1 16 xk 0 w (.slice (if cap=p then some ⟨b,o,none⟩ else some ⟨b,o+p,none⟩) (f.length-p) (cap-p)) (f.drop p):=by
 by_cases c:cap=p
 ·rw[gy c]
  obtain⟨a',c',hv,⟨h2,h3⟩,h4,hx⟩:=h;simp only[qw] at hv;have e:f.drop p=[]:=List.drop_eq_nil_of_le (by omega);rw[e];exact⟨_,cap-p,by rw[show f.length-p=0 from by omega];rfl,⟨by unfold Len;simp,jg _⟩,by unfold Len;simp,fun i hi=>absurd hi (yu _)⟩
 ·rw[bf c]
  have h9:=h.sub p f.length hp (gu _)
  have e:wz f p f.length=f.drop p:=by
   unfold wz;exact P8 (by rw[Cc];exact gu _)
  rw[e] at h9;simpa using h9
theorem ars {w:cu} {a:Option Addr} {n cap:Nat} {f:List dh} (h:jc 1 16 xk 0 w (.slice a n cap) f) (q:Nat) (hq:q<=f.length):jc 1 16 xk 0 w (.slice a q cap) (f.take q):=by
 obtain⟨a',c',hv,⟨h2,h3⟩,h4,hx⟩:=h;simp only[qw] at hv;obtain⟨rfl,_,rfl⟩:=hv;have hl:(f.take q).length=q:=by rw[Nk];omega
 refine⟨a,cap,by rw[hl],⟨by rw[hl];unfold Len at *;omega,by omega⟩,by rw[hl];unfold Len at *;omega,fun i hi=>?_⟩;obtain⟨b,o,cs,r1,r2,r3,r4,r5,r6⟩:=hx i (by omega);refine⟨b,o,cs,r1,r2,r3,r4,r5,?_⟩;rw[List.getElem_take];exact r6
theorem auh (rest:List dh) (hne:rest≠[]) (e:Nat) (he:(je rest Bl<0/\e=rest.length)\/je rest Bl=(e:Int)):e<=rest.length/\Pq rest=A8 (rest.take e)::Pq (rest.drop (e+1)):=by
 have key:∀k (hk:k<rest.length),rest[k]=Bl->(∀j (hj:j<rest.length),j<k->rest[j]≠Bl)->Pq rest=A8 (rest.take k)::Pq (rest.drop (k+1)):=fun k hk h1 h2=>by
  have e1:rest=rest.take k++Bl::rest.drop (k+1):=by
   rw[←h1,List.getElem_cons_drop,O8]
  have h3:Bl∉rest.take k:=fun h9=>by
   obtain⟨j,hj,h8⟩:=List.mem_iff_getElem.1 h9;rw[List.getElem_take] at h8;rw[Nk] at hj;exact h2 j (by omega) (by omega) h8
  have h4:=axg (rest.take k) (rest.drop (k+1)) h3;rw[←e1] at h4;exact h4
 unfold je at he
 cases hf:rest.findIdx? (fun x=>x.toList==Bl.toList) with
 | some i =>
  rw[hf] at he;simp only at he
  obtain rfl:i=e:=by
   rcases he with h9|h9
   ·omega
   ·omega
  have h9:=List.findIdx?_eq_some_iff_getElem.1 hf;obtain⟨hi,h1,h2⟩:=h9;refine⟨by omega,key i hi (by rw[zi] at h1;exact xw h1) (fun j hj hlt e9=>?_)⟩;have h3:=h2 j hlt;rw[e9] at h3;simp at h3
 | none =>
  rw[hf] at he;simp only at he
  obtain rfl:e=rest.length:=by
   rcases he with h9|h9
   ·exact h9.2
   ·omega
  have h9:=List.findIdx?_eq_none_iff.1 hf;refine⟨gu _,?_⟩;rw[aud rest hne (fun hm=>by have h8:=h9 _ hm;simp at h8),Dw,List.drop_eq_nil_of_le (by omega),amj]
def StP (s:lu) (w:cu) (e:Ending) (w':cu):Prop:=∃oa on oc ca cn cc aa an ac sb,e=.returned (.agg #[.int .i64 s.kind,.string s.name,.int .i64 s.at_,.slice oa on oc,.slice ca cn cc,.slice aa an ac])/\Y4 w' [.int .i64 s.kind,.string s.name,.int .i64 s.at_,.slice oa on oc,.slice ca cn cc,.slice aa an ac] s sb/\sb.Nodup/\(∀b,b∈sb->w.heap.size<=b/\b<w'.heap.size)/\Below w.heap.size w w'
theorem axr {W4 wr W:cu} {sb on oc:Nat} {at_:Int} {oa:Option Addr} {args:List (List l9)} {au:List dh} {av:Value} {abs:List Nat} (h:Mc W4 sb at_ (.slice oa on oc) args au av (.slice oa on oc) abs wr) (hsb:sb<W4.heap.size) (hW:Below wr.heap.size wr W) (hol:au.length<=2000000) (f:List dh) (v:Value) (hv:jc 1 16 xk 0 W v f) (i:Nat) (hi:i<=2000000) :
  Calls Tryz.prog 30 #[v,.int .i64 (i:Int)] W (fun e w9=>∃va n2 vc w5 X,e=.returned (.string (fA f i))/\w9.cell? ⟨sb,3,none⟩=some (.slice oa on oc)/\(w9.alloc (.cells #[.string (fA f i)] 9)).cell? ⟨sb,3,none⟩=some (.slice oa on oc)/\sb<w9.heap.size/\Hid ((Builtin.append_ #[40,40] 40 #[.slice oa on oc,.slice (some ⟨w9.heap.size,0,none⟩) 1 1]).run Tryz.prog (w9.alloc (.cells #[.string (fA f i)] 9))=.ok (.slice va n2 vc) w5)/\w5.cell? ⟨sb,3,none⟩=some (.slice oa on oc)/\w5.frozen? ⟨sb,3,none⟩=false/\sb<w5.heap.size/\Hid (X=w5.setCell ⟨sb,3,none⟩ (.slice va n2 vc))/\Hid (Mc W4 sb at_ (.slice va n2 vc) args (au++[fA f i]) av (.slice va n2 vc) abs X)):=by
 refine(aa0 f v W i hi hv).mono ?_;rintro e w9 ⟨rfl,yx⟩;have hb:Below wr.heap.size wr w9:=hW.trans (yx.mono hW.size);obtain⟨va,n2,vc,w5,h1,h2,h3⟩:=h.out (p:=fA f i) hsb hb hol;have hx:=(h.below hb).box;have hA:Below w9.heap.size w9 (w9.alloc (.cells #[.string (fA f i)] 9)):=(iq _ _).alloc (gu _) _;exact⟨va,n2,vc,w5,_,rfl,hx.cell (i:=3) (v:=.slice oa on oc) rfl,(hx.below hA hx.lt).cell (i:=3) (v:=.slice oa on oc) rfl,hx.lt,ak h1,h2.1,h2.2.1,h2.2.2,ak rfl,ak h3⟩
theorem amk {W4 wr W:cu} {sb on oc an ac:Nat} {at_:Int} {oa aa:Option Addr} {args:List (List l9)} {au:List dh} {abs:List Nat} (h:Mc W4 sb at_ (.slice oa on oc) args au (.slice aa an ac) (.slice oa on oc) abs wr) (hsb:sb<W4.heap.size) (hW:Below wr.heap.size wr W) (hE:Za W) (ps:List dh) (v:Value) (hv:jc 1 16 xk 0 W v ps) (hs:∀p,p∈ps->p.size<=1048576) (hl:ps.length<=1048577) (hal:args.length<=1048577) :
  Calls Tryz.prog 60 #[v] W (fun e w9=>∃ca cn cc va n2 vc w5 X Zz,e=.returned (.slice ca cn cc)/\w9.cell? ⟨sb,5,none⟩=some (.slice aa an ac)/\(w9.alloc (.cells #[.slice ca cn cc] 56)).cell? ⟨sb,5,none⟩=some (.slice aa an ac)/\sb<w9.heap.size/\Hid ((Builtin.append_ #[58,58] 58 #[.slice aa an ac,.slice (some ⟨w9.heap.size,0,none⟩) 1 1]).run Tryz.prog (w9.alloc (.cells #[.slice ca cn cc] 56))=.ok (.slice va n2 vc) w5)/\w5.cell? ⟨sb,5,none⟩=some (.slice aa an ac)/\w5.frozen? ⟨sb,5,none⟩=false/\sb<w5.heap.size/\Hid (X=w5.setCell ⟨sb,5,none⟩ (.slice va n2 vc))/\Hid (Mc W4 sb at_ (.slice oa on oc) (args++[A8 ps]) au (.slice va n2 vc) (.slice oa on oc) Zz X)):=by
 refine(ame ps v W hE hv hs hl).mono ?_;rintro e w9 ⟨v9,rfl,Jc,yx⟩;obtain⟨ca,cc,rfl⟩:=Jc.slice;have hb:Below wr.heap.size wr w9:=hW.trans (yx.mono hW.size)
 obtain⟨va,n2,vc,w5,X,Zz,h1⟩:=h.bb8 hsb hb (Jc.low hW.size) (fun x hx=>by
  obtain⟨p,hp,rfl⟩:=List.mem_map.1 hx;exact apf p (hs p hp)) (by unfold A8;rw[zy];omega) (by omega)
 exact⟨ca,_,cc,va,n2,vc,w5,X,Zz,rfl,h1⟩
theorem axt (f:List dh) (v:Value) (w:cu) (hE:Za w) (hv:jc 1 16 xk 0 w v f) (hs:∀p,p∈f->p.size<=1048576) (h1:1<=f.length) (hl:f.length<=1048577):Calls Tryz.prog 61 #[v] w (StP (adb f) w):=by
 obtain⟨PO,Gn⟩:=o8 (StP (adb f) w);rw[←Gn];have Dc:=ak Gn;clear Gn;obtain⟨a,cap,rfl⟩:=hv.shape;obtain⟨b,o,rfl,hbl,_,_⟩:=ag9 hv 0 h1
 have hcap:f.length<=cap:=by
  obtain⟨a',c',Dq,⟨h2,h3⟩,_⟩:=hv;simp only[qw] at Dq;omega
 have hz1:(fA f 1).size<=1048576:=by
  by_cases c:1<f.length
  ·rw[←Jj f 1 c];exact hs _ (o7 c)
  ·rw[agn f 1 c];decide
 obtain⟨X0,hX0⟩:=o8 (w.alloc (.cells #[.int .i64 0,.string ⟨#[]⟩,.int .i64 0,.slice none 0 0,.slice none 0 0,.slice none 0 0] 60));have hA:Below w.heap.size w X0:=by rw[hX0];exact(iq _ _).alloc (gu _) _
 have hR0:jd X0 w.heap.size 60 #[.int .i64 0,.string ⟨#[]⟩,.int .i64 0,.slice none 0 0,.slice none 0 0,.slice none 0 0]:=by rw[hX0];exact oh _ _ _
 have HR0:=ak hR0;have HA:=ak hA;have Rf:Hid (∀W,Below w.heap.size w W->jc 1 16 xk 0 W (.slice (some ⟨b,o,none⟩) f.length cap) f):=ak (fun W hW=>hv.stays zk hW);have Vu:Hid (∀W,Below w.heap.size w W->Za W):=ak (fun W hW=>hE.below hW hE.env.three);have HP:=ak (Yn f _ X0 1 (by omega) (uh Rf X0 hA));have HNU:=ak (Xr (fA f 1) X0 (uh Vu X0 hA) hz1);obtain⟨at_,hat⟩:=o8 (Om (fA f 1));have HAT:Hid (I64 at_):=ak (by rw[hat];exact ad9 _);have Bj:=ak hs;have HX0:=ak hX0;have Qb:Hid (adb f=⟨3,E0,at_,wz f 2 (je f ql).toNat,[],Pq (f.drop (je f ql+1).toNat)⟩):=ak (by rw[hat];rfl);rw[←hat] at HNU;have a9v:=ak (X6 f ql);have a9w:Hid (-1<=je f ql):=ak (by unfold je;split<;>omega);clear hat hz1 hX0 hA hR0 hv hs hE hbl;go_enter Tryz.func61,Tryz.ntmps61;go_wp2_with fail;rw[←uh HX0];refine(uh HP).mono ?_;rintro e w9 ⟨rfl,Qe⟩;obtain rfl:=Qe.symm;go_wp2_with fail;refine(uh HNU).mono ?_;rintro e w1 ⟨rfl,hb1⟩;have hBw1:Below w.heap.size w w1:=(uh HA).trans (hb1.mono (uh HA).size);have hR1:=(uh HR0).below hb1 (uh HR0).lt;obtain⟨W4,hW4⟩:=o8 (w1.alloc (.cells #[.int .i64 3,.string ⟨#[]⟩,.int .i64 at_,.slice none 0 0,.slice none 0 0,.slice none 0 0] 60));obtain⟨sb,hsb⟩:=o8 w1.heap.size;have hb4:Below w1.heap.size w1 W4:=by rw[hW4];exact(iq _ _).alloc (gu _) _
 have ak6:jd W4 sb 60 #[.int .i64 3,.string ⟨#[]⟩,.int .i64 at_,.slice none 0 0,.slice none 0 0,.slice none 0 0]:=by rw[hW4];exact aa2 hsb
 have HR4:Hid (jd W4 w.heap.size 60 #[.int .i64 0,.string ⟨#[]⟩,.int .i64 0,.slice none 0 0,.slice none 0 0,.slice none 0 0]):=ak (hR1.below hb4 hR1.lt);have HSL:Hid (w.heap.size<sb/\sb<W4.heap.size):=ak ⟨by rw[hsb];exact hR1.lt,ak6.lt⟩;have HB4:Hid (Below w.heap.size w W4):=ak (hBw1.trans (hb4.mono hBw1.size));have Xf:=ak (Mc.bb6 ak6);have D5:Hid (∀X,But [sb] W4 X->Below w.heap.size w X/\jd X w.heap.size 60 #[.int .i64 0,.string ⟨#[]⟩,.int .i64 0,.slice none 0 0,.slice none 0 0,.slice none 0 0]):=ak (fun X hX=>⟨(uh HB4).trans (hX.below _ (uh HB4).size (fun x hx=>by rw[yt] at hx;rw[hx];exact Nat.le_of_lt (uh HSL).1)),hX.blk (uh HR4) (by have:=(uh HSL).1;simp only[yt];omega)⟩);have HIX:=ak (amc f _ ql W4 (uh Rf W4 (uh HB4)));have HW4:=ak hW4;have U3:=ak hsb;clear hW4 hb4 ak6 hb1 hBw1 hR1 HP HNU HX0;go_wp2_with fail;rw[←uh HW4,←uh U3];clear hsb;refine(uh HIX).mono ?_;rintro e w8 ⟨rfl,hw8⟩;obtain rfl:=hw8.symm;obtain⟨pc,hpc⟩:=o8 (je f ql);rw[←hpc] at Qb a9v a9w ⊢;clear hpc HIX;have hpl:=uh a9v;have hpg:=uh a9w;go_wp2
 go_loopg [5] (pc.toNat-2) (fun gh ix wr=>∃(i:Nat),2<=i/\((i:Int)<=pc\/i=2)/\gh=pc.toNat-i/\ix=.int .i64 (i:Int)/\Hid (∃oa on oc,Mc W4 sb at_ (.slice oa on oc) [] (wz f 2 i) (.slice none 0 0) (.slice oa on oc) [] wr))
 case atStart=>exact⟨2,gu _,Or.inr rfl,rfl,rfl,ak ⟨none,0,0,uh Xf⟩⟩
 case round =>
  obtain⟨i,hi2,hip,hg,rfl,HC⟩:=hrel;have HG:=ak hg;clear hg Xf;obtain⟨oa,on,oc,hcs⟩:=uh HC;have Ti:=ak hcs;have hbw:=(uh D5 wr hcs.but).1;have hrb:=(uh D5 wr hcs.but).2;have Bc:=ak hbw;have z3:=hcs.box.cell (i:=3) (v:=.slice oa on oc) rfl;have z6:sb<wr.heap.size:=hcs.box.lt;clear HC
  by_cases hlt:(i:Int)<pc
  ·have hil:i<f.length:=by omega
   have wi:IntKind.i64.wrap ((i:Int)+1)=(i:Int)+1:=by rw[Qw];omega
   have HSK:Hid (wz f 2 (i+1)=wz f 2 i++[fA f i]):=ak (by
    unfold wz;have e1:i+1-2=i-2+1:=by omega
    have e2:i-2<(f.drop 2).length:=by rw[Cc];omega
    rw[e1,Eu e2,List.getElem_drop,←Jj f i hil];congr 3;omega)
   have HIT:=ak (fun W hW=>axr (W:=W) hcs (uh HSL).2 hW (by rw[Rj f 2 i hi2 (by omega)];omega) f _ (uh Rf W ((uh Bc).trans (hW.mono (uh Bc).size))) i (by omega));have z3d:wr.drew.cell? ⟨sb,3,none⟩=some (.slice oa on oc):=z3;clear hcs hbw hrb hil;go_wp2_with fail
   go_region_law (first|(go_simp;go_at_call 30;refine(uh HIT _ ((iq _ _).drew)).mono ?_;rintro e w9 ⟨va,n2,vc,w5,X,rfl,y1,y2,y3,Df,y4,y5,y6,HX,J9⟩)|(refine uj rfl _ _ 40 40 rfl rfl _ _ _ rfl rfl (uh Df) ?_))
   all_goals
    rw[←uh HX];clear y1 y2 y3 y4 y5 y6 Df HX z3 z3d HIT;go_wp2
    go_roundg (pc.toNat-(i+1))
    case measure=>have:=uh HG;omega
    case rel=>exact⟨i+1,by omega,Or.inl (by omega),rfl,by go_num,ak ⟨va,n2,vc,by rw[uh HSK];exact uh J9⟩⟩
  ·have hge:¬(i:Int)<pc:=hlt
   have dge:decide ((i:Int)<pc)=false:=iy hlt
   have HOU:Hid (wz f 2 i=wz f 2 pc.toNat):=ak (by
    by_cases c:2<=pc
    ·rw[show pc.toNat=i from by omega]
    ·unfold wz
     rw[show i-2=0 from by omega,show pc.toNat-2=0 from by omega])
   rw[uh HOU] at Ti;obtain⟨j,hj⟩:=Ht (show 0<=pc+1 by omega);have HJ:=ak hj;have wj:IntKind.i64.wrap (pc+1)=(j:Int):=by rw[Qw];omega
   have hjl:j<=f.length:=by omega
   have hjI:(j:Int)<=(f.length:Int):=by omega
   have hjc:j<=cap:=by omega
   have hjC:(j:Int)<=(cap:Int):=by omega
   have hj0:(0:Int)<=(j:Int):=by omega
   obtain⟨x1,hif⟩:∃x,(if cap=j then some (⟨b,o,none⟩:Addr) else some ⟨b,o+j,none⟩)=some ⟨b,x,none⟩:=by
    by_cases c:cap=j
    ·exact⟨o,gy c⟩
    ·exact⟨o+j,bf c⟩
   have HRS:Hid (∀W,Below w.heap.size w W->jc 1 16 xk 0 W (.slice (some ⟨b,x1,none⟩) (f.length-j) (cap-j)) (f.drop j)):=ak (fun W hW=>by have h9:=ahf (uh Rf W hW) j hjl;rw[hif] at h9;exact h9);have HCJ:Hid ((pc+1).toNat=j):=ak (by omega);rw[uh HCJ] at Qb;clear hj hlt hcs hbw hip z3 HOU HCJ hi2 HG;go_wp2
   go_loopg [6,7] (f.length-j) (fun gh rv ev wr=>∃(x2 rn rc:Nat),gh=rn/\rv=.slice (some ⟨b,x2,none⟩) rn rc/\Hid (∃rest:List dh,rn=rest.length/\(∀W,Below w.heap.size w W->jc 1 16 xk 0 W (.slice (some ⟨b,x2,none⟩) rn rc) rest)/\(∀p,p∈rest->p.size<=1048576)/\∃args aa an ac abs,args++Pq rest=Pq (f.drop j)/\args.length+rest.length<=1048577/\Mc W4 sb at_ (.slice oa on oc) args (wz f 2 pc.toNat) (.slice aa an ac) (.slice oa on oc) abs wr))
   case atStart=>exact⟨x1,f.length-j,cap-j,rfl,rfl,ak ⟨f.drop j,by rw[Cc],uh HRS,fun p hp=>uh Bj p (List.mem_of_mem_drop hp),[],none,0,0,[],rfl,by rw[Cc,Ar];omega,uh Ti⟩⟩
   case round =>
    obtain⟨x2,rn,rc,hg,rfl,HR⟩:=hrel;have HG:=ak hg;clear hg HRS Ti;obtain⟨rest,hrn,hsl,hrz,args,aa,an,ac,abs,hargs,hlen,hca⟩:=uh HR;have Yc:=ak hca;have HRN:=ak hrn;have aui:=ak hsl;have HRZ:=ak hrz;have HAR:=ak hargs;have HLEN:=ak hlen;have ak7:=uh D5 wr hca.but;have afa:=ak ak7.1;have Zi:=ak ak7.2;have z5:=hca.box.cell (i:=5) (v:=.slice aa an ac) rfl;have z6':sb<wr.heap.size:=hca.box.lt
    have hrc:rn<=rc:=by
     obtain⟨a',c',Dq,⟨h2,h3⟩,_⟩:=hsl wr ak7.1;simp only[qw] at Dq;omega
    have hrl:rn<=1048577:=by omega
    by_cases hpos:0<rn
    ·have ber:(0:Int)<(rn:Int):=by omega
     have a9x:=ak (amc rest _ Bl wr (hsl wr ak7.1));have bdp:=X6 rest Bl;have bff : -1<=je rest Bl:=by unfold je;split<;>omega
     obtain⟨e9,he9⟩:∃e:Nat,(je rest Bl<0/\e=rest.length)\/je rest Bl=(e:Int):=by
      by_cases c:je rest Bl<0
      ·exact⟨rest.length,Or.inl ⟨c,rfl⟩⟩
      ·exact⟨(je rest Bl).toNat,Or.inr (by omega)⟩
     obtain⟨hel,hst⟩:=auh rest (fun e=>by rw[e] at hrn;simp at hrn;omega) e9 he9;have HEL:=ak hel;have a9y:=ak hst;have bfg:e9<=rn:=by omega
     have bfh:e9<=rc:=by omega
     have bfi:(e9:Int)<=(rc:Int):=by omega
     have we9:IntKind.i64.wrap ((e9:Int)+1)=(e9:Int)+1:=by rw[Qw];omega
     obtain⟨m,hm⟩:∃m:Nat,m=min (e9+1) rn:=⟨_,rfl⟩;have hmin:min ((e9:Int)+1) (rn:Int)=(m:Int):=by omega
     have hm1:1<=m:=by omega
     have hmr:m<=rn:=by omega
     have hmc:m<=rc:=by omega
     have hmI:(m:Int)<=(rn:Int):=by omega
     have hmC:(m:Int)<=(rc:Int):=by omega
     have HDM:Hid (rest.drop (e9+1)=rest.drop m):=ak (by
      by_cases c:e9+1<=rn
      ·rw[show m=e9+1 from by omega]
      ·rw[List.drop_eq_nil_of_le (by omega),List.drop_eq_nil_of_le (by omega)])
     obtain⟨x3,a9z⟩:∃x,(if rc=m then some (⟨b,x2,none⟩:Addr) else some ⟨b,x2+m,none⟩)=some ⟨b,x,none⟩:=by
      by_cases c:rc=m
      ·exact⟨x2,gy c⟩
      ·exact⟨x2+m,bf c⟩
     rw[←hrn] at he9 bdp;clear hm;generalize je rest Bl=pq at *;clear hca hrn hsl hrz hargs hlen ak7 hel hst HR;go_wp2_with fail;refine(uh a9x).mono ?_;rintro e w7 ⟨rfl,hw7⟩;obtain rfl:=hw7.symm;clear a9x
     by_cases hneg:pq<0
     ·obtain rfl:e9=rn:=by omega
      have bdq:decide (pq<0)=true:=jf hneg;clear he9;have HIT:=ak (fun W hW=>amk (W:=W) (uh Yc) (uh HSL).2 hW (uh Vu W ((uh afa).trans (hW.mono (uh afa).size))) (rest.take e9) _ (ars (uh aui W ((uh afa).trans (hW.mono (uh afa).size))) e9 (uh HEL)) (fun p hp=>uh HRZ p (List.mem_of_mem_take hp)) (by rw[Nk];have:=uh HLEN;omega) (by have:=uh HLEN;omega));have z5d:wr.drew.cell? ⟨sb,5,none⟩=some (.slice aa an ac):=z5;go_wp2_with fail
      go_region_law (first|(go_simp;go_at_call 60;refine(uh HIT _ ((iq _ _).drew)).mono ?_;rintro e w9 ⟨ca,cn,cc,va9,n29,vc9,w59,X,ak8,rfl,y1,y2,y3,Df,y4,y5,y6,HX,J9⟩)|(refine uj rfl _ _ 58 58 rfl rfl _ _ _ rfl rfl (uh Df) ?_))
      all_goals
       rw[←uh HX];clear y1 y2 y3 y4 y5 y6 Df HX z5 z5d HIT;have HTS:Hid (∀W,Below w.heap.size w W->jc 1 16 xk 0 W (.slice (some ⟨b,x3,none⟩) (e9-m) (rc-m)) (rest.drop m)):=ak (fun W hW=>by have h9:=ahf (uh aui W hW) m (by rw[←uh HRN];exact hmr);rw[a9z,←uh HRN] at h9;exact h9);go_wp2
       go_roundg (e9-m)
       case measure=>have:=uh HG;omega
       case rel=>exact⟨x3,e9-m,rc-m,rfl,rfl,ak ⟨rest.drop m,by rw[Cc,←uh HRN],uh HTS,fun p hp=>uh HRZ p (List.mem_of_mem_drop hp),args++[A8 (rest.take e9)],va9,n29,vc9,ak8,by rw[←uh HAR,uh a9y,uh HDM,Gl];rfl,by rw[jh,Cc,N9];have:=uh HLEN;have:=uh HRN;omega,uh J9⟩⟩
     ·obtain rfl:pq=(e9:Int):=by omega
      have bdq:decide ((e9:Int)<0)=false:=iy (by omega);clear he9 hneg;have HIT:=ak (fun W hW=>amk (W:=W) (uh Yc) (uh HSL).2 hW (uh Vu W ((uh afa).trans (hW.mono (uh afa).size))) (rest.take e9) _ (ars (uh aui W ((uh afa).trans (hW.mono (uh afa).size))) e9 (uh HEL)) (fun p hp=>uh HRZ p (List.mem_of_mem_take hp)) (by rw[Nk];have:=uh HLEN;omega) (by have:=uh HLEN;omega));have z5d:wr.drew.cell? ⟨sb,5,none⟩=some (.slice aa an ac):=z5;go_wp2_with fail
      go_region_law (first|(go_simp;go_at_call 60;refine(uh HIT _ ((iq _ _).drew)).mono ?_;rintro e w9 ⟨ca,cn,cc,va9,n29,vc9,w59,X,ak8,rfl,y1,y2,y3,Df,y4,y5,y6,HX,J9⟩)|(refine uj rfl _ _ 58 58 rfl rfl _ _ _ rfl rfl (uh Df) ?_))
      all_goals
       rw[←uh HX];clear y1 y2 y3 y4 y5 y6 Df HX z5 z5d HIT;have HTS:Hid (∀W,Below w.heap.size w W->jc 1 16 xk 0 W (.slice (some ⟨b,x3,none⟩) (rn-m) (rc-m)) (rest.drop m)):=ak (fun W hW=>by have h9:=ahf (uh aui W hW) m (by rw[←uh HRN];exact hmr);rw[a9z,←uh HRN] at h9;exact h9);go_wp2
       go_roundg (rn-m)
       case measure=>have:=uh HG;omega
       case rel=>exact⟨x3,rn-m,rc-m,rfl,rfl,ak ⟨rest.drop m,by rw[Cc,←uh HRN],uh HTS,fun p hp=>uh HRZ p (List.mem_of_mem_drop hp),args++[A8 (rest.take e9)],va9,n29,vc9,ak8,by rw[←uh HAR,uh a9y,uh HDM,Gl];rfl,by rw[jh,Cc,N9];have:=uh HLEN;have:=uh HRN;omega,uh J9⟩⟩
    ·have hz:¬(0:Int)<(rn:Int):=by omega
     have dz:decide ((0:Int)<(rn:Int))=false:=iy hz;have hre:rest=[]:=Sj (by omega);have HAE:Hid (args=Pq (f.drop j)):=ak (by rw[←uh HAR,hre,amj,Aq]);obtain⟨hT,hnd,aag⟩:=(uh Yc).bb7 (fun x hx=>by have h9:=uh Bj x (List.mem_of_mem_drop (List.mem_of_mem_take hx));unfold okS Len;omega) (by unfold wz;rw[Nk,Cc];omega) (uh HAT);have hbx:=(((((((uh Zi).set 0 (.int .i64 3)).set 1 (.string ⟨#[]⟩)).set 2 (.int .i64 at_)).set 3 (.slice oa on oc)).set 4 (.slice none 0 0)).set 5 (.slice aa an ac));have hbq:=uh afa;have hq9:Below wr.heap.size wr wr:=iq _ _
     have HTF:Hid (Y4 ((((((wr.setCell ⟨w.heap.size,0,none⟩ (.int .i64 3)).setCell ⟨w.heap.size,1,none⟩ (.string ⟨#[]⟩)).setCell ⟨w.heap.size,2,none⟩ (.int .i64 at_)).setCell ⟨w.heap.size,3,none⟩ (.slice oa on oc)).setCell ⟨w.heap.size,4,none⟩ (.slice none 0 0)).setCell ⟨w.heap.size,5,none⟩ (.slice aa an ac)) [.int .i64 3,.string ⟨#[]⟩,.int .i64 at_,.slice oa on oc,.slice none 0 0,.slice aa an ac] ⟨3,⟨#[]⟩,at_,wz f 2 pc.toNat,[],args⟩ (zq (.slice oa on oc)++abs)):=ak (Qs _ _ _ _ _ hT (fun b9 yx=>by
      have h9:=(aag b9 yx).1;have h8:=uh HSL;have hne:b9≠w.heap.size:=by omega
      rw[zf _ ⟨w.heap.size,5,none⟩ _ _ hne,zf _ ⟨w.heap.size,4,none⟩ _ _ hne,zf _ ⟨w.heap.size,3,none⟩ _ _ hne,zf _ ⟨w.heap.size,2,none⟩ _ _ hne,zf _ ⟨w.heap.size,1,none⟩ _ _ hne,zf _ ⟨w.heap.size,0,none⟩ _ _ hne]))
     have qx:Hid (PO (.returned (.agg #[.int .i64 3,.string ⟨#[]⟩,.int .i64 at_,.slice oa on oc,.slice none 0 0,.slice aa an ac])) ((((((wr.setCell ⟨w.heap.size,0,none⟩ (.int .i64 3)).setCell ⟨w.heap.size,1,none⟩ (.string ⟨#[]⟩)).setCell ⟨w.heap.size,2,none⟩ (.int .i64 at_)).setCell ⟨w.heap.size,3,none⟩ (.slice oa on oc)).setCell ⟨w.heap.size,4,none⟩ (.slice none 0 0)).setCell ⟨w.heap.size,5,none⟩ (.slice aa an ac))):=ak (by
      rw[uh Dc,uh Qb,←uh HAE];refine⟨oa,on,oc,none,0,0,aa,an,ac,_,rfl,uh HTF,hnd,fun b9 yx=>?_,((((((hbq.setCell (p:=⟨w.heap.size,0,none⟩) (gu _) (.int .i64 3)).setCell (p:=⟨w.heap.size,1,none⟩) (gu _) (.string ⟨#[]⟩)).setCell (p:=⟨w.heap.size,2,none⟩) (gu _) (.int .i64 at_)).setCell (p:=⟨w.heap.size,3,none⟩) (gu _) (.slice oa on oc)).setCell (p:=⟨w.heap.size,4,none⟩) (gu _) (.slice none 0 0)).setCell (p:=⟨w.heap.size,5,none⟩) (gu _) (.slice aa an ac))⟩;have h9:=aag b9 yx;have h8:=uh HSL;refine⟨by omega,?_⟩;simp only[World.setCell,Array.size_modify] at *
      first|exact h9.2|(simp;exact h9.2))
     have s0:=(uh Yc).box.cell (i:=0) (v:=.int .i64 3) rfl;have s1:=(uh Yc).box.cell (i:=1) (v:=.string ⟨#[]⟩) rfl;have s2:=(uh Yc).box.cell (i:=2) (v:=.int .i64 at_) rfl;have s3:=(uh Yc).box.cell (i:=3) (v:=.slice oa on oc) rfl;have s4:=(uh Yc).box.cell (i:=4) (v:=.slice none 0 0) rfl;have s5:=(uh Yc).box.cell (i:=5) (v:=.slice aa an ac) rfl;have r0:=(uh Zi).cell (i:=0) (v:=.int .i64 0) rfl;have g0:=(uh Zi).free 0;have r1:=(uh Zi).cell (i:=1) (v:=.string ⟨#[]⟩) rfl;have g1:=(uh Zi).free 1;have r2:=(uh Zi).cell (i:=2) (v:=.int .i64 0) rfl;have g2:=(uh Zi).free 2;have r3:=(uh Zi).cell (i:=3) (v:=.slice none 0 0) rfl;have g3:=(uh Zi).free 3;have r4:=(uh Zi).cell (i:=4) (v:=.slice none 0 0) rfl;have g4:=(uh Zi).free 4;have r5:=(uh Zi).cell (i:=5) (v:=.slice none 0 0) rfl;have g5:=(uh Zi).free 5;have Oi:=ak (And.intro (hbx.cell (i:=0) (v:=.int .i64 3) rfl) (And.intro (hbx.cell (i:=1) (v:=.string ⟨#[]⟩) rfl) (And.intro (hbx.cell (i:=2) (v:=.int .i64 at_) rfl) (And.intro (hbx.cell (i:=3) (v:=.slice oa on oc) rfl) (And.intro (hbx.cell (i:=4) (v:=.slice none 0 0) rfl) (hbx.cell (i:=5) (v:=.slice aa an ac) rfl))))));have bfj:=(uh Zi).lt;clear hbx hbq hT hnd aag hre hca hrn hsl hrz hargs hlen ak7 HR hq9;go_wp2;obtain⟨f0,f1,f2,f3,f4,f5⟩:=uh Oi;exact bodyPost_ret (v:=.agg #[.int .i64 3,.string ⟨#[]⟩,.int .i64 at_,.slice oa on oc,.slice none 0 0,.slice aa an ac]) (by simp[results,Tryz.results61,go_sem,f0,f1,f2,f3,f4,f5]) rfl (uh qx)
theorem ab7 (kd:Int) (nm:dh) (w:cu) (h:Len nm.size/\I64 kd):Y4 w [.int .i64 kd,.string nm,.int .i64 0,.slice none 0 0,.slice none 0 0,.slice none 0 0] ⟨kd,nm,0,[],[],[]⟩ []:=by
 have z:∀{α:Type} (E:Fj Tryz.prog α) (ok:α->Prop),Tn E ok w (.slice none 0 0) [] []:=fun E ok=>⟨jq.nil _ _,(fun x hx=>by cases hx),by simp,rfl⟩
 exact⟨_,_,_,[],[],[],rfl,h.1,h.2,by unfold I64;simp only;omega,z _ _,z _ _,⟨[],[],jq.nil _ _,by simp,.nil,rfl⟩,rfl⟩
theorem bdr (eu:dh) (a:List dw) (k:dw) (hf0:fA (wordsOf 32 eu) 0=Qg) (O7:(wordsOf 32 eu).length=2):Qm eu (a++[k]):=by
 intro t rb mb lg n lc u q hu hq hn K K1 PO wr W1 mv bs hgs Qn hlz hwq HK hm;have hfz:=(Au 32 eu).1;have hfp:1<=(wordsOf 32 eu).length:=E5.2 (Ei 32 eu);have Ie:=ak (I4 hgs eu hlz);have HKK:=ak HK;have Ac:=ak (I5 (a++[k]) eu);have Ue:=ak hgs;have hqI:(q:Int)<(n:Int):=by omega
 have Gf:=ak hwq;clear HK hgs hwq;rw[Cj,hu];conv=>arg 2;whnf
 have Bj:=ak (Eb eu hlz);generalize wordsOf 32 eu=f at *;obtain⟨Cb,Jm,Gq,Hg,H8,Io,Gj,Ec,Lp,Ej⟩:=Vb hf0 false false false false false false false false true false (by decide)
 have I7:Hid (stepS (a++[k]) eu=a++[Dj k ⟨4,(fA f 1),0,[],[],[]⟩]):=ak (by
  rw[uh Ac];unfold Iq;rw[qc hf0 (by decide),Aa];unfold lineS;rw[qc hf0 (by decide),qc hf0 (by decide),qc hf0 (by decide),qc hf0 (by decide),qc hf0 (by decide),qc hf0 (by decide),qc hf0 (by decide),gy ⟨hf0,O7⟩])
 have HY:Hid (Len (fA f 1).size/\I64 4):=ak ⟨by have h9:=(uh Bj).2 (fA f 1) (by rw[←Jj f 1 (by omega)];exact o7 _);unfold Len;omega,by unfold I64;omega⟩;have d2:((f.length:Int)==2)=true:=by rw[O7];rfl
 have HL2:=ak O7;clear hf0 Ac O7;go_wp2_with fail;refine(uh Ie).mono ?_;rintro e w2 ⟨fg,fc,rfl,uq,Gs,hfl⟩;have x0:=uh Gs 0 (by omega);obtain⟨g,mc,hmv⟩:=Lh (uh uq).1.row;obtain⟨al,hal⟩:=o8 a.length;have Cm:=ak hal
 have hnb:al<=1048577:=by
  have h9:=uh Gf;unfold pz at h9;rw[jh] at h9;omega
 rw[←hal] at hmv;clear hal;subst hmv;have m0:=(uh uq).1.box.cell (i:=0) (v:=.slice (some ⟨g,0,none⟩) (al+1) mc) rfl;have hml:mb<w2.heap.size:=(uh uq).1.box.lt;have Fa:=ak (D6 f (.slice (some ⟨fg,0,none⟩) f.length fc) ql w2 (J3 (uh uq).2.1 (uh Bj)));obtain⟨c0,c1,c2,c3⟩:=gc al f.length (by omega) (by omega);go_wp2_with fail;refine(uh Fa).mono ?_;rintro e w3 ⟨rfl,hw3⟩;obtain rfl:=hw3.symm;have x1:=uh Gs 1 (by have:=uh HL2;omega);have hl1:(1:Int)<(f.length:Int):=by have:=uh HL2;omega
 have aix:1<f.length:=by have:=uh HL2;omega
 have Uf:=ak (uh uq).1;have hA:Below w2.heap.size w2 (w2.alloc (.cells #[.int .i64 4,.string (fA f 1),.int .i64 0,.slice none 0 0,.slice none 0 0,.slice none 0 0] 60)).drew:=((iq _ _).alloc (gu _) _).drew;have hgA:=(uh Uf).below hA;obtain⟨v1,Pe,hc1,ho1,hl6,hgl,hgrow⟩:=yj.aes hgA.row;rw[←uh Cm] at hc1;have hsm:=Aj (uh Gf);obtain⟨c,hcv⟩:∃c:Raw 6,c.1=[.int .i64 4,.string (fA f 1),.int .i64 0,.slice none 0 0,.slice none 0 0,.slice none 0 0]:=⟨⟨[.int .i64 4,.string (fA f 1),.int .i64 0,.slice none 0 0,.slice none 0 0,.slice none 0 0],by simp,by intro u hu;simp only[qj,xq,xu] at hu;rcases hu with rfl|rfl|rfl|rfl|rfl|rfl<;>rfl⟩,rfl⟩
 obtain⟨v',w5,hrun,yh,hg5,F9⟩:=Dn abq (w2.alloc (.cells #[.int .i64 4,.string (fA f 1),.int .i64 0,.slice none 0 0,.slice none 0 0,.slice none 0 0] 60)).drew 48 W1.heap.size v1 Pe ho1 w2.heap.size c (fun j u hu=>by
  have hu':c.1[j]?=some u:=hu;rw[hcv] at hu';have h9:=(oh w2 #[.int .i64 4,.string (fA f 1),.int .i64 0,.slice none 0 0,.slice none 0 0,.slice none 0 0] 60).cell (i:=j) (v:=u) (by simpa using hu');exact h9) (by rw[hl6];show (k.body.length+1)*104<=_;omega) (ku hgA.but.size (gu _))
 obtain⟨⟨hc5,Oy⟩,bs',hmk⟩:=hgrow v' w5 c ⟨4,(fA f 1),0,[],[],[]⟩ [] (by rw[hcv];exact ab7 _ _ _ (uh HY)) List.nodup_nil (fun b hb=>by cases hb) yh hg5 F9 (by omega);rw[←uh Cm] at hc5 Oy hmk;have Ku:=ak (hgA.put hm ho1 (by decide) hg5 hgA.Y5 hmk);obtain⟨ia,ic,hv1⟩:=ho1.slice;obtain⟨va,vc,hv'⟩:=yh.slice;obtain⟨n1,hn1⟩:=o8 Pe.length;obtain⟨n2,hn2⟩:=o8 ((Pe++[c]).length);rw[←hn1] at hv1;rw[←hn2] at hv';subst hv1 hv';have hrun':(Builtin.append_ #[48,48] 48 #[.slice ia n1 ic,.slice (some ⟨w2.heap.size,0,none⟩) 1 1]).run Tryz.prog (w2.alloc (.cells #[.int .i64 4,.string (fA f 1),.int .i64 0,.slice none 0 0,.slice none 0 0,.slice none 0 0] 60)).drew=.ok (.slice va n2 vc) w5:=hrun;have Df:=ak hrun'
 have Qd:g<w2.heap.size:=by
  obtain⟨abr,Y6,Jc,_⟩:=(uh Uf).row;exact(Az Jc g rfl).2
 have hc0:w2.cell? ⟨g,al*7+6,none⟩=some (.slice ia n1 ic):=(hA.cell (p:=⟨g,_,none⟩) Qd).symm.trans hc1;obtain⟨w6,hw6⟩:=o8 (w5.setCell ⟨g,al*7+6,none⟩ (.slice va n2 vc));rw[←hw6] at Ku;have Tt:=ak hw6;have afb:g<w5.heap.size:=qg hgl hg5.size;clear hrun hrun' hgrow ho1 yh hg5 F9 hmk hn1 hn2 hsm hgA hw6 hcv hl6;have qx:Hid (Jz W1 mb (stepS (a++[k]) eu) (.slice (some ⟨g,0,none⟩) (al+1) mc) bs' w6):=ak (by rw[uh I7];exact uh Ku);have x1a:(w2.alloc (.cells #[.int .i64 4,.string (fA f 1),.int .i64 0,.slice none 0 0,.slice none 0 0,.slice none 0 0] 60)).drew.cell? ⟨fg,1,none⟩=some (.string (fA f 1)):=(hA.cell (p:=⟨fg,1,none⟩) hfl).trans x1;generalize je f ql=pc at *;go_wp2_with fail;clear x0 m0
 go_region_law (refine uj rfl _ _ 48 48 rfl rfl _ _ _ rfl rfl (uh Df) ?_)
 all_goals
  rw[←uh Tt];go_wp2;refine uh HKK _ _ _ _ rfl ?_ ?_ (uh qx)
  ·exact V3 rfl rfl rfl rfl rfl rfl rfl rfl rfl rfl
  ·rfl
end Go.Proofs.YtfeejeflmcapoaaGreatDoor
