import Derived.Test.YtfeejeflmcapoaaGreatDoorPI2
import Derived.Test.YtfeejeflmcapoaaGreatDoorMI20
import Derived.Deep.RegionHeld3
import Derived.Deep.QuietTactic
import Derived.BigQuiet
import Derived.Test.YtfeejeflmcapoaaGreatDoorRH1
set_option linter.unusedSimpArgs false
set_option linter.unusedVariables false
set_option maxHeartbeats 8000000
namespace Go.Proofs.YtfeejeflmcapoaaGreatDoor
open Go.RowKit
theorem Md.bcu {W4:bf} {sb:Nat} {at_:Int} (hb:jc W4 sb 60 #[.int .i64 3,.string ⟨#[]⟩,.int .i64 at_,.slice none 0 0,.slice none 0 0,.slice none 0 0]):Md W4 sb at_ (.slice none 0 0) [] [] (.slice none 0 0) (.slice none 0 0) [] W4 :=
 ⟨hb,yh.nil _ _ _ _,jm.nil _ _,But.refl _ _⟩
section
variable {W4:bf} {sb:Nat} {at_:Int} {ov:Value} {args:List (List ku)} {ak:List dh} {av:Value} {abs:List Nat} {wr:bf}
theorem Md.out {w9:bf} {p:dh} (h:Md W4 sb at_ ov args ak av ov abs wr) (hsb:sb<W4.heap.size) (Qm:Below wr.heap.size wr w9) (hol:ak.length<=2000000) :
  ∃va n2 vc w5,(Builtin.append_ #[40,40] 40 #[ov,.slice (some ⟨w9.heap.size,0,none⟩) 1 1]).run Tryz.prog (w9.alloc (.cells #[.string p] 9))=.ok (.slice va n2 vc) w5∧(w5.cell? ⟨sb,3,none⟩=some ov∧w5.frozen? ⟨sb,3,none⟩=false∧sb<w5.heap.size)∧Md W4 sb at_ (.slice va n2 vc) args (ak++[p]) av (.slice va n2 vc) abs (w5.setCell ⟨sb,3,none⟩ (.slice va n2 vc)):=by
 have hA:Below w9.heap.size w9 (w9.alloc (.cells #[.string p] 9)):=(gy _ _).alloc (gq _) _;have h9:=h.below Qm;have hcA:=h9.below hA
 obtain⟨v',w5,hrun,yc,hg5,Gm⟩:=Dz ni (w9.alloc (.cells #[.string p] 9)) 40 W4.heap.size ov ak hcA.cur w9.heap.size p (fun j u hu=>by
  exact(og w9 #[.string p] 9).cell (i:=j) (v:=u) (by simpa[ni] using hu)) (by show (ak.length+1)*16<=_;omega) hcA.but.size
 have h5:=h9.arg hA hg5 yc;obtain⟨va,vc,rfl⟩:=yc.slice;have hset:∀b,b≠sb->(w5.setCell ⟨sb,3,none⟩ (.slice va (ak++[p]).length vc)).heap[b]?=w5.heap[b]?:=fun b hb=>yx _ _ _ _ (fun e=>hb e)
 have hz:(w5.setCell ⟨sb,3,none⟩ (.slice va (ak++[p]).length vc)).heap.size=w5.heap.size:=by simp[World.setCell]
 refine⟨va,_,vc,w5,hrun,⟨h5.box.cell (i:=3) (v:=ov) rfl,h5.box.free 3,h5.box.lt⟩,⟨h5.box.set 3 _,h5.row.fr Yk (fun b hb=>hset b (by have:=(h5.row.nd.2 b hb).1;omega)) (by omega),h5.cur.Ii (fun b hb=>hset b (by have:=h5.cur.block b hb;omega)),⟨h5.but.os,h5.but.tape,h5.but.output,by rw[hz];exact h5.but.size,fun b hb hs=>(hset b (by simpa using hs)).trans (h5.but.block b hb hs)⟩⟩⟩
theorem Md.bcv (h:Md W4 sb at_ ov args ak av ov abs wr) (hos:∀x,x∈ak->okS x) (hol:ak.length<=2000000) (hat:I64 at_):Y6 wr [.int .i64 3,.string ⟨#[]⟩,.int .i64 at_,ov,.slice none 0 0,av] ⟨3,⟨#[]⟩,at_,ak,[],args⟩ (zx ov++abs)∧(zx ov++abs).Nodup∧∀b,b∈zx ov++abs->W4.heap.size<=b∧b<wr.heap.size:=by
 have hlt:=fun b hb=>Bd h.cur b (Ce.1 hb)
 refine⟨⟨_,_,_,zx ov,[],abs,rfl,by show Len 0;unfold Len;omega,by show I64 3;unfold I64;omega,hat,⟨h.cur.low (jg _),hos,by show ak.length*16<=_;omega,rfl⟩,⟨jm.nil _ _,(fun x hx=>by cases hx),by simp,rfl⟩,h.row.rowT,by simp⟩,?_,fun b hb=>?_⟩
 ·rw[List.nodup_append]
  refine⟨by unfold zx;cases ov.ownBlock<;>simp,h.row.nd.1,fun x hx y hy e=>?_⟩;subst e;exact h.ne x hy (Ce.1 hx)
 ·rcases Ec.1 hb with h9|h9
  ·exact hlt b h9
  ·exact h.row.nd.2 b h9
theorem Md.bcw {w9:bf} {ca:Option Addr} {cn cc:Nat} {code:List ku} {aa:Option Addr} {an ac:Nat} (h:Md W4 sb at_ ov args ak (.slice aa an ac) ov abs wr) (hsb:sb<W4.heap.size) (Qm:Below wr.heap.size wr w9) (Jd:jm Gx w9 wr.heap.size (.slice ca cn cc) code) (hok:∀x,x∈code->okI x) (hcl:code.length<=2000000) (hal:args.length<=2000000) :
  ∃va n2 vc w5 X aac,w9.cell? ⟨sb,5,none⟩=some (.slice aa an ac)∧(w9.alloc (.cells #[.slice ca cn cc] 56)).cell? ⟨sb,5,none⟩=some (.slice aa an ac)∧sb<w9.heap.size∧Hid ((Builtin.append_ #[58,58] 58 #[.slice aa an ac,.slice (some ⟨w9.heap.size,0,none⟩) 1 1]).run Tryz.prog (w9.alloc (.cells #[.slice ca cn cc] 56))=.ok (.slice va n2 vc) w5)∧w5.cell? ⟨sb,5,none⟩=some (.slice aa an ac)∧w5.frozen? ⟨sb,5,none⟩=false∧sb<w5.heap.size∧Hid (X=w5.setCell ⟨sb,5,none⟩ (.slice va n2 vc))∧Hid (Md W4 sb at_ ov (args++[code]) ak (.slice va n2 vc) ov aac X):=by
 obtain⟨va,n2,vc,w5,aac,h1,h2,h3⟩:=h.push hsb Qm Jd hok hcl hal;have hx:=(h.below Qm).box;have hA:Below w9.heap.size w9 (w9.alloc (.cells #[.slice ca cn cc] 56)):=(gy _ _).alloc (gq _) _;exact⟨va,n2,vc,w5,_,aac,hx.cell (i:=5) (v:=.slice aa an ac) rfl,(hx.below hA hx.lt).cell (i:=5) (v:=.slice aa an ac) rfl,hx.lt,hide h1,h2.1,h2.2.1,h2.2.2,hide rfl,hide h3⟩
end
theorem ahj {w:bf} {b o n cap:Nat} {f:List dh} (h:iy 1 16 wz 0 w (.slice (some ⟨b,o,none⟩) n cap) f) (p:Nat) (hp:p<=f.length):iy 1 16 wz 0 w (.slice (if cap=p then some ⟨b,o,none⟩ else some ⟨b,o+p,none⟩) (f.length-p) (cap-p)) (f.drop p):=by
 by_cases c:cap=p
 ·rw[gu c]
  obtain⟨a',c',hv,⟨h2,h3⟩,h4,hx⟩:=h;simp only[qw] at hv;have e:f.drop p=[]:=List.drop_eq_nil_of_le (by omega);rw[e];exact⟨_,cap-p,by rw[show f.length-p=0 from by omega];rfl,⟨by unfold Len;simp,jg _⟩,by unfold Len;simp,fun i hi=>absurd hi (yt _)⟩
 ·rw[ay c]
  have h9:=h.sub p f.length hp (gq _)
  have e:vw f p f.length=f.drop p:=by
   unfold vw;exact Qg (by rw[Dh];exact gq _)
  rw[e] at h9;simpa using h9
theorem ar1 {w:bf} {a:Option Addr} {n cap:Nat} {f:List dh} (h:iy 1 16 wz 0 w (.slice a n cap) f) (q:Nat) (hq:q<=f.length):iy 1 16 wz 0 w (.slice a q cap) (f.take q):=by
 obtain⟨a',c',hv,⟨h2,h3⟩,h4,hx⟩:=h;simp only[qw] at hv;obtain⟨rfl,_,rfl⟩:=hv;have hl:(f.take q).length=q:=by rw[Nq];omega
 refine⟨a,cap,by rw[hl],⟨by rw[hl];unfold Len at *;omega,by omega⟩,by rw[hl];unfold Len at *;omega,fun i hi=>?_⟩;obtain⟨b,o,cs,r1,r2,r3,r4,r5,r6⟩:=hx i (by omega);refine⟨b,o,cs,r1,r2,r3,r4,r5,?_⟩;rw[List.getElem_take];exact r6
theorem aul (rest:List dh) (hne:rest≠[]) (e:Nat) (he:(jd rest Cb<0∧e=rest.length)∨jd rest Cb=(e:Int)):e<=rest.length∧P7 rest=Bf (rest.take e)::P7 (rest.drop (e+1)):=by
 have key:∀k (hk:k<rest.length),rest[k]=Cb->(∀j (hj:j<rest.length),j<k->rest[j]≠Cb)->P7 rest=Bf (rest.take k)::P7 (rest.drop (k+1)):=fun k hk h1 h2=>by
  have e1:rest=rest.take k++Cb::rest.drop (k+1):=by
   rw[←h1,List.getElem_cons_drop,Pj]
  have h3:Cb∉rest.take k:=fun h9=>by
   obtain⟨j,hj,h8⟩:=List.mem_iff_getElem.1 h9;rw[List.getElem_take] at h8;rw[Nq] at hj;exact h2 j (by omega) (by omega) h8
  have h4:=axn (rest.take k) (rest.drop (k+1)) h3;rw[←e1] at h4;exact h4
 unfold jd at he
 cases hf:rest.findIdx? (fun x=>x.toList == Cb.toList) with
 | some i =>
  rw[hf] at he;simp only at he
  obtain rfl:i=e:=by
   rcases he with h9|h9
   ·omega
   ·omega
  have h9:=List.findIdx?_eq_some_iff_getElem.1 hf;obtain⟨hi,h1,h2⟩:=h9;refine⟨by omega,key i hi (by rw[zk] at h1;exact xq h1) (fun j hj hlt e9=>?_)⟩;have h3:=h2 j hlt;rw[e9] at h3;simp at h3
 | none =>
  rw[hf] at he;simp only at he
  obtain rfl:e=rest.length:=by
   rcases he with h9|h9
   ·exact h9.2
   ·omega
  have h9:=List.findIdx?_eq_none_iff.1 hf;refine⟨gq _,?_⟩;rw[auf rest hne (fun hm=>by have h8:=h9 _ hm;simp at h8),Eb,List.drop_eq_nil_of_le (by omega),amk]
def StP (s:lu) (w:bf) (e:Ending) (w':bf):Prop:=∃oa on oc ca cn cc aa an ac sb,e=.returned (.agg #[.int .i64 s.kind,.string s.name,.int .i64 s.at_,.slice oa on oc,.slice ca cn cc,.slice aa an ac])∧Y6 w' [.int .i64 s.kind,.string s.name,.int .i64 s.at_,.slice oa on oc,.slice ca cn cc,.slice aa an ac] s sb∧sb.Nodup∧(∀b,b∈sb->w.heap.size<=b∧b<w'.heap.size)∧Below w.heap.size w w'
theorem ax1 {W4 wr W:bf} {sb on oc:Nat} {at_:Int} {oa:Option Addr} {args:List (List ku)} {ak:List dh} {av:Value} {abs:List Nat} (h:Md W4 sb at_ (.slice oa on oc) args ak av (.slice oa on oc) abs wr) (hsb:sb<W4.heap.size) (hW:Below wr.heap.size wr W) (hol:ak.length<=2000000) (f:List dh) (v:Value) (hv:iy 1 16 wz 0 W v f) (i:Nat) (hi:i<=2000000) :
  Calls Tryz.prog 30 #[v,.int .i64 (i:Int)] W (fun e w9=>∃va n2 vc w5 X,e=.returned (.string (fA f i))∧w9.cell? ⟨sb,3,none⟩=some (.slice oa on oc)∧(w9.alloc (.cells #[.string (fA f i)] 9)).cell? ⟨sb,3,none⟩=some (.slice oa on oc)∧sb<w9.heap.size∧Hid ((Builtin.append_ #[40,40] 40 #[.slice oa on oc,.slice (some ⟨w9.heap.size,0,none⟩) 1 1]).run Tryz.prog (w9.alloc (.cells #[.string (fA f i)] 9))=.ok (.slice va n2 vc) w5)∧w5.cell? ⟨sb,3,none⟩=some (.slice oa on oc)∧w5.frozen? ⟨sb,3,none⟩=false∧sb<w5.heap.size∧Hid (X=w5.setCell ⟨sb,3,none⟩ (.slice va n2 vc))∧Hid (Md W4 sb at_ (.slice va n2 vc) args (ak++[fA f i]) av (.slice va n2 vc) abs X)):=by
 refine(aa5 f v W i hi hv).mono ?_;rintro e w9 ⟨rfl,yu⟩;have hb:Below wr.heap.size wr w9:=hW.trans (yu.mono hW.size);obtain⟨va,n2,vc,w5,h1,h2,h3⟩:=h.out (p:=fA f i) hsb hb hol;have hx:=(h.below hb).box;have hA:Below w9.heap.size w9 (w9.alloc (.cells #[.string (fA f i)] 9)):=(gy _ _).alloc (gq _) _;exact⟨va,n2,vc,w5,_,rfl,hx.cell (i:=3) (v:=.slice oa on oc) rfl,(hx.below hA hx.lt).cell (i:=3) (v:=.slice oa on oc) rfl,hx.lt,hide h1,h2.1,h2.2.1,h2.2.2,hide rfl,hide h3⟩
theorem aml {W4 wr W:bf} {sb on oc an ac:Nat} {at_:Int} {oa aa:Option Addr} {args:List (List ku)} {ak:List dh} {abs:List Nat} (h:Md W4 sb at_ (.slice oa on oc) args ak (.slice aa an ac) (.slice oa on oc) abs wr) (hsb:sb<W4.heap.size) (hW:Below wr.heap.size wr W) (hE:Zc W) (ps:List dh) (v:Value) (hv:iy 1 16 wz 0 W v ps) (hs:∀p,p∈ps->p.size<=1048576) (hl:ps.length<=1048577) (hal:args.length<=1048577) :
  Calls Tryz.prog 60 #[v] W (fun e w9=>∃ca cn cc va n2 vc w5 X aac,e=.returned (.slice ca cn cc)∧w9.cell? ⟨sb,5,none⟩=some (.slice aa an ac)∧(w9.alloc (.cells #[.slice ca cn cc] 56)).cell? ⟨sb,5,none⟩=some (.slice aa an ac)∧sb<w9.heap.size∧Hid ((Builtin.append_ #[58,58] 58 #[.slice aa an ac,.slice (some ⟨w9.heap.size,0,none⟩) 1 1]).run Tryz.prog (w9.alloc (.cells #[.slice ca cn cc] 56))=.ok (.slice va n2 vc) w5)∧w5.cell? ⟨sb,5,none⟩=some (.slice aa an ac)∧w5.frozen? ⟨sb,5,none⟩=false∧sb<w5.heap.size∧Hid (X=w5.setCell ⟨sb,5,none⟩ (.slice va n2 vc))∧Hid (Md W4 sb at_ (.slice oa on oc) (args++[Bf ps]) ak (.slice va n2 vc) (.slice oa on oc) aac X)):=by
 refine(amb ps v W hE hv hs hl).mono ?_;rintro e w9 ⟨v9,rfl,Jd,yu⟩;obtain⟨ca,cc,rfl⟩:=Jd.slice;have hb:Below wr.heap.size wr w9:=hW.trans (yu.mono hW.size)
 obtain⟨va,n2,vc,w5,X,aac,h1⟩:=h.bcw hsb hb (Jd.low hW.size) (fun x hx=>by
  obtain⟨p,hp,rfl⟩:=List.mem_map.1 hx;exact apk p (hs p hp)) (by unfold Bf;rw[Ad];omega) (by omega)
 exact⟨ca,_,cc,va,n2,vc,w5,X,aac,rfl,h1⟩
theorem ax2 (f:List dh) (v:Value) (w:bf) (hE:Zc w) (hv:iy 1 16 wz 0 w v f) (hs:∀p,p∈f->p.size<=1048576) (h1:1<=f.length) (hl:f.length<=1048577):Calls Tryz.prog 61 #[v] w (StP (adg f) w):=by
 obtain⟨PO,Gv⟩:∃PO:Ending->bf->Prop,PO=StP (adg f) w:=⟨_,rfl⟩;rw[←Gv];have Dn:=hide Gv;clear Gv;obtain⟨a,cap,rfl⟩:=hv.shape;obtain⟨b,o,rfl,hbl,_,_⟩:=aha hv 0 h1
 have hcap:f.length<=cap:=by
  obtain⟨a',c',D6,⟨h2,h3⟩,_⟩:=hv;simp only[qw] at D6;omega
 have hz1:(fA f 1).size<=1048576:=by
  by_cases c:1<f.length
  ·rw[←Jo f 1 c];exact hs _ (pz c)
  ·rw[agq f 1 c];decide
 obtain⟨X0,hX0⟩:∃z,z=w.alloc (.cells #[.int .i64 0,.string ⟨#[]⟩,.int .i64 0,.slice none 0 0,.slice none 0 0,.slice none 0 0] 60):=⟨_,rfl⟩;have hA:Below w.heap.size w X0:=by rw[hX0];exact(gy _ _).alloc (gq _) _
 have hR0:jc X0 w.heap.size 60 #[.int .i64 0,.string ⟨#[]⟩,.int .i64 0,.slice none 0 0,.slice none 0 0,.slice none 0 0]:=by rw[hX0];exact og _ _ _
 have HR0:=hide hR0;have HA:=hide hA;have Rt:Hid (∀W,Below w.heap.size w W->iy 1 16 wz 0 W (.slice (some ⟨b,o,none⟩) f.length cap) f):=hide (fun W hW=>hv.stays zo hW);have Vz:Hid (∀W,Below w.heap.size w W->Zc W):=hide (fun W hW=>hE.below hW hE.env.three);have HP:=hide (Yl f _ X0 1 (by omega) (uh Rt X0 hA));have HNU:=hide (Xw (fA f 1) X0 (uh Vz X0 hA) hz1);obtain⟨at_,hat⟩:∃z,z=Ot (fA f 1):=⟨_,rfl⟩;have HAT:Hid (I64 at_):=hide (by rw[hat];exact aeb _);have Af:=hide hs;have HX0:=hide hX0;have Qj:Hid (adg f=⟨3,E0,at_,vw f 2 (jd f ou).toNat,[],P7 (f.drop (jd f ou+1).toNat)⟩):=hide (by rw[hat];rfl);rw[←hat] at HNU;have ba7:=hide (Yc f ou);have ba8:Hid (-1<=jd f ou):=hide (by unfold jd;split<;>omega);clear hat hz1 hX0 hA hR0 hv hs hE hbl;go_enter Tryz.func61,Tryz.ntmps61;go_wp2_with fail;rw[←uh HX0];refine(uh HP).mono ?_;rintro e w9 ⟨rfl,Qm⟩;obtain rfl:=Qm.symm;go_wp2_with fail;refine(uh HNU).mono ?_;rintro e w1 ⟨rfl,hb1⟩;have hBw1:Below w.heap.size w w1:=(uh HA).trans (hb1.mono (uh HA).size);have hR1:=(uh HR0).below hb1 (uh HR0).lt;obtain⟨W4,hW4⟩:∃z,z=w1.alloc (.cells #[.int .i64 3,.string ⟨#[]⟩,.int .i64 at_,.slice none 0 0,.slice none 0 0,.slice none 0 0] 60):=⟨_,rfl⟩;obtain⟨sb,hsb⟩:∃z,z=w1.heap.size:=⟨_,rfl⟩;have hb4:Below w1.heap.size w1 W4:=by rw[hW4];exact(gy _ _).alloc (gq _) _
 have ala:jc W4 sb 60 #[.int .i64 3,.string ⟨#[]⟩,.int .i64 at_,.slice none 0 0,.slice none 0 0,.slice none 0 0]:=by rw[hW4];exact aa8 hsb
 have HR4:Hid (jc W4 w.heap.size 60 #[.int .i64 0,.string ⟨#[]⟩,.int .i64 0,.slice none 0 0,.slice none 0 0,.slice none 0 0]):=hide (hR1.below hb4 hR1.lt);have HSL:Hid (w.heap.size<sb∧sb<W4.heap.size):=hide ⟨by rw[hsb];exact hR1.lt,ala.lt⟩;have HB4:Hid (Below w.heap.size w W4):=hide (hBw1.trans (hb4.mono hBw1.size));have Xj:=hide (Md.bcu ala);have Ef:Hid (∀X,But [sb] W4 X->Below w.heap.size w X∧jc X w.heap.size 60 #[.int .i64 0,.string ⟨#[]⟩,.int .i64 0,.slice none 0 0,.slice none 0 0,.slice none 0 0]):=hide (fun X hX=>⟨(uh HB4).trans (hX.below _ (uh HB4).size (fun x hx=>by rw[yj] at hx;rw[hx];exact Nat.le_of_lt (uh HSL).1)),hX.blk (uh HR4) (by have:=(uh HSL).1;simp only[yj];omega)⟩);have HIX:=hide (al9 f _ ou W4 (uh Rt W4 (uh HB4)));have HW4:=hide hW4;have U7:=hide hsb;clear hW4 hb4 ala hb1 hBw1 hR1 HP HNU HX0;go_wp2_with fail;rw[←uh HW4,←uh U7];clear hsb;refine(uh HIX).mono ?_;rintro e w8 ⟨rfl,hw8⟩;obtain rfl:=hw8.symm;obtain⟨pc,hpc⟩:∃z,z=jd f ou:=⟨_,rfl⟩;rw[←hpc] at Qj ba7 ba8 ⊢;clear hpc HIX;have hpl:=uh ba7;have hpg:=uh ba8;go_wp2
 go_loopg [5] (pc.toNat-2) (fun gh ix wr=>∃(i:Nat),2<=i∧((i:Int)<=pc∨i=2)∧gh=pc.toNat-i∧ix=.int .i64 (i:Int)∧Hid (∃oa on oc,Md W4 sb at_ (.slice oa on oc) [] (vw f 2 i) (.slice none 0 0) (.slice oa on oc) [] wr))
 case atStart=>exact⟨2,gq _,Or.inr rfl,rfl,rfl,hide ⟨none,0,0,uh Xj⟩⟩
 case round =>
  obtain⟨i,hi2,hip,hg,rfl,HC⟩:=hrel;have HG:=hide hg;clear hg Xj;obtain⟨oa,on,oc,hcs⟩:=uh HC;have Tz:=hide hcs;have hbw:=(uh Ef wr hcs.but).1;have hrb:=(uh Ef wr hcs.but).2;have Bl:=hide hbw;have z3:=hcs.box.cell (i:=3) (v:=.slice oa on oc) rfl;have z6:sb<wr.heap.size:=hcs.box.lt;clear HC
  by_cases hlt:(i:Int)<pc
  ·have hil:i<f.length:=by omega
   have wi:IntKind.i64.wrap ((i:Int)+1)=(i:Int)+1:=by rw[Rf];omega
   have HSK:Hid (vw f 2 (i+1)=vw f 2 i++[fA f i]):=hide (by
    unfold vw;have e1:i+1-2=i-2+1:=by omega
    have e2:i-2<(f.drop 2).length:=by rw[Dh];omega
    rw[e1,Fb e2,List.getElem_drop,←Jo f i hil];congr 3;omega)
   have HIT:=hide (fun W hW=>ax1 (W:=W) hcs (uh HSL).2 hW (by rw[Ru f 2 i hi2 (by omega)];omega) f _ (uh Rt W ((uh Bl).trans (hW.mono (uh Bl).size))) i (by omega));have z3d:wr.drew.cell? ⟨sb,3,none⟩=some (.slice oa on oc):=z3;clear hcs hbw hrb hil;go_wp2_with fail
   go_region_law (first|(go_simp;go_at_call 30;refine(uh HIT _ ((gy _ _).drew)).mono ?_;rintro e w9 ⟨va,n2,vc,w5,X,rfl,y1,y2,y3,Dp,y4,y5,y6,HX,Kr⟩)|(refine ug rfl _ _ 40 40 rfl rfl _ _ _ rfl rfl (uh Dp) ?_))
   all_goals
    rw[←uh HX];clear y1 y2 y3 y4 y5 y6 Dp HX z3 z3d HIT;go_wp2
    go_roundg (pc.toNat-(i+1))
    case measure=>have:=uh HG;omega
    case rel=>exact⟨i+1,by omega,Or.inl (by omega),rfl,by go_num,hide ⟨va,n2,vc,by rw[uh HSK];exact uh Kr⟩⟩
  ·have hge:¬(i:Int)<pc:=hlt
   have dge:decide ((i:Int)<pc)=false:=iw hlt
   have HOU:Hid (vw f 2 i=vw f 2 pc.toNat):=hide (by
    by_cases c:2<=pc
    ·rw[show pc.toNat=i from by omega]
    ·unfold vw
     rw[show i-2=0 from by omega,show pc.toNat-2=0 from by omega])
   rw[uh HOU] at Tz;obtain⟨j,hj⟩:=H8 (show 0<=pc+1 by omega);have HJ:=hide hj;have wj:IntKind.i64.wrap (pc+1)=(j:Int):=by rw[Rf];omega
   have hjl:j<=f.length:=by omega
   have hjI:(j:Int)<=(f.length:Int):=by omega
   have hjc:j<=cap:=by omega
   have hjC:(j:Int)<=(cap:Int):=by omega
   have hj0:(0:Int)<=(j:Int):=by omega
   obtain⟨x1,hif⟩:∃x,(if cap=j then some (⟨b,o,none⟩:Addr) else some ⟨b,o+j,none⟩)=some ⟨b,x,none⟩:=by
    by_cases c:cap=j
    ·exact⟨o,gu c⟩
    ·exact⟨o+j,ay c⟩
   have HRS:Hid (∀W,Below w.heap.size w W->iy 1 16 wz 0 W (.slice (some ⟨b,x1,none⟩) (f.length-j) (cap-j)) (f.drop j)):=hide (fun W hW=>by have h9:=ahj (uh Rt W hW) j hjl;rw[hif] at h9;exact h9);have HCJ:Hid ((pc+1).toNat=j):=hide (by omega);rw[uh HCJ] at Qj;clear hj hlt hcs hbw hip z3 HOU HCJ hi2 HG;go_wp2
   go_loopg [6,7] (f.length-j) (fun gh rv ev wr=>∃(x2 rn rc:Nat),gh=rn∧rv=.slice (some ⟨b,x2,none⟩) rn rc∧Hid (∃rest:List dh,rn=rest.length∧(∀W,Below w.heap.size w W->iy 1 16 wz 0 W (.slice (some ⟨b,x2,none⟩) rn rc) rest)∧(∀p,p∈rest->p.size<=1048576)∧∃args aa an ac abs,args++P7 rest=P7 (f.drop j)∧args.length+rest.length<=1048577∧Md W4 sb at_ (.slice oa on oc) args (vw f 2 pc.toNat) (.slice aa an ac) (.slice oa on oc) abs wr))
   case atStart=>exact⟨x1,f.length-j,cap-j,rfl,rfl,hide ⟨f.drop j,by rw[Dh],uh HRS,fun p hp=>uh Af p (List.mem_of_mem_drop hp),[],none,0,0,[],rfl,by rw[Dh,A8];omega,uh Tz⟩⟩
   case round =>
    obtain⟨x2,rn,rc,hg,rfl,HR⟩:=hrel;have HG:=hide hg;clear hg HRS Tz;obtain⟨rest,hrn,hsl,hrz,args,aa,an,ac,abs,hargs,hlen,hca⟩:=uh HR;have Yf:=hide hca;have HRN:=hide hrn;have aum:=hide hsl;have HRZ:=hide hrz;have HAR:=hide hargs;have HLEN:=hide hlen;have alb:=uh Ef wr hca.but;have afe:=hide alb.1;have Zm:=hide alb.2;have z5:=hca.box.cell (i:=5) (v:=.slice aa an ac) rfl;have z6':sb<wr.heap.size:=hca.box.lt
    have hrc:rn<=rc:=by
     obtain⟨a',c',D6,⟨h2,h3⟩,_⟩:=hsl wr alb.1;simp only[qw] at D6;omega
    have hrl:rn<=1048577:=by omega
    by_cases hpos:0<rn
    ·have bfe:(0:Int)<(rn:Int):=by omega
     have bbc:=hide (al9 rest _ Cb wr (hsl wr alb.1));have bec:=Yc rest Cb;have bf0 : -1<=jd rest Cb:=by unfold jd;split<;>omega
     obtain⟨e9,he9⟩:∃e:Nat,(jd rest Cb<0∧e=rest.length)∨jd rest Cb=(e:Int):=by
      by_cases c:jd rest Cb<0
      ·exact⟨rest.length,Or.inl ⟨c,rfl⟩⟩
      ·exact⟨(jd rest Cb).toNat,Or.inr (by omega)⟩
     obtain⟨hel,hst⟩:=aul rest (fun e=>by rw[e] at hrn;simp at hrn;omega) e9 he9;have HEL:=hide hel;have bbd:=hide hst;have bf1:e9<=rn:=by omega
     have bf2:e9<=rc:=by omega
     have bf3:(e9:Int)<=(rc:Int):=by omega
     have we9:IntKind.i64.wrap ((e9:Int)+1)=(e9:Int)+1:=by rw[Rf];omega
     obtain⟨m,hm⟩:∃m:Nat,m=min (e9+1) rn:=⟨_,rfl⟩;have hmin:min ((e9:Int)+1) (rn:Int)=(m:Int):=by omega
     have hm1:1<=m:=by omega
     have hmr:m<=rn:=by omega
     have hmc:m<=rc:=by omega
     have hmI:(m:Int)<=(rn:Int):=by omega
     have hmC:(m:Int)<=(rc:Int):=by omega
     have HDM:Hid (rest.drop (e9+1)=rest.drop m):=hide (by
      by_cases c:e9+1<=rn
      ·rw[show m=e9+1 from by omega]
      ·rw[List.drop_eq_nil_of_le (by omega),List.drop_eq_nil_of_le (by omega)])
     obtain⟨x3,bbe⟩:∃x,(if rc=m then some (⟨b,x2,none⟩:Addr) else some ⟨b,x2+m,none⟩)=some ⟨b,x,none⟩:=by
      by_cases c:rc=m
      ·exact⟨x2,gu c⟩
      ·exact⟨x2+m,ay c⟩
     rw[←hrn] at he9 bec;clear hm;generalize jd rest Cb=pq at *;clear hca hrn hsl hrz hargs hlen alb hel hst HR;go_wp2_with fail;refine(uh bbc).mono ?_;rintro e w7 ⟨rfl,hw7⟩;obtain rfl:=hw7.symm;clear bbc
     by_cases hneg:pq<0
     ·obtain rfl:e9=rn:=by omega
      have bed:decide (pq<0)=true:=jf hneg;clear he9;have HIT:=hide (fun W hW=>aml (W:=W) (uh Yf) (uh HSL).2 hW (uh Vz W ((uh afe).trans (hW.mono (uh afe).size))) (rest.take e9) _ (ar1 (uh aum W ((uh afe).trans (hW.mono (uh afe).size))) e9 (uh HEL)) (fun p hp=>uh HRZ p (List.mem_of_mem_take hp)) (by rw[Nq];have:=uh HLEN;omega) (by have:=uh HLEN;omega));have z5d:wr.drew.cell? ⟨sb,5,none⟩=some (.slice aa an ac):=z5;go_wp2_with fail
      go_region_law (first|(go_simp;go_at_call 60;refine(uh HIT _ ((gy _ _).drew)).mono ?_;rintro e w9 ⟨ca,cn,cc,va9,n29,vc9,w59,X,alc,rfl,y1,y2,y3,Dp,y4,y5,y6,HX,Kr⟩)|(refine ug rfl _ _ 58 58 rfl rfl _ _ _ rfl rfl (uh Dp) ?_))
      all_goals
       rw[←uh HX];clear y1 y2 y3 y4 y5 y6 Dp HX z5 z5d HIT;have HTS:Hid (∀W,Below w.heap.size w W->iy 1 16 wz 0 W (.slice (some ⟨b,x3,none⟩) (e9-m) (rc-m)) (rest.drop m)):=hide (fun W hW=>by have h9:=ahj (uh aum W hW) m (by rw[←uh HRN];exact hmr);rw[bbe,←uh HRN] at h9;exact h9);go_wp2
       go_roundg (e9-m)
       case measure=>have:=uh HG;omega
       case rel=>exact⟨x3,e9-m,rc-m,rfl,rfl,hide ⟨rest.drop m,by rw[Dh,←uh HRN],uh HTS,fun p hp=>uh HRZ p (List.mem_of_mem_drop hp),args++[Bf (rest.take e9)],va9,n29,vc9,alc,by rw[←uh HAR,uh bbd,uh HDM,Gt];rfl,by rw[je,Dh,Ob];have:=uh HLEN;have:=uh HRN;omega,uh Kr⟩⟩
     ·obtain rfl:pq=(e9:Int):=by omega
      have bed:decide ((e9:Int)<0)=false:=iw (by omega);clear he9 hneg;have HIT:=hide (fun W hW=>aml (W:=W) (uh Yf) (uh HSL).2 hW (uh Vz W ((uh afe).trans (hW.mono (uh afe).size))) (rest.take e9) _ (ar1 (uh aum W ((uh afe).trans (hW.mono (uh afe).size))) e9 (uh HEL)) (fun p hp=>uh HRZ p (List.mem_of_mem_take hp)) (by rw[Nq];have:=uh HLEN;omega) (by have:=uh HLEN;omega));have z5d:wr.drew.cell? ⟨sb,5,none⟩=some (.slice aa an ac):=z5;go_wp2_with fail
      go_region_law (first|(go_simp;go_at_call 60;refine(uh HIT _ ((gy _ _).drew)).mono ?_;rintro e w9 ⟨ca,cn,cc,va9,n29,vc9,w59,X,alc,rfl,y1,y2,y3,Dp,y4,y5,y6,HX,Kr⟩)|(refine ug rfl _ _ 58 58 rfl rfl _ _ _ rfl rfl (uh Dp) ?_))
      all_goals
       rw[←uh HX];clear y1 y2 y3 y4 y5 y6 Dp HX z5 z5d HIT;have HTS:Hid (∀W,Below w.heap.size w W->iy 1 16 wz 0 W (.slice (some ⟨b,x3,none⟩) (rn-m) (rc-m)) (rest.drop m)):=hide (fun W hW=>by have h9:=ahj (uh aum W hW) m (by rw[←uh HRN];exact hmr);rw[bbe,←uh HRN] at h9;exact h9);go_wp2
       go_roundg (rn-m)
       case measure=>have:=uh HG;omega
       case rel=>exact⟨x3,rn-m,rc-m,rfl,rfl,hide ⟨rest.drop m,by rw[Dh,←uh HRN],uh HTS,fun p hp=>uh HRZ p (List.mem_of_mem_drop hp),args++[Bf (rest.take e9)],va9,n29,vc9,alc,by rw[←uh HAR,uh bbd,uh HDM,Gt];rfl,by rw[je,Dh,Ob];have:=uh HLEN;have:=uh HRN;omega,uh Kr⟩⟩
    ·have hz:¬(0:Int)<(rn:Int):=by omega
     have dz:decide ((0:Int)<(rn:Int))=false:=iw hz;have hre:rest=[]:=Qe (by omega);have HAE:Hid (args=P7 (f.drop j)):=hide (by rw[←uh HAR,hre,amk,Az]);obtain⟨hT,hnd,aam⟩:=(uh Yf).bcv (fun x hx=>by have h9:=uh Af x (List.mem_of_mem_drop (List.mem_of_mem_take hx));unfold okS Len;omega) (by unfold vw;rw[Nq,Dh];omega) (uh HAT);have hbx:=(((((((uh Zm).set 0 (.int .i64 3)).set 1 (.string ⟨#[]⟩)).set 2 (.int .i64 at_)).set 3 (.slice oa on oc)).set 4 (.slice none 0 0)).set 5 (.slice aa an ac));have hbq:=uh afe;have hq9:Below wr.heap.size wr wr:=gy _ _
     have HTF:Hid (Y6 ((((((wr.setCell ⟨w.heap.size,0,none⟩ (.int .i64 3)).setCell ⟨w.heap.size,1,none⟩ (.string ⟨#[]⟩)).setCell ⟨w.heap.size,2,none⟩ (.int .i64 at_)).setCell ⟨w.heap.size,3,none⟩ (.slice oa on oc)).setCell ⟨w.heap.size,4,none⟩ (.slice none 0 0)).setCell ⟨w.heap.size,5,none⟩ (.slice aa an ac)) [.int .i64 3,.string ⟨#[]⟩,.int .i64 at_,.slice oa on oc,.slice none 0 0,.slice aa an ac] ⟨3,⟨#[]⟩,at_,vw f 2 pc.toNat,[],args⟩ (zx (.slice oa on oc)++abs)):=hide (Qz _ _ _ _ _ hT (fun b9 yu=>by
      have h9:=(aam b9 yu).1;have h8:=uh HSL;have hne:b9≠w.heap.size:=by omega
      rw[yx _ ⟨w.heap.size,5,none⟩ _ _ hne,yx _ ⟨w.heap.size,4,none⟩ _ _ hne,yx _ ⟨w.heap.size,3,none⟩ _ _ hne,yx _ ⟨w.heap.size,2,none⟩ _ _ hne,yx _ ⟨w.heap.size,1,none⟩ _ _ hne,yx _ ⟨w.heap.size,0,none⟩ _ _ hne]))
     have qc:Hid (PO (.returned (.agg #[.int .i64 3,.string ⟨#[]⟩,.int .i64 at_,.slice oa on oc,.slice none 0 0,.slice aa an ac])) ((((((wr.setCell ⟨w.heap.size,0,none⟩ (.int .i64 3)).setCell ⟨w.heap.size,1,none⟩ (.string ⟨#[]⟩)).setCell ⟨w.heap.size,2,none⟩ (.int .i64 at_)).setCell ⟨w.heap.size,3,none⟩ (.slice oa on oc)).setCell ⟨w.heap.size,4,none⟩ (.slice none 0 0)).setCell ⟨w.heap.size,5,none⟩ (.slice aa an ac))):=hide (by
      rw[uh Dn,uh Qj,←uh HAE];refine⟨oa,on,oc,none,0,0,aa,an,ac,_,rfl,uh HTF,hnd,fun b9 yu=>?_,((((((hbq.setCell (p:=⟨w.heap.size,0,none⟩) (gq _) (.int .i64 3)).setCell (p:=⟨w.heap.size,1,none⟩) (gq _) (.string ⟨#[]⟩)).setCell (p:=⟨w.heap.size,2,none⟩) (gq _) (.int .i64 at_)).setCell (p:=⟨w.heap.size,3,none⟩) (gq _) (.slice oa on oc)).setCell (p:=⟨w.heap.size,4,none⟩) (gq _) (.slice none 0 0)).setCell (p:=⟨w.heap.size,5,none⟩) (gq _) (.slice aa an ac))⟩;have h9:=aam b9 yu;have h8:=uh HSL;refine⟨by omega,?_⟩;simp only[World.setCell,Array.size_modify] at *
      first|exact h9.2|(simp;exact h9.2))
     have s0:=(uh Yf).box.cell (i:=0) (v:=.int .i64 3) rfl;have s1:=(uh Yf).box.cell (i:=1) (v:=.string ⟨#[]⟩) rfl;have s2:=(uh Yf).box.cell (i:=2) (v:=.int .i64 at_) rfl;have s3:=(uh Yf).box.cell (i:=3) (v:=.slice oa on oc) rfl;have s4:=(uh Yf).box.cell (i:=4) (v:=.slice none 0 0) rfl;have s5:=(uh Yf).box.cell (i:=5) (v:=.slice aa an ac) rfl;have r0:=(uh Zm).cell (i:=0) (v:=.int .i64 0) rfl;have g0:=(uh Zm).free 0;have r1:=(uh Zm).cell (i:=1) (v:=.string ⟨#[]⟩) rfl;have g1:=(uh Zm).free 1;have r2:=(uh Zm).cell (i:=2) (v:=.int .i64 0) rfl;have g2:=(uh Zm).free 2;have r3:=(uh Zm).cell (i:=3) (v:=.slice none 0 0) rfl;have g3:=(uh Zm).free 3;have r4:=(uh Zm).cell (i:=4) (v:=.slice none 0 0) rfl;have g4:=(uh Zm).free 4;have r5:=(uh Zm).cell (i:=5) (v:=.slice none 0 0) rfl;have g5:=(uh Zm).free 5;have Om:=hide (And.intro (hbx.cell (i:=0) (v:=.int .i64 3) rfl) (And.intro (hbx.cell (i:=1) (v:=.string ⟨#[]⟩) rfl) (And.intro (hbx.cell (i:=2) (v:=.int .i64 at_) rfl) (And.intro (hbx.cell (i:=3) (v:=.slice oa on oc) rfl) (And.intro (hbx.cell (i:=4) (v:=.slice none 0 0) rfl) (hbx.cell (i:=5) (v:=.slice aa an ac) rfl))))));have bf4:=(uh Zm).lt;clear hbx hbq hT hnd aam hre hca hrn hsl hrz hargs hlen alb HR hq9;go_wp2;obtain⟨f0,f1,f2,f3,f4,f5⟩:=uh Om;exact bodyPost_ret (v:=.agg #[.int .i64 3,.string ⟨#[]⟩,.int .i64 at_,.slice oa on oc,.slice none 0 0,.slice aa an ac]) (by simp[results,Tryz.results61,go_sem,f0,f1,f2,f3,f4,f5]) rfl (uh qc)
theorem acf (kd:Int) (nm:dh) (w:bf) (h:Len nm.size∧I64 kd):Y6 w [.int .i64 kd,.string nm,.int .i64 0,.slice none 0 0,.slice none 0 0,.slice none 0 0] ⟨kd,nm,0,[],[],[]⟩ []:=by
 have z:∀{α:Type} (E:F6 Tryz.prog α) (ok:α->Prop),Ub E ok w (.slice none 0 0) [] []:=fun E ok=>⟨jm.nil _ _,(fun x hx=>by cases hx),by simp,rfl⟩
 exact⟨_,_,_,[],[],[],rfl,h.1,h.2,by unfold I64;simp only;omega,z _ _,z _ _,⟨[],[],jm.nil _ _,by simp,.nil,rfl⟩,rfl⟩
set_option maxRecDepth 1000000 in
theorem bee (cu:dh) (a:List dw) (k:dw) (hf0:fA (wordsOf 32 cu) 0=Qn) (Ph:(wordsOf 32 cu).length=2):Ji cu (a++[k]):=by
 intro t rb mb lg n lc u q hu hq hn K K1 PO wr W1 mv bs hgs Jj hlz hwq HK hm;have hfz:=(yg 32 cu).1;have hfp:1<=(wordsOf 32 cu).length:=Bg.2 (Aj 32 cu);have Dc:=hide (Du hgs cu hlz);have HKK:=hide HK;have zf:=hide (Dv (a++[k]) cu);have Ol:=hide hgs;have Ug:(q:Int)<(n:Int):=by omega
 have Ci:=hide hwq;clear HK hgs hwq;rw[zh,hu];conv=>arg 2;whnf
 have Af:=hide (zq cu hlz);generalize wordsOf 32 cu=f at *;obtain⟨Df,Jr,Gy,Hu,Ih,Iw,Gs,Em,Lr,Et⟩:=Vg hf0 false false false false false false false false true false (by decide)
 have Gn:Hid (stepS (a++[k]) cu=a++[Dw k ⟨4,(fA f 1),0,[],[],[]⟩]):=hide (by
  rw[uh zf];unfold Iz;rw[qg hf0 (by decide),Ae];unfold lineS;rw[qg hf0 (by decide),qg hf0 (by decide),qg hf0 (by decide),qg hf0 (by decide),qg hf0 (by decide),qg hf0 (by decide),qg hf0 (by decide),gu ⟨hf0,Ph⟩])
 have HY:Hid (Len (fA f 1).size∧I64 4):=hide ⟨by have h9:=(uh Af).2 (fA f 1) (by rw[←Jo f 1 (by omega)];exact pz _);unfold Len;omega,by unfold I64;omega⟩;have d2:((f.length:Int) == 2)=true:=by rw[Ph];rfl
 have HL2:=hide Ph;clear hf0 zf Ph;go_wp2_with fail;refine(uh Dc).mono ?_;rintro e w2 ⟨fg,fc,rfl,o7,Dk,hfl⟩;have x0:=uh Dk 0 (by omega);obtain⟨g,mc,hmv⟩:=E8 (uh o7).1.row;obtain⟨al,hal⟩:∃z,z=a.length:=⟨_,rfl⟩;have Ba:=hide hal
 have hnb:al<=1048577:=by
  have h9:=uh Ci;unfold oq at h9;rw[je] at h9;omega
 rw[←hal] at hmv;clear hal;subst hmv;have m0:=(uh o7).1.box.cell (i:=0) (v:=.slice (some ⟨g,0,none⟩) (al+1) mc) rfl;have hml:mb<w2.heap.size:=(uh o7).1.box.lt;have Bj:=hide (Aa f (.slice (some ⟨fg,0,none⟩) f.length fc) ou w2 (Fh (uh o7).2.1 (uh Af)));obtain⟨c0,c1,c2,c3⟩:=gc al f.length (by omega) (by omega);go_wp2_with fail;refine(uh Bj).mono ?_;rintro e w3 ⟨rfl,hw3⟩;obtain rfl:=hw3.symm;have x1:=uh Dk 1 (by have:=uh HL2;omega);have hl1:(1:Int)<(f.length:Int):=by have:=uh HL2;omega
 have aiz:1<f.length:=by have:=uh HL2;omega
 have Uj:=hide (uh o7).1;have hA:Below w2.heap.size w2 (w2.alloc (.cells #[.int .i64 4,.string (fA f 1),.int .i64 0,.slice none 0 0,.slice none 0 0,.slice none 0 0] 60)).drew:=((gy _ _).alloc (gq _) _).drew;have hgA:=(uh Uj).below hA;obtain⟨v1,Pn,hc1,ho1,hl6,hgl,hgrow⟩:=yh.aev hgA.row;rw[←uh Ba] at hc1;have hsm:=Aq (uh Ci);obtain⟨c,hcv⟩:∃c:Raw 6,c.1=[.int .i64 4,.string (fA f 1),.int .i64 0,.slice none 0 0,.slice none 0 0,.slice none 0 0]:=⟨⟨[.int .i64 4,.string (fA f 1),.int .i64 0,.slice none 0 0,.slice none 0 0,.slice none 0 0],by simp,by intro u hu;simp only[ql,xg,xk] at hu;rcases hu with rfl|rfl|rfl|rfl|rfl|rfl<;>rfl⟩,rfl⟩
 obtain⟨v',w5,hrun,yc,hg5,Gm⟩:=Dz abu (w2.alloc (.cells #[.int .i64 4,.string (fA f 1),.int .i64 0,.slice none 0 0,.slice none 0 0,.slice none 0 0] 60)).drew 48 W1.heap.size v1 Pn ho1 w2.heap.size c (fun j u hu=>by
  have hu':c.1[j]?=some u:=hu;rw[hcv] at hu';have h9:=(og w2 #[.int .i64 4,.string (fA f 1),.int .i64 0,.slice none 0 0,.slice none 0 0,.slice none 0 0] 60).cell (i:=j) (v:=u) (by simpa using hu');exact h9) (by rw[hl6];show (k.body.length+1)*104<=_;omega) (jq hgA.but.size (gq _))
 obtain⟨⟨hc5,O6⟩,bs',hmk⟩:=hgrow v' w5 c ⟨4,(fA f 1),0,[],[],[]⟩ [] (by rw[hcv];exact acf _ _ _ (uh HY)) List.nodup_nil (fun b hb=>by cases hb) yc hg5 Gm (by omega);rw[←uh Ba] at hc5 O6 hmk;have Ky:=hide (hgA.put hm ho1 (by decide) hg5 hgA.Y7 hmk);obtain⟨ia,ic,hv1⟩:=ho1.slice;obtain⟨va,vc,hv'⟩:=yc.slice;obtain⟨n1,hn1⟩:∃z,z=Pn.length:=⟨_,rfl⟩;obtain⟨n2,hn2⟩:∃z,z=(Pn++[c]).length:=⟨_,rfl⟩;rw[←hn1] at hv1;rw[←hn2] at hv';subst hv1 hv';have hrun':(Builtin.append_ #[48,48] 48 #[.slice ia n1 ic,.slice (some ⟨w2.heap.size,0,none⟩) 1 1]).run Tryz.prog (w2.alloc (.cells #[.int .i64 4,.string (fA f 1),.int .i64 0,.slice none 0 0,.slice none 0 0,.slice none 0 0] 60)).drew=.ok (.slice va n2 vc) w5:=hrun;have Dp:=hide hrun'
 have Ql:g<w2.heap.size:=by
  obtain⟨abv,Y8,Jd,_⟩:=(uh Uj).row;exact(Bd Jd g rfl).2
 have hc0:w2.cell? ⟨g,al*7+6,none⟩=some (.slice ia n1 ic):=(hA.cell (p:=⟨g,_,none⟩) Ql).symm.trans hc1;obtain⟨w6,hw6⟩:∃z,z=w5.setCell ⟨g,al*7+6,none⟩ (.slice va n2 vc):=⟨_,rfl⟩;rw[←hw6] at Ky;have Uc:=hide hw6;have aff:g<w5.heap.size:=qj hgl hg5.size;clear hrun hrun' hgrow ho1 yc hg5 Gm hmk hn1 hn2 hsm hgA hw6 hcv hl6;have qc:Hid (Gw W1 mb (stepS (a++[k]) cu) (.slice (some ⟨g,0,none⟩) (al+1) mc) bs' w6):=hide (by rw[uh Gn];exact uh Ky);have x1a:(w2.alloc (.cells #[.int .i64 4,.string (fA f 1),.int .i64 0,.slice none 0 0,.slice none 0 0,.slice none 0 0] 60)).drew.cell? ⟨fg,1,none⟩=some (.string (fA f 1)):=(hA.cell (p:=⟨fg,1,none⟩) hfl).trans x1;generalize jd f ou=pc at *;go_wp2_with fail;clear x0 m0
 go_region_law (refine ug rfl _ _ 48 48 rfl rfl _ _ _ rfl rfl (uh Dp) ?_)
 all_goals
  rw[←uh Uc];go_wp2;refine uh HKK _ _ _ _ rfl ?_ ?_ (uh qc)
  ·exact Qc rfl rfl rfl rfl rfl rfl rfl rfl rfl rfl
  ·rfl
end Go.Proofs.YtfeejeflmcapoaaGreatDoor
