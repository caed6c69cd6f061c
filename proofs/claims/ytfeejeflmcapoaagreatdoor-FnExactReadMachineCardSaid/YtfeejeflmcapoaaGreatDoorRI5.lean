import Derived.Test.YtfeejeflmcapoaaGreatDoorRH1
import Derived.Test.YtfeejeflmcapoaaGreatDoorPS1
set_option linter.unusedSimpArgs false
set_option linter.unusedVariables false
set_option maxHeartbeats 8000000
namespace Go.Proofs.YtfeejeflmcapoaaGreatDoor
open Go.RowKit
theorem a6g:V6 adb=4:=by decide +kernel
theorem a6h:V6 ade=5:=by decide +kernel
theorem bcs:V6 Wq=20:=by decide +kernel
theorem a6i:∀k:Fin 14,V6 (opAt k.val).1=(opAt k.val).2.2:=by decide +kernel
theorem a2e:∀i:Fin 17,Dq i.val=adb∨Dq i.val=ade∨Dq i.val=Wq∨∃j:Fin 14,(opAt j.val).1=Dq i.val:=by decide +kernel
theorem ba0 (p:dh) (h1:p≠adb) (h2:p≠ade) (h3:p≠Wq) (h:∀j,j<14->(opAt j).1≠p):V6 p=0:=by
 unfold V6;rw[Us p (fun i hi e=>?_)];rcases a2e ⟨i,hi⟩ with h9|h9|h9|⟨j,h9⟩
 ·exact h1 (by rw[←e];exact h9)
 ·exact h2 (by rw[←e];exact h9)
 ·exact h3 (by rw[←e];exact h9)
 ·exact h j.val j.isLt (by rw[←e];exact h9)
theorem axz (p:dh):(p.toList == [110,101,103])=decide (p=adb):=Ib p adb _ rfl
theorem ax0 (p:dh):(p.toList == [110,111,116])=decide (p=ade):=Ib p ade _ rfl
theorem ba2 (p:dh):(p.toList == [63])=decide (p=Wq):=Ib p Wq _ rfl
theorem a6j (p:dh):(p.toList == [116,114,117,101])=decide (p=N9):=Ib p N9 _ rfl
theorem a2f (p:dh):(p.toList == [102,97,108,115,101])=decide (p=J5):=Ib p J5 _ rfl
theorem a6k (p:dh) (w:bf) (h:w.rangeAt 3 0 F9):Calls Tryz.prog 120 #[.string p] w (Ans (.int .i64 (V6 p)) w):=by
 have HH:=hide h;have HP:=hide arx;clear h
 by_cases h1:p=adb
 ·have e1:(p.toList == [110,101,103])=true:=by rw[axz];exact jf h1
  have HO:Hid (V6 p=4):=hide (by rw[h1];exact a6g);clear h1;go_enter Tryz.func120,Tryz.ntmps120;go_wp2;go_ret;rw[uh HO];exact⟨rfl,gy _ _⟩
 have e1:(p.toList == [110,101,103])=false:=by rw[axz];exact iw h1
 by_cases h2:p=ade
 ·have e2:(p.toList == [110,111,116])=true:=by rw[ax0];exact jf h2
  have HO:Hid (V6 p=5):=hide (by rw[h2];exact a6h);clear h1 h2;go_enter Tryz.func120,Tryz.ntmps120;go_wp2;go_ret;rw[uh HO];exact⟨rfl,gy _ _⟩
 have e2:(p.toList == [110,111,116])=false:=by rw[ax0];exact iw h2
 by_cases h3:p=Wq
 ·have e3:(p.toList == [63])=true:=by rw[ba2];exact jf h3
  have HO:Hid (V6 p=20):=hide (by rw[h3];exact bcs);clear h1 h2 h3;go_enter Tryz.func120,Tryz.ntmps120;go_wp2;go_ret;rw[uh HO];exact⟨rfl,gy _ _⟩
 have e3:(p.toList == [63])=false:=by rw[ba2];exact iw h3
 have Cc:=hide (ba0 p h1 h2 h3);have HTB:=hide a6i;clear h1 h2 h3;go_enter Tryz.func120,Tryz.ntmps120;go_wp2_with (refine wpList_load_mid rfl 161 (.global 3) rfl 3 0 rfl F9 (.array 14 160) (uh HH) u158 rfl bav ?_);generalize F9.toArray=OC at *
 go_loopg [13] 14 (fun g i wr=>∃(k:Nat),k<=14∧g=14-k∧i=.int .i64 k∧(∀j,j<k->(opAt j).1≠p)∧Below w.heap.size w wr)
 case atStart=>exact⟨0,jg _,rfl,rfl,fun j hj=>absurd hj (yt _),gy _ _⟩
 case round =>
  obtain⟨k,hk,hg,rfl,hno,hbl⟩:=hrel;have HG:=hide hg;have HN:=hide hno;clear hg hno
  by_cases hlt:k<14
  ·have HI:=hide (uh HP k hlt)
   have HS:Hid (V6 (opAt k).1=(opAt k).2.2):=hide (uh HTB ⟨k,hlt⟩)
   by_cases he:(opAt k).1=p
   ·have HO:Hid (V6 p=(opAt k).2.2):=hide (by rw[←he];exact uh HS)
    have eq:((opAt k).1.toList == p.toList)=true:=by rw[he];simp
    clear he HS;generalize opAt k=pr at *;obtain⟨s,l,o⟩:=pr;simp only at *;go_wp2_with (refine Zl rfl 161 (.tmp 12) (.tmp 13) rfl (.agg OC) (.int .i64 k) _ rfl rfl (uh HI _) ?_);go_ret;rw[uh HO];exact⟨rfl,hbl.alloc hbl.size _⟩
   ·have Zr:Hid (∀j,j<k+1->(opAt j).1≠p):=fun j hj=>by
     by_cases hjk:j=k
     ·subst hjk;exact he
     ·exact uh HN j (by omega)
    have eq:((opAt k).1.toList == p.toList)=false:=by rw[zk];exact iw he
    clear he HS;generalize hq:opAt k=pr at *;obtain⟨s,l,o⟩:=pr;simp only at *;have HQ:=hide hq;clear hq;go_wp2_with (refine Zl rfl 161 (.tmp 12) (.tmp 13) rfl (.agg OC) (.int .i64 k) _ rfl rfl (uh HI _) ?_)
    go_roundg (14-(k+1))
    case measure=>have:=uh HG;omega
    case rel=>exact⟨k+1,by omega,rfl,by go_num,uh Zr,hbl.alloc hbl.size _⟩
  ·have e:k=14:=by omega
   subst e;have HO:Hid (V6 p=0):=hide (uh Cc (uh HN));go_wp2;go_ret;rw[uh HO];exact⟨rfl,hbl⟩
theorem arz (p:dh) (c:UInt8):Lib.hasPrefix p.data.toList [c]=decide ((bL p).head?=some c)∧((bL p).head?=some c->(⟨(Lib.trimPrefix p.data.toList [c]).toArray⟩:dh)=Ko p):=by
 have e:p.data.toList=bL p:=rfl
 have h1:Lib.hasPrefix (bL p) [c]=decide ((bL p).head?=some c):=by
  unfold Lib.hasPrefix
  cases bL p with
  | nil=>rfl
  | cons b l =>
   by_cases h:b=c
   ·subst h;simp
   ·have h':¬c=b:=fun e=>h e.symm
    simp[List.isPrefixOf,h,h']
 rw[e];refine⟨h1,fun h=>?_⟩;unfold Lib.trimPrefix Ko Qv;rw[h1,jf h];rfl
theorem auk (p:dh) (h:p.size<=1048576):(Ko p).size<=1048576:=by
 rw[←Ez] at *;unfold Ko;rw[Zi,Dh];omega
theorem bct (p:dh) (h:p≠ByteArray.empty):0<p.size∧∃b l,bL p=b::l∧qy p 0=(b.toNat:Int):=by
 cases hb:bL p with
 | nil =>
  exact absurd (by rw[←U2 p,hb];rfl) h
 | cons b l =>
  have hs:0<p.size:=by rw[←Ez,hb];simp
  obtain⟨i,hi,e⟩:=aq6 (s:=p) (b:=b) (by rw[hb];simp);refine⟨hs,b,l,rfl,?_⟩;unfold qy;rw[dif_pos hs]
  have e2:p[0]=b:=by
   have h9:(bL p)[0]'(by rw[hb];simp)=b:=by simp[hb]
   rw[←h9];simp only[bL,Array.getElem_toList];rfl
  rw[e2]
def ba3 (t:ku) (w:bf) (e:Ending) (w':bf):Prop:=e=.returned (.agg #[.int .i64 t.op,.int .i64 t.val,.string t.name])∧Below w.heap.size w w'
theorem aw5 (p:dh) (w:bf) (hE:Zc w) (hp:p.size<=1048576):Calls Tryz.prog 92 #[.string p] w (ba3 (Hq p) w):=by
 obtain⟨PO,Gv⟩:∃PO:Ending->bf->Prop,PO=ba3 (Hq p) w:=⟨_,rfl⟩;rw[←Gv];have Dn:=hide Gv;clear Gv;obtain⟨n1,hn1⟩:∃z:dh,z=⟨(Lib.trimPrefix p.data.toList [46]).toArray⟩:=⟨_,rfl⟩;obtain⟨n2,hn2⟩:∃z:dh,z=⟨(Lib.trimPrefix p.data.toList [64]).toArray⟩:=⟨_,rfl⟩;obtain⟨b1,hb1⟩:∃z:Bool,z=Lib.hasPrefix p.data.toList [46]:=⟨_,rfl⟩;obtain⟨b2,hb2⟩:∃z:Bool,z=Lib.hasPrefix p.data.toList [64]:=⟨_,rfl⟩;have Aw:Hid (∀W,Calls Tryz.prog 118 #[.string p,.string ⟨#[46]⟩] W (fun e w'=>e=.returned (.tuple #[.string n1,.bool b1])∧w'=W)):=hide (fun W=>by rw[hn1,hb1];exact Tryz.strings_CutPrefix p ⟨#[46]⟩ W);have HC2:Hid (∀W,Calls Tryz.prog 118 #[.string p,.string ⟨#[64]⟩] W (fun e w'=>e=.returned (.tuple #[.string n2,.bool b2])∧w'=W)):=hide (fun W=>by rw[hn2,hb2];exact Tryz.strings_CutPrefix p ⟨#[64]⟩ W);have k1:=arz p 46;have k2:=arz p 64;rw[←hb1,←hn1] at k1;rw[←hb2,←hn2] at k2;have U9:=hide k1;have Sr:=hide k2;have hA:Below w.heap.size w (w.alloc (.cells #[.int .i64 0,.int .i64 0,.string ⟨#[]⟩] 83)):=(gy _ _).alloc (gq _) _;obtain⟨X,hX⟩:∃z,z=w.alloc (.cells #[.int .i64 0,.int .i64 0,.string ⟨#[]⟩] 83):=⟨_,rfl⟩;have Ef:Hid (jc X w.heap.size 83 #[.int .i64 0,.int .i64 0,.string ⟨#[]⟩]):=hide (by rw[hX];exact og _ _ _);have HB:Hid (Below w.heap.size w X):=hide (by rw[hX];exact hA);have HEX:Hid (Zc X):=hide (hE.below (uh HB) hE.env.three);have HX:=hide hX;have hts:=auk p hp;clear k1 k2 hb1 hb2 hn1 hn2 hA hX hE;go_enter Tryz.func92,Tryz.ntmps92;go_wp2_with fail;rw[←uh HX];refine(uh Aw X).mono ?_;rintro e w9 ⟨rfl,Qm⟩;obtain rfl:=Qm.symm;go_wp2_with fail;refine(uh HC2 X).mono ?_;rintro e w8 ⟨rfl,hw8⟩;obtain rfl:=hw8.symm;clear Aw HC2
 by_cases h46:(bL p).head?=some 46
 ·obtain rfl:b1=true:=by rw[(uh U9).1];exact jf h46
  have HE:Hid (Hq p=⟨3,0,n1⟩):=hide (by unfold Hq;rw[gu h46,(uh U9).2 h46]);have Qj:=hide (apj n1 X (by rw[(uh U9).2 h46];unfold Len;omega));clear U9 Sr h46 hts;go_wp2_with fail;refine(uh Qj).mono ?_;rintro e w1 ⟨rfl,hb1⟩;have hk1:=(uh Ef).below hb1 (uh Ef).lt;have hB1:Below w.heap.size w w1:=(uh HB).trans (hb1.mono (uh HB).size);have hbx:=((hk1.set 0 (.int .i64 3)).set 1 (.int .i64 0)).set 2 (.string n1)
  have qc:Hid (PO (.returned (.agg #[.int .i64 3,.int .i64 0,.string n1])) (((w1.setCell ⟨w.heap.size,0,none⟩ (.int .i64 3)).setCell ⟨w.heap.size,1,none⟩ (.int .i64 0)).setCell ⟨w.heap.size,2,none⟩ (.string n1))):=hide (by
   rw[uh Dn];refine⟨by rw[uh HE];first|done|rfl,?_⟩
   exact((hB1.setCell (p:=⟨w.heap.size,0,none⟩) (gq _) (.int .i64 3)).setCell (p:=⟨w.heap.size,1,none⟩) (gq _) (.int .i64 0)).setCell (p:=⟨w.heap.size,2,none⟩) (gq _) (.string n1))
  have Om:=hide (And.intro (hbx.cell (i:=0) (v:=.int .i64 3) rfl) (And.intro (hbx.cell (i:=1) (v:=.int .i64 0) rfl) (hbx.cell (i:=2) (v:=.string n1) rfl)));have c0:=hk1.cell (i:=0) (v:=.int .i64 0) rfl;have c1:=hk1.cell (i:=1) (v:=.int .i64 0) rfl;have c2:=hk1.cell (i:=2) (v:=.string ⟨#[]⟩) rfl;have g0:=hk1.free 0;have g1:=hk1.free 1;have g2:=hk1.free 2;have U1:w.heap.size<w1.heap.size:=hk1.lt;clear hbx;clear hb1 hk1 hB1;go_wp2;obtain⟨f0,f1,f2⟩:=uh Om;exact bodyPost_ret (v:=.agg #[.int .i64 3,.int .i64 0,.string n1]) (by simp[results,Tryz.results92,go_sem,f0,f1,f2]) rfl (uh qc)
 obtain rfl:b1=false:=by rw[(uh U9).1];exact iw h46
 by_cases h64:(bL p).head?=some 64
 ·obtain rfl:b2=true:=by rw[(uh Sr).1];exact jf h64
  have HE:Hid (Hq p=⟨25,Ot n2,E0⟩):=hide (by unfold Hq;rw[ay h46,gu h64,(uh Sr).2 h64]);have HNU:=hide (Xw n2 X (uh HEX) (by rw[(uh Sr).2 h64];exact hts));clear U9 Sr h46 h64 hts;generalize Ot n2=nv at *;go_wp2_with fail;refine(uh HNU).mono ?_;rintro e w1 ⟨rfl,hb1⟩;have hk1:=(uh Ef).below hb1 (uh Ef).lt;have hB1:Below w.heap.size w w1:=(uh HB).trans (hb1.mono (uh HB).size);have hbx:=((hk1.set 0 (.int .i64 25)).set 1 (.int .i64 nv)).set 2 (.string ⟨#[]⟩)
  have qc:Hid (PO (.returned (.agg #[.int .i64 25,.int .i64 nv,.string ⟨#[]⟩])) (((w1.setCell ⟨w.heap.size,0,none⟩ (.int .i64 25)).setCell ⟨w.heap.size,1,none⟩ (.int .i64 nv)).setCell ⟨w.heap.size,2,none⟩ (.string ⟨#[]⟩))):=hide (by
   rw[uh Dn];refine⟨by rw[uh HE];first|done|rfl,?_⟩
   exact((hB1.setCell (p:=⟨w.heap.size,0,none⟩) (gq _) (.int .i64 25)).setCell (p:=⟨w.heap.size,1,none⟩) (gq _) (.int .i64 nv)).setCell (p:=⟨w.heap.size,2,none⟩) (gq _) (.string ⟨#[]⟩))
  have Om:=hide (And.intro (hbx.cell (i:=0) (v:=.int .i64 25) rfl) (And.intro (hbx.cell (i:=1) (v:=.int .i64 nv) rfl) (hbx.cell (i:=2) (v:=.string ⟨#[]⟩) rfl)));have c0:=hk1.cell (i:=0) (v:=.int .i64 0) rfl;have c1:=hk1.cell (i:=1) (v:=.int .i64 0) rfl;have c2:=hk1.cell (i:=2) (v:=.string ⟨#[]⟩) rfl;have g0:=hk1.free 0;have g1:=hk1.free 1;have g2:=hk1.free 2;have U1:w.heap.size<w1.heap.size:=hk1.lt;clear hbx;clear hb1 hk1 hB1;go_wp2;obtain⟨f0,f1,f2⟩:=uh Om;exact bodyPost_ret (v:=.agg #[.int .i64 25,.int .i64 nv,.string ⟨#[]⟩]) (by simp[results,Tryz.results92,go_sem,f0,f1,f2]) rfl (uh qc)
 obtain rfl:b2=false:=by rw[(uh Sr).1];exact iw h64
 have e_t:=a6j p;have e_f:=a2f p
 by_cases ht:p=N9
 ·rw[jf ht] at e_t
  have HE:Hid (Hq p=⟨2,1,E0⟩):=hide (by unfold Hq;rw[ay h46,ay h64,gu ht]);clear U9 Sr h46 h64 hts ht e_f;have hbx:=(((uh Ef).set 0 (.int .i64 2)).set 1 (.int .i64 1)).set 2 (.string ⟨#[]⟩)
  have qc:Hid (PO (.returned (.agg #[.int .i64 2,.int .i64 1,.string ⟨#[]⟩])) (((X.setCell ⟨w.heap.size,0,none⟩ (.int .i64 2)).setCell ⟨w.heap.size,1,none⟩ (.int .i64 1)).setCell ⟨w.heap.size,2,none⟩ (.string ⟨#[]⟩))):=hide (by
   rw[uh Dn];refine⟨by rw[uh HE];first|done|rfl,?_⟩
   exact(((uh HB).setCell (p:=⟨w.heap.size,0,none⟩) (gq _) (.int .i64 2)).setCell (p:=⟨w.heap.size,1,none⟩) (gq _) (.int .i64 1)).setCell (p:=⟨w.heap.size,2,none⟩) (gq _) (.string ⟨#[]⟩))
  have Om:=hide (And.intro (hbx.cell (i:=0) (v:=.int .i64 2) rfl) (And.intro (hbx.cell (i:=1) (v:=.int .i64 1) rfl) (hbx.cell (i:=2) (v:=.string ⟨#[]⟩) rfl)));have c0:=(uh Ef).cell (i:=0) (v:=.int .i64 0) rfl;have c1:=(uh Ef).cell (i:=1) (v:=.int .i64 0) rfl;have c2:=(uh Ef).cell (i:=2) (v:=.string ⟨#[]⟩) rfl;have g0:=(uh Ef).free 0;have g1:=(uh Ef).free 1;have g2:=(uh Ef).free 2;have U1:w.heap.size<X.heap.size:=(uh Ef).lt;clear hbx;go_wp2;obtain⟨f0,f1,f2⟩:=uh Om;exact bodyPost_ret (v:=.agg #[.int .i64 2,.int .i64 1,.string ⟨#[]⟩]) (by simp[results,Tryz.results92,go_sem,f0,f1,f2]) rfl (uh qc)
 rw[iw ht] at e_t
 by_cases hf:p=J5
 ·rw[jf hf] at e_f
  have HE:Hid (Hq p=⟨2,0,E0⟩):=hide (by unfold Hq;rw[ay h46,ay h64,ay ht,gu hf]);clear U9 Sr h46 h64 hts ht hf;have hbx:=(((uh Ef).set 0 (.int .i64 2)).set 1 (.int .i64 0)).set 2 (.string ⟨#[]⟩)
  have qc:Hid (PO (.returned (.agg #[.int .i64 2,.int .i64 0,.string ⟨#[]⟩])) (((X.setCell ⟨w.heap.size,0,none⟩ (.int .i64 2)).setCell ⟨w.heap.size,1,none⟩ (.int .i64 0)).setCell ⟨w.heap.size,2,none⟩ (.string ⟨#[]⟩))):=hide (by
   rw[uh Dn];refine⟨by rw[uh HE];first|done|rfl,?_⟩
   exact(((uh HB).setCell (p:=⟨w.heap.size,0,none⟩) (gq _) (.int .i64 2)).setCell (p:=⟨w.heap.size,1,none⟩) (gq _) (.int .i64 0)).setCell (p:=⟨w.heap.size,2,none⟩) (gq _) (.string ⟨#[]⟩))
  have Om:=hide (And.intro (hbx.cell (i:=0) (v:=.int .i64 2) rfl) (And.intro (hbx.cell (i:=1) (v:=.int .i64 0) rfl) (hbx.cell (i:=2) (v:=.string ⟨#[]⟩) rfl)));have c0:=(uh Ef).cell (i:=0) (v:=.int .i64 0) rfl;have c1:=(uh Ef).cell (i:=1) (v:=.int .i64 0) rfl;have c2:=(uh Ef).cell (i:=2) (v:=.string ⟨#[]⟩) rfl;have g0:=(uh Ef).free 0;have g1:=(uh Ef).free 1;have g2:=(uh Ef).free 2;have U1:w.heap.size<X.heap.size:=(uh Ef).lt;clear hbx;go_wp2;obtain⟨f0,f1,f2⟩:=uh Om;exact bodyPost_ret (v:=.agg #[.int .i64 2,.int .i64 0,.string ⟨#[]⟩]) (by simp[results,Tryz.results92,go_sem,f0,f1,f2]) rfl (uh qc)
 rw[iw hf] at e_f;have HEI:Hid (Hq p=if ab9 p=true then ⟨1,Ot p,E0⟩ else ⟨V6 p,0,E0⟩):=hide (by unfold Hq;rw[ay h46,ay h64,ay ht,ay hf]);have HNU:=hide (Xw p X (uh HEX) hp);have HOP:=hide (a6k p X (uh HEX).env.ops);clear U9 Sr h46 h64 hts ht hf
 by_cases h0:p=ByteArray.empty
 ·have e0:(p.toList == [])=true:=by rw[afc];exact jf h0
  have e1:(p.toList != [])=false:=by simp only[bne,e0];rfl
  have HE:Hid (Hq p=⟨V6 p,0,E0⟩):=hide (by rw[uh HEI,ay (by rw[h0];decide)]);clear h0 HEI;generalize V6 p=ov at *;go_wp2_with fail;refine(uh HOP).mono ?_;rintro e w1 ⟨rfl,hb1⟩;have hk1:=(uh Ef).below hb1 (uh Ef).lt;have hB1:Below w.heap.size w w1:=(uh HB).trans (hb1.mono (uh HB).size);have hbx:=((hk1.set 0 (.int .i64 ov)).set 1 (.int .i64 0)).set 2 (.string ⟨#[]⟩)
  have qc:Hid (PO (.returned (.agg #[.int .i64 ov,.int .i64 0,.string ⟨#[]⟩])) (((w1.setCell ⟨w.heap.size,0,none⟩ (.int .i64 ov)).setCell ⟨w.heap.size,1,none⟩ (.int .i64 0)).setCell ⟨w.heap.size,2,none⟩ (.string ⟨#[]⟩))):=hide (by
   rw[uh Dn];refine⟨by rw[uh HE];first|done|rfl,?_⟩
   exact((hB1.setCell (p:=⟨w.heap.size,0,none⟩) (gq _) (.int .i64 ov)).setCell (p:=⟨w.heap.size,1,none⟩) (gq _) (.int .i64 0)).setCell (p:=⟨w.heap.size,2,none⟩) (gq _) (.string ⟨#[]⟩))
  have Om:=hide (And.intro (hbx.cell (i:=0) (v:=.int .i64 ov) rfl) (And.intro (hbx.cell (i:=1) (v:=.int .i64 0) rfl) (hbx.cell (i:=2) (v:=.string ⟨#[]⟩) rfl)));have c0:=hk1.cell (i:=0) (v:=.int .i64 0) rfl;have c1:=hk1.cell (i:=1) (v:=.int .i64 0) rfl;have c2:=hk1.cell (i:=2) (v:=.string ⟨#[]⟩) rfl;have g0:=hk1.free 0;have g1:=hk1.free 1;have g2:=hk1.free 2;have U1:w.heap.size<w1.heap.size:=hk1.lt;clear hbx;clear hb1 hk1 hB1;go_wp2;obtain⟨f0,f1,f2⟩:=uh Om;exact bodyPost_ret (v:=.agg #[.int .i64 ov,.int .i64 0,.string ⟨#[]⟩]) (by simp[results,Tryz.results92,go_sem,f0,f1,f2]) rfl (uh qc)
 have e0:(p.toList == [])=false:=by rw[afc];exact iw h0
 have e1:(p.toList != [])=true:=by simp only[bne,e0];rfl
 obtain⟨hps,b,l,hbl,hby⟩:=bct p h0
 have hdg:ab9 p=Kt (qy p 0):=by
  rw[agm p b l hbl,hby];unfold V4 Kt;simp only[decide_eq_decide];omega
 have hbe:qy p 0=((p[0]'hps).toNat:Int):=by unfold qy;rw[dif_pos hps]
 have HDG:Hid (Calls Tryz.prog 119 #[.int .u8 ((p[0]'hps).toNat:Int)] X (fun e w'=>e=.returned (.bool (ab9 p))∧w'=X)):=hide (by rw[hdg,←hbe];exact aef (qy p 0) X (by rw[hby];omega) (by rw[hby];have:=b.toNat_lt;omega));clear hdg hbe hby hbl h0
 by_cases hd:ab9 p=true
 ·have HE:Hid (Hq p=⟨1,Ot p,E0⟩):=hide (by rw[uh HEI,gu hd])
  rw[hd] at HDG;clear hd HEI HOP;generalize Ot p=nv at *;go_wp2_with fail;refine(uh HDG).mono ?_;rintro e w7 ⟨rfl,hw7⟩;obtain rfl:=hw7.symm;go_wp2_with fail;refine(uh HNU).mono ?_;rintro e w1 ⟨rfl,hb1⟩;have hk1:=(uh Ef).below hb1 (uh Ef).lt;have hB1:Below w.heap.size w w1:=(uh HB).trans (hb1.mono (uh HB).size);have hbx:=((hk1.set 0 (.int .i64 1)).set 1 (.int .i64 nv)).set 2 (.string ⟨#[]⟩)
  have qc:Hid (PO (.returned (.agg #[.int .i64 1,.int .i64 nv,.string ⟨#[]⟩])) (((w1.setCell ⟨w.heap.size,0,none⟩ (.int .i64 1)).setCell ⟨w.heap.size,1,none⟩ (.int .i64 nv)).setCell ⟨w.heap.size,2,none⟩ (.string ⟨#[]⟩))):=hide (by
   rw[uh Dn];refine⟨by rw[uh HE];first|done|rfl,?_⟩
   exact((hB1.setCell (p:=⟨w.heap.size,0,none⟩) (gq _) (.int .i64 1)).setCell (p:=⟨w.heap.size,1,none⟩) (gq _) (.int .i64 nv)).setCell (p:=⟨w.heap.size,2,none⟩) (gq _) (.string ⟨#[]⟩))
  have Om:=hide (And.intro (hbx.cell (i:=0) (v:=.int .i64 1) rfl) (And.intro (hbx.cell (i:=1) (v:=.int .i64 nv) rfl) (hbx.cell (i:=2) (v:=.string ⟨#[]⟩) rfl)));have c0:=hk1.cell (i:=0) (v:=.int .i64 0) rfl;have c1:=hk1.cell (i:=1) (v:=.int .i64 0) rfl;have c2:=hk1.cell (i:=2) (v:=.string ⟨#[]⟩) rfl;have g0:=hk1.free 0;have g1:=hk1.free 1;have g2:=hk1.free 2;have U1:w.heap.size<w1.heap.size:=hk1.lt;clear hbx;clear hb1 hk1 hB1;go_wp2;obtain⟨f0,f1,f2⟩:=uh Om;exact bodyPost_ret (v:=.agg #[.int .i64 1,.int .i64 nv,.string ⟨#[]⟩]) (by simp[results,Tryz.results92,go_sem,f0,f1,f2]) rfl (uh qc)
 ·have HE:Hid (Hq p=⟨V6 p,0,E0⟩):=hide (by rw[uh HEI,ay hd])
  rw[Bool.eq_false_iff.2 hd] at HDG;clear hd HEI HNU;generalize V6 p=ov at *;go_wp2_with fail;refine(uh HDG).mono ?_;rintro e w7 ⟨rfl,hw7⟩;obtain rfl:=hw7.symm;go_wp2_with fail;refine(uh HOP).mono ?_;rintro e w1 ⟨rfl,hb1⟩;have hk1:=(uh Ef).below hb1 (uh Ef).lt;have hB1:Below w.heap.size w w1:=(uh HB).trans (hb1.mono (uh HB).size);have hbx:=((hk1.set 0 (.int .i64 ov)).set 1 (.int .i64 0)).set 2 (.string ⟨#[]⟩)
  have qc:Hid (PO (.returned (.agg #[.int .i64 ov,.int .i64 0,.string ⟨#[]⟩])) (((w1.setCell ⟨w.heap.size,0,none⟩ (.int .i64 ov)).setCell ⟨w.heap.size,1,none⟩ (.int .i64 0)).setCell ⟨w.heap.size,2,none⟩ (.string ⟨#[]⟩))):=hide (by
   rw[uh Dn];refine⟨by rw[uh HE];first|done|rfl,?_⟩
   exact((hB1.setCell (p:=⟨w.heap.size,0,none⟩) (gq _) (.int .i64 ov)).setCell (p:=⟨w.heap.size,1,none⟩) (gq _) (.int .i64 0)).setCell (p:=⟨w.heap.size,2,none⟩) (gq _) (.string ⟨#[]⟩))
  have Om:=hide (And.intro (hbx.cell (i:=0) (v:=.int .i64 ov) rfl) (And.intro (hbx.cell (i:=1) (v:=.int .i64 0) rfl) (hbx.cell (i:=2) (v:=.string ⟨#[]⟩) rfl)));have c0:=hk1.cell (i:=0) (v:=.int .i64 0) rfl;have c1:=hk1.cell (i:=1) (v:=.int .i64 0) rfl;have c2:=hk1.cell (i:=2) (v:=.string ⟨#[]⟩) rfl;have g0:=hk1.free 0;have g1:=hk1.free 1;have g2:=hk1.free 2;have U1:w.heap.size<w1.heap.size:=hk1.lt;clear hbx;clear hb1 hk1 hB1;go_wp2;obtain⟨f0,f1,f2⟩:=uh Om;exact bodyPost_ret (v:=.agg #[.int .i64 ov,.int .i64 0,.string ⟨#[]⟩]) (by simp[results,Tryz.results92,go_sem,f0,f1,f2]) rfl (uh qc)
theorem Yn {w w' w1:bf} {o:Obj} (h:Below (w.heap.size+1) (w.alloc o) w') (hb:Below w'.heap.size w' w1):Below (w.heap.size+1) (w.alloc o) w1:=by
 have:=h.size;simp at this;exact h.trans (hb.mono this)
structure anr (s:lu):Prop where
 st:a07 s
 nm:s.name.size<=1048576
 ak:s.ak.length<=1000∧∀x,x∈s.ak->x.size<=1048576
 code:aep s.code
 args:s.args.length<=1000∧∀c,c∈s.args->aep c
theorem aat {c:List ku} (h:aep c):(Ht c).size<=21000000:=by
 have h1:=a06 c h.pt;have h2:=h.sz;omega
theorem aqi {xs:List dh} (hl:xs.length<=1000) (h:∀x,x∈xs->x.size<=1048576):(Fq Lsp xs).size<=1100000000:=by
 have h1:=ahw Lsp xs 1048576 h;have h2:Lsp.size*xs.length<=1*1000:=Nat.mul_le_mul (by decide) hl;have h3:1048576*xs.length<=1048576*1000:=Nat.mul_le_mul_left _ hl;omega
theorem aqj {Ai:List (List ku)} (hl:Ai.length<=1000) (h:∀c,c∈Ai->aep c):(Fq Wsc (Ai.map Ht)).size<=22000000000:=by
 have h1:=ahw Wsc (Ai.map Ht) 21000000 (fun x hx=>by obtain⟨c,hc,rfl⟩:=List.mem_map.1 hx;exact aat (h c hc));rw[Ad] at h1;have h2:Wsc.size*Ai.length<=3*1000:=Nat.mul_le_mul (by decide) hl;have h3:21000000*Ai.length<=21000000*1000:=Nat.mul_le_mul_left _ hl;omega
theorem a6l:(⟨#[115,101,116,32]⟩:dh)=Jf++Lsp:=by decide
theorem a2g:(⟨#[115,97,118,101,32]⟩:dh)=F8++Lsp:=by decide
theorem ar0:(⟨#[32,58,32]⟩:dh)=Lsp++(ou++Lsp):=by decide
theorem a2h:(⟨#[32,58]⟩:dh)=Lsp++ou:=by decide
theorem ba4:(⟨#[105,102,32]⟩:dh)=Qn++Lsp:=by decide
theorem a2i:(⟨#[99,97,108,108,32]⟩:dh)=Ac++Lsp:=by decide
set_option maxRecDepth 20000 in
theorem axh (s:lu) (so sc sa:Value) (w:bf) (h:anr s) (h1:iy 1 16 wz 0 w so s.ak) (h2:iy 3 32 Gp 0 w sc s.code) (h3:iy 1 24 Io 0 w sa s.args) :
  Calls Tryz.prog 26 #[.agg #[.int .i64 s.kind,.string s.name,.int .i64 s.at_,so,sc,sa]] w (Ans (.string (oh (xu s))) w):=by
 obtain⟨kd,nm,at0,ak,code,args⟩:=s;simp only at h1 h2 h3;obtain⟨oa,oc,rfl⟩:=h1.shape;obtain⟨ca,cc,rfl⟩:=h2.shape;obtain⟨aa,ac,rfl⟩:=h3.shape;have hat:=h.st.at_;have hkd:=h.st.kind;have hnm:=h.nm;have hol:=h.ak;have hcd:=h.code;have hal:=h.args;have afd:=h.st.cne;have hone:=h.st.one;simp only at hat hkd hnm hol hcd hal afd hone;unfold Oh at hat;have HLC:=hide (aw7 ⟨kd,nm,at0,ak,code,args⟩);have Ey:=hide (a04 ⟨kd,nm,at0,ak,code,args⟩);have HLV:=hide (aw6 ⟨kd,nm,at0,ak,code,args⟩);have HLI:=hide (a5g ⟨kd,nm,at0,ak,code,args⟩);have HLE:=hide (aw8 ⟨kd,nm,at0,ak,code,args⟩);have Hy:=hide (a05 ⟨kd,nm,at0,ak,code,args⟩);simp only at HLC Ey HLV HLI;generalize oh (xu ⟨kd,nm,at0,ak,code,args⟩)=ln at *;have hz1:=aat hcd;have hz2:=aqi hol.1 hol.2;have hz3:=aqj hal.1 hal.2;have hz4:=Qo at0 hat;have HB0:Hid (Below (w.heap.size+1) (w.alloc (.cells #[.int .i64 kd,.string nm,.int .i64 at0,.slice oa ak.length oc,.slice ca code.length cc,.slice aa args.length ac] 60)) (w.alloc (.cells #[.int .i64 kd,.string nm,.int .i64 at0,.slice oa ak.length oc,.slice ca code.length cc,.slice aa args.length ac] 60))):=gy _ _;have ab3:Hid (Below (w.heap.size+1) (w.alloc (.cells #[.int .i64 kd,.string nm,.int .i64 at0,.slice oa ak.length oc,.slice ca code.length cc,.slice aa args.length ac] 60)) (w.alloc (.cells #[.int .i64 kd,.string nm,.int .i64 at0,.slice oa ak.length oc,.slice ca code.length cc,.slice aa args.length ac] 60)).drew):=(uh HB0).drew;have Ie:Hid (∀w1,Below (w.heap.size+1) (w.alloc (.cells #[.int .i64 kd,.string nm,.int .i64 at0,.slice oa ak.length oc,.slice ca code.length cc,.slice aa args.length ac] 60)) w1->Below w.heap.size w w1):=fun w1 h=>((gy w.heap.size w).alloc (gq _) _).trans (h.mono (Nat.le_succ _))
 have HCD:Hid (∀w',Hid (Below (w.heap.size+1) (w.alloc (.cells #[.int .i64 kd,.string nm,.int .i64 at0,.slice oa ak.length oc,.slice ca code.length cc,.slice aa args.length ac] 60)) w')->Calls Tryz.prog 55 #[.slice ca code.length cc] w' fun e w1=>e=.returned (.string (Ht code))∧Hid (Below (w.heap.size+1) (w.alloc (.cells #[.int .i64 kd,.string nm,.int .i64 at0,.slice oa ak.length oc,.slice ca code.length cc,.slice aa args.length ac] 60)) w1)∧w1.cell? ⟨w.heap.size,1,none⟩=some (.string nm)∧w1.cell? ⟨w.heap.size,2,none⟩=some (.int .i64 at0)∧w1.cell? ⟨w.heap.size,3,none⟩=some (.slice oa ak.length oc)∧w1.cell? ⟨w.heap.size,4,none⟩=some (.slice ca code.length cc)):=fun w' hw=>(amf code _ w' (h2.stays Ag (uh Ie _ (uh hw))) hcd).mono (fun e w1 ⟨he,hb⟩=>by
  have H9:=Yn (uh hw) hb;exact⟨he,H9,(C9 (B:=0) H9 1).trans rfl,(C9 (B:=0) H9 2).trans rfl,(C9 (B:=0) H9 3).trans rfl,(C9 (B:=0) H9 4).trans rfl⟩)
 have HDC:Hid (∀w',Hid (Below (w.heap.size+1) (w.alloc (.cells #[.int .i64 kd,.string nm,.int .i64 at0,.slice oa ak.length oc,.slice ca code.length cc,.slice aa args.length ac] 60)) w')->Calls Tryz.prog 25 #[.int .i64 at0] w' fun e w1=>e=.returned (.string (qm at0))∧Hid (Below (w.heap.size+1) (w.alloc (.cells #[.int .i64 kd,.string nm,.int .i64 at0,.slice oa ak.length oc,.slice ca code.length cc,.slice aa args.length ac] 60)) w1)∧w1.cell? ⟨w.heap.size,1,none⟩=some (.string nm)∧w1.cell? ⟨w.heap.size,2,none⟩=some (.int .i64 at0)∧w1.cell? ⟨w.heap.size,3,none⟩=some (.slice oa ak.length oc)∧w1.cell? ⟨w.heap.size,4,none⟩=some (.slice ca code.length cc)):=fun w' hw=>(ab5 at0 hat w').mono (fun e w1 ⟨he,hb⟩=>by
  have H9:=Yn (uh hw) hb;exact⟨he,H9,(C9 (B:=0) H9 1).trans rfl,(C9 (B:=0) H9 2).trans rfl,(C9 (B:=0) H9 3).trans rfl,(C9 (B:=0) H9 4).trans rfl⟩)
 have HDG:Hid (∀w',Calls Tryz.prog 25 #[.int .i64 at0] w' (Ans (.string (qm at0)) w')):=fun w'=>ab5 at0 hat w'
 have HJN:Hid (∀w',Hid (Below (w.heap.size+1) (w.alloc (.cells #[.int .i64 kd,.string nm,.int .i64 at0,.slice oa ak.length oc,.slice ca code.length cc,.slice aa args.length ac] 60)) w')->Calls Tryz.prog 56 #[.slice oa ak.length oc,.string ⟨#[32]⟩] w' fun e w1=>e=.returned (.string (Fq Lsp ak))∧w1=w'):=fun w' hw=>agj Lsp ak _ w' (h1.stays zo (uh Ie _ (uh hw))) (by decide) (fun x hx=>by have:=hol.2 x hx;omega) (by omega)
 have H3:=hide h3;have Ba:=hide hal;have bdz:=hal.1;clear h h1 h2 h3 hcd hol hal
 by_cases e1:kd=1
 ·have HF:=hide (uh Ey e1 (afd (by omega)))
  have HF2:Hid (ln=⟨#[115,101,116,32]⟩++nm++⟨#[32,58,32]⟩++Ht code):=by
   refine hide ?_;rw[uh HF,a6l,ar0];simp only[Cm]
  clear HF HLC Ey HLV HLI HLE Hy HJN HDG H3 Ba afd hone;generalize Ht code=ct at *;generalize qm at0=dv at *;have q1:¬(9223372036854775807<4+nm.size):=by omega
  have q2:¬(9223372036854775807<4+nm.size+3):=by omega
  have q3:¬(9223372036854775807<4+nm.size+3+ct.size):=by omega
  subst e1;go_enter Tryz.func26,Tryz.ntmps26;go_wp2_with fail
  go_region_held3 (fun w'=>w'.cell? ⟨w.heap.size,1,none⟩=some (.string nm)∧w'.cell? ⟨w.heap.size,4,none⟩=some (.slice ca code.length cc)) (go_keep) (first|(go_at_call 55;refine(uh HCD _ (by first|exact HBn|exact ab3)).mono ?_;rintro e wn ⟨rfl,HBn,k1,k2,k3,k4⟩)|(go_at_call 25;refine(uh HDC _ (by first|exact HBn|exact ab3)).mono ?_;rintro e wn ⟨rfl,HBn,k1,k2,k3,k4⟩))
  all_goals
   go_wp2;go_ret;exact⟨Bv (uh HF2).symm,uh Ie _ (uh HBn)⟩
 by_cases e2:kd=2
 ·have HF:=hide (uh HLV e2 (afd (by omega)))
  have HF2:Hid (ln=⟨#[115,97,118,101,32]⟩++qm at0++⟨#[32,58,32]⟩++Ht code):=by
   refine hide ?_;rw[uh HF,a2g,ar0];simp only[Cm]
  clear HF HLC Ey HLV HLI HLE Hy HJN HDG H3 Ba afd hone;generalize Ht code=ct at *;generalize qm at0=dv at *;have q1:¬(9223372036854775807<5+dv.size):=by omega
  have q2:¬(9223372036854775807<5+dv.size+3):=by omega
  have q3:¬(9223372036854775807<5+dv.size+3+ct.size):=by omega
  subst e2;go_enter Tryz.func26,Tryz.ntmps26;go_wp2_with fail
  go_region_held3 (fun w'=>w'.cell? ⟨w.heap.size,2,none⟩=some (.int .i64 at0)∧w'.cell? ⟨w.heap.size,4,none⟩=some (.slice ca code.length cc)) (go_keep) (first|(go_at_call 55;refine(uh HCD _ (by first|exact HBn|exact ab3)).mono ?_;rintro e wn ⟨rfl,HBn,k1,k2,k3,k4⟩)|(go_at_call 25;refine(uh HDC _ (by first|exact HBn|exact ab3)).mono ?_;rintro e wn ⟨rfl,HBn,k1,k2,k3,k4⟩))
  all_goals
   go_wp2;go_ret;exact⟨Bv (uh HF2).symm,uh Ie _ (uh HBn)⟩
 by_cases e4:kd=4
 ·have HF:=hide (uh HLI e4)
  have HF2:Hid (ln=⟨#[105,102,32]⟩++nm):=by
   refine hide ?_;rw[uh HF,ba4];simp only[Cm]
  clear HF HLC Ey HLV HLI HLE Hy HJN HCD HDC HDG H3 Ba afd hone;subst e4;go_enter Tryz.func26,Tryz.ntmps26;go_wp2;go_ret;exact⟨Bv (uh HF2).symm,uh Ie _ (uh HB0)⟩
 by_cases e5:kd=5
 ·have HF:=hide (uh HLE e5)
  clear HLC Ey HLV HLI HLE Hy HJN HCD HDC HDG H3 Ba afd hone;subst e5;go_enter Tryz.func26,Tryz.ntmps26;go_wp2;go_ret;exact⟨Bv (uh HF).symm,uh Ie _ (uh HB0)⟩
 by_cases e6:kd=6
 ·have HF:=hide (uh Hy e6)
  clear HLC Ey HLV HLI HLE Hy HJN HCD HDC HDG H3 Ba afd hone;subst e6;go_enter Tryz.func26,Tryz.ntmps26;go_wp2;go_ret;exact⟨Bv (uh HF).symm,uh Ie _ (uh HB0)⟩
 have e3:kd=3:=by omega
 have HF:=hide (uh HLC e3 (hone e3).1 (hone e3).2)
 have HF2:Hid (ln=(⟨#[99,97,108,108,32]⟩++qm at0++⟨#[32]⟩++Fq Lsp ak++⟨#[32,58]⟩)++(if args.length=0 then ByteArray.empty else ⟨#[32]⟩++Fq Wsc (args.map Ht))):=by
  refine hide ?_;rw[uh HF,a2i,a2h];simp only[Cm];rfl
 clear HF HLC Ey HLV HLI HLE Hy HCD HDC afd hone hkd e1 e2 e4 e5 e6
 have HO:Hid (jm ni ((w.alloc (.cells #[.int .i64 kd,.string nm,.int .i64 at0,.slice oa ak.length oc,.slice ca code.length cc,.slice aa args.length ac] 60)).alloc (.cells #[] 9)) (w.heap.size+1) (.slice (some ⟨w.heap.size+1,0,none⟩) 0 0) []):=by
  have h9:=jm.start (E:=ni) (w.alloc (.cells #[.int .i64 kd,.string nm,.int .i64 at0,.slice oa ak.length oc,.slice ca code.length cc,.slice aa args.length ac] 60)) (w.heap.size+1) (by simp);rw[Ed] at h9;exact hide h9
 have HB1:Hid (Below (w.heap.size+1) (w.alloc (.cells #[.int .i64 kd,.string nm,.int .i64 at0,.slice oa ak.length oc,.slice ca code.length cc,.slice aa args.length ac] 60)) ((w.alloc (.cells #[.int .i64 kd,.string nm,.int .i64 at0,.slice oa ak.length oc,.slice ca code.length cc,.slice aa args.length ac] 60)).alloc (.cells #[] 9))):=(uh HB0).alloc (by simp) _;generalize qm at0=dv at *;generalize Fq Lsp ak=jo at *;subst e3;go_enter Tryz.func26,Tryz.ntmps26;go_wp2
 go_loopg [3,43] args.length (fun gh st ix wr=>∃(q:Nat) (sv:Value),q<=args.length∧gh=args.length-q∧ix=.int .i64 q∧st=sv∧Hid (jm ni wr (w.heap.size+1) sv ((args.take q).map Ht))∧Hid (Below (w.heap.size+1) (w.alloc (.cells #[.int .i64 3,.string nm,.int .i64 at0,.slice oa ak.length oc,.slice ca code.length cc,.slice aa args.length ac] 60)) wr))
 case atStart=>exact⟨0,_,jg _,by omega,rfl,rfl,HO,HB1⟩
 case round =>
  obtain⟨q,_,hq,hg,rfl,rfl,HOW,Bl⟩:=hrel;have HG:=hide hg;clear hg;have hws:w.heap.size+1<=wr.heap.size:=by have:=(uh Bl).size;simpa using this
  by_cases hlt:q<args.length
  ·obtain⟨_,_,D6,_,_,hex⟩:=uh H3
   simp only[qw] at D6;obtain⟨rfl,_,rfl⟩:=D6;obtain⟨b,o,cs,rfl,_,hb,hcs,hc,⟨vq,rfl,hvq⟩⟩:=hex q hlt;have hbw:=uh Ie _ (uh Bl)
   have z0:wr.cell? ⟨b,o+q,none⟩=some vq:=by
    have h0:=hc 0 (by simp);rw[jr,jh] at h0;rw[hbw.cell (p:=⟨b,_,none⟩) hb];exact h0
   have HC:=hide (amf args[q] vq wr (hvq.stays Ag hbw) ((uh Ba).2 _ (pz hlt)))
   have HT:Hid ((args.take (q+1)).map Ht=(args.take q).map Ht++[Ht args[q]]):=by
    refine hide ?_;rw[Fb hlt,Il];rfl
   have Hy:Hid (((args.take q).map Ht).length=q):=by
    refine hide ?_;rw[Ad,Nq];omega
   have Ku:(q:Int)<(args.length:Int):=by omega
   clear hc hcs hvq hbw hex;generalize Ht args[q]=pt at *;generalize (args.take q).map Ht=pre at *;go_wp2_with fail;refine(uh HC).mono ?_;rintro e w1 ⟨rfl,hb1⟩;have Q2:Hid (Below wr.heap.size wr (w1.alloc (.cells #[.string pt] 9))):=hb1.alloc hb1.size _;have Ue:=hide ((uh HOW).below (uh Q2));have HB2:=hide ((uh Bl).trans ((uh Q2).mono hws));have hs1:=hb1.size;clear hb1;go_wp2_with (at_builtin;go_must (refine Au ni _ rfl _ _ rfl (w.heap.size+1) _ pre rfl (uh Ue) w1.heap.size pt rfl (fun j u hu=>by rw[zy _ _ _ _ rfl];simpa[ni] using hu) (by have:=uh Hy;simp[ni];omega) (by simp;omega) ?_));intro v2 w2 hown2 Kw;have HB3:=hide ((uh Ue).grown (uh HB2) Kw (by simp;omega) (gq _));rw[←uh HT] at hown2;have Oj:=hide hown2;clear hown2 Kw;go_wp2
   go_roundg (args.length-(q+1))
   case measure=>have:=uh HG;omega
   case rel=>exact⟨q+1,v2,by omega,rfl,by go_num,rfl,Oj,HB3⟩
  ·have e:q=args.length:=by omega
   have Va:Hid (jm ni wr (w.heap.size+1) u3 (args.map Ht)):=by
    refine hide ?_;have h8:=uh HOW;rw[e,Eb] at h8;exact h8
   have HBd:Hid (Below (w.heap.size+1) (w.alloc (.cells #[.int .i64 3,.string nm,.int .i64 at0,.slice oa ak.length oc,.slice ca code.length cc,.slice aa args.length ac] 60)) wr.drew):=(uh Bl).drew;have k2:wr.cell? ⟨w.heap.size,2,none⟩=some (.int .i64 at0):=(C9 (B:=0) (uh Bl) 2).trans rfl;have k3:wr.cell? ⟨w.heap.size,3,none⟩=some (.slice oa ak.length oc):=(C9 (B:=0) (uh Bl) 3).trans rfl;obtain⟨sva,svc,hsv⟩:=(uh Va).slice;rw[Ad] at hsv
   have a3y:Hid (∀w',Below wr.heap.size wr w'->iy 1 16 wz 0 w' u3 (args.map Ht)):=fun w' hb=>(((uh Va).below hb).at (R:=wz) (fun x hx=>⟨rfl,by
    obtain⟨c,hc,rfl⟩:=List.mem_map.1 hx;have:=aat ((uh Ba).2 c hc);unfold Len;omega⟩) (by rw[Ad];simp[ni];omega))
   have HJA:Hid (∀w',Below wr.heap.size wr w'->Calls Tryz.prog 56 #[u3,.string ⟨#[32,44,32]⟩] w' fun e w1=>e=.returned (.string (Fq Wsc (args.map Ht)))∧w1=w'):=fun w' hb=>agj Wsc _ u3 w' (uh a3y w' hb) (by decide) (fun x hx=>by
    obtain⟨c,hc,rfl⟩:=List.mem_map.1 hx;have:=aat ((uh Ba).2 c hc);omega) (by rw[Ad];omega)
   have ba5:Hid (∀w',Hid (Below wr.heap.size wr w')->Calls Tryz.prog 25 #[.int .i64 at0] w' fun e w1=>e=.returned (.string dv)∧Hid (Below wr.heap.size wr w1)∧w1.cell? ⟨w.heap.size,2,none⟩=some (.int .i64 at0)∧w1.cell? ⟨w.heap.size,3,none⟩=some (.slice oa ak.length oc)):=fun w' hw=>(uh HDG w').mono (fun e w1 ⟨he,hb⟩=>by
    have h9:=(uh hw).trans (hb.mono (uh hw).size);exact⟨he,h9,(h9.cell (p:=⟨w.heap.size,2,none⟩) (show w.heap.size<_ by omega)).trans k2,(h9.cell (p:=⟨w.heap.size,3,none⟩) (show w.heap.size<_ by omega)).trans k3⟩)
   have ba6:Hid (∀w',Hid (Below wr.heap.size wr w')->Calls Tryz.prog 56 #[.slice oa ak.length oc,.string ⟨#[32]⟩] w' fun e w1=>e=.returned (.string jo)∧w1=w'):=fun w' hw=>uh HJN w' (hide ((uh Bl).trans ((uh hw).mono hws)))
   have HBr:Hid (Below wr.heap.size wr wr.drew):=(gy _ _).drew;have qc:Hid (∀w',Below wr.heap.size wr w'->Below w.heap.size w w'):=fun w' hb=>uh Ie _ ((uh Bl).trans (hb.mono hws))
   subst hsv;clear e a3y Va HOW HJN HDG HBd HB0 ab3 HB1 HO H3
   by_cases e0:args.length=0
   ·have HF3:Hid (ln=⟨#[99,97,108,108,32]⟩++dv++⟨#[32]⟩++jo++⟨#[32,58]⟩):=by
     refine hide ?_;rw[uh HF2,gu e0,afs]
    have eI:decide (0<(args.length:Int))=false:=iw (by omega);have eN:decide (0<args.length)=false:=iw (by omega);clear HF2 HJA e0;generalize args.length=na at *;have q1:¬(9223372036854775807<5+dv.size):=by omega
    have q2:¬(9223372036854775807<5+dv.size+1):=by omega
    have q3:¬(9223372036854775807<5+dv.size+1+jo.size):=by omega
    have q4:¬(9223372036854775807<5+dv.size+1+jo.size+2):=by omega
    go_wp2_with fail
    go_region_held3 (fun w'=>w'.cell? ⟨w.heap.size,2,none⟩=some (.int .i64 at0)∧w'.cell? ⟨w.heap.size,3,none⟩=some (.slice oa ak.length oc)) (go_keep) (first|(go_at_call 25;refine(uh ba5 _ HBr).mono ?_;rintro e wn ⟨rfl,HBn,k2',k3'⟩)|(go_at_call 56;refine(uh ba6 _ (by first|exact HBn|exact HBr)).mono ?_;rintro e wj ⟨rfl,rfl⟩))
    all_goals
     go_wp2;go_ret;exact⟨Bv (uh HF3).symm,uh qc _ (uh HBn)⟩
   ·have HF3:Hid (ln=(⟨#[99,97,108,108,32]⟩++dv++⟨#[32]⟩++jo++⟨#[32,58]⟩)++(⟨#[32]⟩++Fq Wsc (args.map Ht))):=by
     refine hide ?_;rw[uh HF2,ay e0]
    have eI:decide (0<(args.length:Int))=true:=jf (by omega);have eN:decide (0<args.length)=true:=jf (by omega);clear HF2 e0;generalize Fq Wsc (args.map Ht)=jA at *;generalize args.length=na at *;have q1:¬(9223372036854775807<5+dv.size):=by omega
    have q2:¬(9223372036854775807<5+dv.size+1):=by omega
    have q3:¬(9223372036854775807<5+dv.size+1+jo.size):=by omega
    have q4:¬(9223372036854775807<5+dv.size+1+jo.size+2):=by omega
    go_wp2_with fail
    go_region_held3 (fun w'=>w'.cell? ⟨w.heap.size,2,none⟩=some (.int .i64 at0)∧w'.cell? ⟨w.heap.size,3,none⟩=some (.slice oa ak.length oc)) (go_keep) (first|(go_at_call 25;refine(uh ba5 _ HBr).mono ?_;rintro e wn ⟨rfl,HBn,k2',k3'⟩)|(go_at_call 56;refine(uh ba6 _ (by first|exact HBn|exact HBr)).mono ?_;rintro e wj ⟨rfl,rfl⟩))
    all_goals
     go_wp2_with fail;refine(uh HJA _ (uh HBn)).mono ?_;rintro e wj ⟨rfl,rfl⟩;go_wp2;go_ret;exact⟨Bv (uh HF3).symm,uh qc _ (uh HBn)⟩
end Go.Proofs.YtfeejeflmcapoaaGreatDoor
