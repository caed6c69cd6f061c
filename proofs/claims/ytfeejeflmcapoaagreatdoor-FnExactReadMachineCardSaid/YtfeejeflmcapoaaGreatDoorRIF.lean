import Derived.BigRegion
import Derived.Test.YtfeejeflmcapoaaGreatDoorRI3
import Derived.Test.YtfeejeflmcapoaaGreatDoorRIA
import Derived.Test.YtfeejeflmcapoaaGreatDoorRH1
import Derived.Deep.RegionHeld3
import Derived.Deep.QuietTactic
import Derived.BigQuiet
import Derived.Test.YtfeejeflmcapoaaGreatDoorMI20
set_option linter.unusedSimpArgs false
set_option linter.unusedVariables false
set_option maxHeartbeats 8000000
namespace Go.Proofs.YtfeejeflmcapoaaGreatDoor
open Go.RowKit Go.Shelf
attribute [local go_sem] Oper.semAt_some
theorem apo (s:dh) (w:bf):Calls Tryz.prog 28 #[.string s,.int .u8 10] w (fun e w'=>e=.returned (.int .i64 (Lib.indexByte (bL s) 10))∧w'=w):=by
 have HC:=hide (Tryz.stringslite_IndexByte s 10 w);go_enter Tryz.func28,Tryz.ntmps28;go_wp2_with fail;refine(uh HC).mono ?_;rintro e w1 ⟨rfl,hw⟩;obtain rfl:=hw.symm;go_wp2;go_ret;exact⟨rfl,rfl⟩
def agu (Bs:Nat) (w:bf):Nat:=match w.cell? ⟨Bs,0,none⟩ with|some (.string s)=>s.size|_=>0
theorem ac1 {Bs:Nat} {w:bf} {s:dh} (h:jc w Bs 9 #[.string s]):agu Bs w=s.size:=by
 unfold agu;rw[h.cell (i:=0) (v:=.string s) rfl]
set_option maxRecDepth 100000 in
theorem ax4 (t:dh) (Bs n:Nat) (hn:1<=n) (w:bf) (hb:jc w Bs 9 #[.string t]) (hz:t.size<=1048576):bbg Tryz.prog 27 Bs (linesT t) n w:=by
 intro l J W hW hJB hJS hY h0;have HJB:=hide hJB;have HJS:=hide hJS;have HY:=hide hY;have HB:=hide (hb.below hW hb.lt);clear hJB hJS hY hb hW;refine callsIn_of_wp Tryz.func27 rfl trivial ?_ rfl;simp only[Tryz.ntmps27,List.size_toArray,uf,A8,Nat.reduceAdd,Nat.reduceSub,Array.replicate_succ,Array.replicate_zero,List.push_toArray,List.append_toArray,Gu,Fe];gi_wp2
 gi_loopw [3] (fun _ wr=>∃(k:Nat) (s:dh),k<=(linesT t).length∧jc wr Bs 9 #[.string s]∧linesT s=(linesT t).drop k∧s.size<=1048576∧J k wr) (fun _ wr=>agu Bs wr)
 case atStart=>exact⟨0,t,jg _,uh HB,rfl,hz,h0⟩
 case round =>
  obtain⟨k,s,hk,hbs,hls,hsz,hj⟩:=hrel;have c0:=hbs.cell (i:=0) (v:=.string s) rfl;have Sm:=hide hbs;have Ey:=hide hls;have HJK:=hide hj;have HIB:=hide (apo s wr);have hlt:=hbs.lt;have hfz:=hbs.free 0;clear hbs hls hj h0 HB
  by_cases hne:bL s=[]
  ·have qc:Hid (J (linesT t).length wr):=by
    have h9:=uh Ey;have e9:linesT s=[]:=by unfold linesT;rw[hne];rfl
    rw[e9] at h9;have h8:=mg List.length h9;rw[Dh,A8] at h8;rw[show (linesT t).length=k from by omega];exact uh HJK
   have hs0:s.size=0:=by rw[←Ez,hne];rfl
   have d0:¬(0:Int)<(s.size:Int):=by omega
   clear hne Ey HJK;gi_wp2;go_end0;exact⟨⟨_,rfl⟩,uh qc⟩
  ·have hs0:0<s.size:=by
    rw[←Ez];exact Bg.2 hne
   have d0:(0:Int)<(s.size:Int):=by omega
   rcases ai0 (bL s) 10 with ⟨hi,hno⟩|⟨a,r,hi,hsp,hno⟩
   ·have hl1:=aqm s hne hno
    have hkl:k<(linesT t).length:=by
     have h8:=mg List.length (uh Ey);rw[hl1,Dh,Ob] at h8;omega
    rw[hi] at HIB
    have hLk:(linesT t)[k]=s:=by
     have h8:=mg (fun x=>x[0]?) (uh Ey);simp only[hl1,List.getElem?_drop,jh,List.getElem?_cons_zero,jy hkl,uo] at h8;exact h8.symm
    obtain⟨W1,hW1⟩:∃z,z=wr.setCell ⟨Bs,0,none⟩ (.string ⟨#[]⟩):=⟨_,rfl⟩;have hb1:jc W1 Bs 9 #[.string ⟨#[]⟩]:=by rw[hW1];exact(uh Sm).set 0 _
    obtain⟨fn,tmps,assign,body,hy,hR⟩:=uh HY k hkl W1 (by rw[hW1];exact uh HJS _ _ _ (uh HJK));rw[hLk] at hy
    have ale:Hid (k+1<=(linesT t).length∧linesT ⟨#[]⟩=(linesT t).drop (k+1)):=hide ⟨hkl,by
     have h8:=mg (fun x=>x.drop 1) (uh Ey);simp only[hl1,List.drop_drop,List.drop_succ_cons,List.drop_nil] at h8;rw[aun,←h8]⟩
    have Vd:Hid (0<agu Bs wr):=hide (by rw[ac1 (uh Sm)];exact hs0);subst hW1;have HR:=hide hR;have HB1:=hide hb1;clear hR hb1 hi hno hl1 hLk hkl hne Ey HJK HY HJS hs0
    gi_wp2_with (refine⟨trivial,?_⟩;gi_at_call 28;refine(callsIn_wide.2 (uh HIB)).mono ?_;rintro e9 w9 ⟨rfl,Qm⟩;rw[Qm];clear Qm)
    refine(uh HR).mono ?_;rintro e9 W3 ⟨rfl,hJ3,hk3⟩;have hb3:jc W3 Bs 9 #[.string ⟨#[]⟩]:=hk3.trans (uh HB1);have HJ3:=hide hJ3;have HB3:=hide hb3;clear hJ3 hb3 hk3 HR c0 hfz;gi_wp2
    go_roundw
    case rel=>exact⟨k+1,⟨#[]⟩,(uh ale).1,uh HB3,(uh ale).2,by decide,uh HJ3⟩
    case measure =>
     rw[ac1 (uh HB3)];exact uh Vd
   ·rw[hi] at HIB
    have hsn:s.size=a.length+1+r.length:=by rw[←Ez,hsp];simp;omega
    have e1:s.extract 0 (a.length+1)=Qv (a++[10]):=by
     rw[←U2 (s.extract 0 (a.length+1))];congr 1;show (s.extract _ _).data.toList=_;rw[Lib.extract_from_zero,show s.data.toList=a++10::r from hsp,List.take_append,Qg (by omega),show a.length+1-a.length=1 from by omega];rfl
    have e2:s.extract (a.length+1) s.size=Qv r:=by
     rw[←U2 (s.extract (a.length+1) s.size)];congr 1;show (s.extract _ _).data.toList=_;rw[Lib.extract_to_end,show s.data.toList=a++10::r from hsp,List.drop_append,List.drop_eq_nil_of_le (by omega),show a.length+1-a.length=1 from by omega];rfl
    have hl1:=auo s a r hsp hno;rw[←e1,←e2] at hl1
    have hkl:k<(linesT t).length:=by
     have h8:=mg List.length (uh Ey);rw[hl1,Dh,uf] at h8;omega
    have hLk:(linesT t)[k]=s.extract 0 (a.length+1):=by
     have h8:=mg (fun x=>x[0]?) (uh Ey);simp only[hl1,List.getElem?_drop,jh,List.getElem?_cons_zero,jy hkl,uo] at h8;exact h8.symm
    have hz2:(s.extract (a.length+1) s.size).size=r.length:=by rw[e2,←Ez,Zi]
    obtain⟨m,hm⟩:∃m,m=a.length:=⟨_,rfl⟩;rw[←hm] at hl1 hLk hz2 HIB;have hmI:(0:Int)<=(m:Int):=by omega
    have hwr:IntKind.i64.wrap ((m:Int)+1)=((m+1:Nat):Int):=by rw[Rf];omega
    have hml:m+1<=s.size:=by omega
    have hmL:((m+1:Nat):Int)<=(s.size:Int):=by omega
    have hJd:J k (wr.setCell ⟨Bs,0,none⟩ (.string (s.extract (m+1) s.size))).drew:=uh HJB _ _ _ (uh HJS _ _ _ (uh HJK)) ((gy _ _).drew);have hb1:jc (wr.setCell ⟨Bs,0,none⟩ (.string (s.extract (m+1) s.size))).drew Bs 9 #[.string (s.extract (m+1) s.size)]:=jc.set (uh Sm) 0 _;obtain⟨fn,tmps,assign,body,hy,hR⟩:=uh HY k hkl (wr.setCell ⟨Bs,0,none⟩ (.string (s.extract (m+1) s.size))).drew hJd;rw[hLk] at hy
    have ale:Hid (k+1<=(linesT t).length∧linesT (s.extract (m+1) s.size)=(linesT t).drop (k+1)∧(s.extract (m+1) s.size).size<=1048576):=hide ⟨hkl,by
     have h8:=mg (fun x=>x.drop 1) (uh Ey);simp only[hl1,List.drop_drop,List.drop_succ_cons,List.drop_zero] at h8;exact h8,by omega⟩
    have Vd:Hid ((s.extract (m+1) s.size).size<agu Bs wr):=hide (by rw[ac1 (uh Sm)];omega);have HR:=hide hR;have HB1:=hide hb1;clear hR hb1 hi hno hl1 hLk hkl hne Ey HJK HY HJS hs0 e1 e2 hz2 hsp hsn hm hJd
    gi_wp2_with (refine⟨trivial,?_⟩;gi_at_call 28;refine(callsIn_wide.2 (uh HIB)).mono ?_;rintro e9 w9 ⟨rfl,Qm⟩;rw[Qm];clear Qm)
    refine wpIn_wide.2 ?_;go_region;gi_wp2;refine(uh HR).mono ?_;rintro e9 W3 ⟨rfl,hJ3,hk3⟩;have hb3:jc W3 Bs 9 #[.string (s.extract (m+1) s.size)]:=hk3.trans (uh HB1);have HJ3:=hide hJ3;have HB3:=hide hb3;clear hJ3 hb3 hk3 HR c0 hfz;gi_wp2
    go_roundw
    case rel=>exact⟨k+1,_,(uh ale).1,uh HB3,(uh ale).2.1,(uh ale).2.2,uh HJ3⟩
    case measure =>
     rw[ac1 (uh HB3)];exact uh Vd
open Go.RowKit
theorem a2m (ls:List (List UInt8)) (h:∀p,p∈ls->10∉p):(lnT ls).map (fun p=>Lib.trimSuffix p [10])=Ut ls:=by
 induction ls with
 | nil=>rfl
 | cons a ls ih =>
  cases ls with
  | nil =>
   rw[lnT]
   by_cases c:a=[]
   ·rw[gu c,c]
    rfl
   ·rw[ay c,apf _ c,Ap,a6n _ (h _ (H7 ..))]
    rfl
  | cons b r=>rw[lnT,Ap,a6m,ih (fun p hp=>h p (G8 _ hp)),aj8 a (b::r) (by simp)]
theorem apq (t:dh):(linesT t).map (fun p=>Qv (Lib.trimSuffix (bL p) [10]))=Hl t:=by
 have e:Ut (cutAt 10 (bL t))=(lnT (cutAt 10 (bL t))).map (fun p=>Lib.trimSuffix p [10]):=(a2m _ (ax3 10 (bL t))).symm;unfold linesT Hl;rw[e,List.map_map,List.map_map];refine List.map_congr_left (fun p _=>?_);simp only[Function.comp,Zi]
theorem a2n (p:List UInt8):p.length<=(Lib.trimSuffix p [10]).length+1:=by
 unfold Lib.trimSuffix
 split
 ·rw[Nq]
  simp only[uf,A8];omega
 ·omega
theorem a2o (ls:List dh) (k:Nat):D9 (ls.take k)<=D9 ls:=by
 conv=>rhs;rw[←Pj k ls]
 rw[ahd];omega
theorem a6o (ls:List dh) (p:dh) (h:p∈ls):p.size+1<=D9 ls:=by
 induction ls with
 | nil=>cases h
 | cons x ls ih =>
  rw[Nz];rcases ql.1 h with rfl|h7
  ·omega
  ·have:=ih h7
   omega
def Uy (t:dh) (k:Nat):List dw:=((Hl t).take k).foldl Nb []
theorem aqn (t:dh) (k:Nat) (h:k<(Hl t).length):Uy t (k+1)=Vf (Uy t k) (wordsOf 32 (Hl t)[k]):=by
 unfold Uy;rw[List.take_add_one,jy h,Option.toList_some,J3];rfl
theorem auq (t:dh) (k:Nat) (h:k=(Hl t).length):Uy t k=Ou t:=by
 unfold Uy Ou;rw[h,Eb]
theorem a2p (t:dh) (k:Nat) (hs:t.size<=1048576):oq qx (Uy t k)<=1048577:=by
 have h1:=ak9 Nb arw ((Hl t).take k) [];have h2:=a2o (Hl t) k;have h3:=agt t;have h4:=auj (Uy t k);have h5:WG ([]:List dw)=0:=rfl;unfold Uy at *;omega
theorem bbh (t:dh) (hs:t.size<=1048576) (k:Nat) (hk:k<(linesT t).length):∃hk':k<(Hl t).length,Qv (Lib.trimSuffix (bL (linesT t)[k]) [10])=(Hl t)[k]∧(Hl t)[k].size<=1048576∧(linesT t)[k].size<=1048577:=by
 have h0:=apq t;have hl:(Hl t).length=(linesT t).length:=by rw[←h0,Ad]
 have hk':k<(Hl t).length:=by omega
 have h1:(Hl t)[k]=Qv (Lib.trimSuffix (bL (linesT t)[k]) [10]):=by
  have h9:=mg (fun l=>l[k]?) h0;simp only[List.getElem?_map,jy hk,jy hk',Option.map_some,uo] at h9;exact h9.symm
 have h2:=a6o _ _ (pz hk');have h3:=agt t;have h4:=a2n (bL (linesT t)[k]);have h5:(Hl t)[k].size=(Lib.trimSuffix (bL (linesT t)[k]) [10]).length:=by rw[h1,←Ez,Zi]
 have h6:=Ez (linesT t)[k];exact⟨hk',h1.symm,by omega,by omega⟩
theorem a2q (f:List dh) (w:bf) (n:Nat) (hn:n=f.length) (hl:f.length<=1048577) (hs:∀p,p∈f->p.size<=1048576):iy 1 16 wz 0 (w.alloc (.cells (f.map Value.string).toArray 9)) (.slice (some ⟨w.heap.size,0,none⟩) n n) f:=by
 subst hn;refine⟨_,f.length,rfl,⟨by unfold Len;omega,gq _⟩,by unfold Len;omega,fun i hi=>⟨w.heap.size,0,[.string f[i]],rfl,jg _,by simp,rfl,fun j hj=>?_,rfl,?_⟩⟩
 ·obtain rfl:j=0:=by simpa using hj
  rw[Bh,jr,jh];exact(og w _ _).cell (i:=i) (v:=.string f[i]) (by simp[hi])
 ·have:=hs _ (pz hi)
  unfold Len;omega
set_option maxRecDepth 1000000 in
theorem bbj (cu:dh) (a:List dw) (k:dw) (Jy:fA (wordsOf 32 cu) 0≠vg) (J7:fA (wordsOf 32 cu) 0≠Ik) (Iy:fA (wordsOf 32 cu) 0≠Ee) (Kq:fA (wordsOf 32 cu) 0≠Eo) (h_mem:fA (wordsOf 32 cu) 0≠Ep) (P8:fA (wordsOf 32 cu) 0≠Es) (Hw:fA (wordsOf 32 cu) 0≠Jf) (Gj:fA (wordsOf 32 cu) 0≠F8) (Qy:fA (wordsOf 32 cu) 0≠Qn) (Ig:fA (wordsOf 32 cu) 0≠Ac) (he:cu≠Cj) (hd:cu≠Fz):Ji cu (a++[k]):=by
 intro t rb mb lg n lc u q hu hq hn K K1 PO wr W1 mv bs hgs Jj hlz hwq HK hm;have hfz:=(yg 32 cu).1;have hfp:1<=(wordsOf 32 cu).length:=Bg.2 (Aj 32 cu);have Dc:=hide (Du hgs cu hlz);have HKK:=hide HK;have zf:=hide (Dv (a++[k]) cu);have Ol:=hide hgs;have Ug:(q:Int)<(n:Int):=by omega
 have Ci:=hide hwq;clear HK hgs hwq;rw[zh,hu];conv=>arg 2;whnf
 have Af:=hide (zq cu hlz);generalize wordsOf 32 cu=f at *;have Df:((fA f 0).toList == [99,108,97,115,115])=false:=by rw[acd];exact iw Jy
 have Jr:((fA f 0).toList == [105,110])=false:=by rw[abo];exact iw J7
 have Gy:((fA f 0).toList == [111,117,116])=false:=by rw[aa7];exact iw Iy
 have Hu:((fA f 0).toList == [108,111,99])=false:=by rw[ace];exact iw Kq
 have Ih:((fA f 0).toList == [109,101,109])=false:=by rw[aed];exact iw h_mem
 have Iw:((fA f 0).toList == [117,115,101])=false:=by rw[agn];exact iw P8
 have Gs:((fA f 0).toList == [115,101,116])=false:=by rw[Zk];exact iw Hw
 have Em:((fA f 0).toList == [115,97,118,101])=false:=by rw[Yv];exact iw Gj
 have Lr:((fA f 0).toList == [105,102])=false:=by rw[ahg];exact iw Qy
 have Et:((fA f 0).toList == [99,97,108,108])=false:=by rw[aal];exact iw Ig
 have Ox:(cu.toList == [101,108,115,101])=false:=by rw[Jw];exact iw he
 have Tc:(cu.toList == [101,110,100])=false:=by rw[Ov];exact iw hd
 have Gn:Hid (stepS (a++[k]) cu=a++[k]):=hide (by
  rw[uh zf];unfold Iz;rw[ay (fun h9=>Jy h9.1),Ae];unfold lineS;rw[ay (fun h9=>J7 h9.1),ay (fun h9=>Iy h9.1),ay (fun h9=>Kq h9.1),ay (fun h9=>h_mem h9.1),ay (fun h9=>P8 h9.1),ay (fun h9=>Hw h9.1),ay (fun h9=>Gj h9.1),ay (fun h9=>Qy h9.1),ay he,ay hd,ay (fun h9=>Ig h9.1)])
 clear Jy J7 Iy Kq h_mem P8 Hw Gj Qy Ig he hd zf;go_wp2_with fail;refine(uh Dc).mono ?_;rintro e w2 ⟨fg,fc,rfl,o7,Dk,hfl⟩;have x0:=uh Dk 0 (by omega);obtain⟨g,mc,hmv⟩:=E8 (uh o7).1.row;obtain⟨al,hal⟩:∃z,z=a.length:=⟨_,rfl⟩;have Ba:=hide hal
 have hnb:al<=1048577:=by
  have h9:=uh Ci;unfold oq at h9;rw[je] at h9;omega
 rw[←hal] at hmv;clear hal;subst hmv;have m0:=(uh o7).1.box.cell (i:=0) (v:=.slice (some ⟨g,0,none⟩) (al+1) mc) rfl;have hml:mb<w2.heap.size:=(uh o7).1.box.lt;have Bj:=hide (Aa f (.slice (some ⟨fg,0,none⟩) f.length fc) ou w2 (Fh (uh o7).2.1 (uh Af)));obtain⟨c0,c1,c2,c3⟩:=gc al f.length (by omega) (by omega);go_wp2_with fail;refine(uh Bj).mono ?_;rintro e w3 ⟨rfl,hw3⟩;obtain rfl:=hw3.symm;have qc:Hid (Gw W1 mb (stepS (a++[k]) cu) (.slice (some ⟨g,0,none⟩) (al+1) mc) bs w2):=hide (by rw[uh Gn];exact(uh o7).1);go_wp2;refine uh HKK _ _ _ _ rfl ?_ ?_ (uh qc)
 ·exact Qc rfl rfl rfl rfl rfl rfl rfl rfl rfl rfl
 ·rfl
end Go.Proofs.YtfeejeflmcapoaaGreatDoor
