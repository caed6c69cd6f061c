import Derived.BigRegion
import Derived.Test.YtfeejeflmcapoaaGreatDoorRI3
import Derived.Test.YtfeejeflmcapoaaGreatDoorRIA
import Derived.Test.YtfeejeflmcapoaaGreatDoorRS6
import Derived.Deep.RegionHeld3
import Derived.Deep.QuietTactic
import Derived.BigQuiet
import Derived.Test.YtfeejeflmcapoaaGreatDoorMI20
set_option linter.unusedSimpArgs false
set_option linter.unusedVariables false
set_option maxHeartbeats 8000000
set_option maxRecDepth 1000000
namespace Go.Proofs.YtfeejeflmcapoaaGreatDoor
open Go.RowKit Go.Shelf
attribute [local go_sem] Oper.semAt_some
theorem apk (s:dh) (w:cu):Calls Tryz.prog 28 #[.string s,.int .u8 10] w (fun e w'=>e=.returned (.int .i64 (Lib.indexByte (bL s) 10))/\w'=w):=by
 have HC:=ak (Tryz.stringslite_IndexByte s 10 w);go_enter Tryz.func28,Tryz.ntmps28;go_wp2_with fail;refine(uh HC).mono ?_;rintro e w1 ⟨rfl,hw⟩;obtain rfl:=hw.symm;go_wp2;go_ret;exact⟨rfl,rfl⟩
def agp (Bs:Nat) (w:cu):Nat:=match w.cell? ⟨Bs,0,none⟩ with|some (.string s)=>s.size|_=>0
theorem acw {Bs:Nat} {w:cu} {s:dh} (h:jd w Bs 9 #[.string s]):agp Bs w=s.size:=by
 unfold agp;rw[h.cell (i:=0) (v:=.string s) rfl]
theorem axv (t:dh) (Bs n:Nat) (hn:1<=n) (w:cu) (hb:jd w Bs 9 #[.string t]) (hz:t.size<=1048576):a94 Tryz.prog 27 Bs (linesT t) n w:=by
 intro l J W hW hJB hJS hY h0;have HJB:=ak hJB;have HJS:=ak hJS;have HY:=ak hY;have HB:=ak (hb.below hW hb.lt);clear hJB hJS hY hb hW;refine callsIn_of_wp Tryz.func27 rfl trivial ?_ rfl;simp only[Tryz.ntmps27,List.size_toArray,ug,Ar,Nat.reduceAdd,Nat.reduceSub,Array.replicate_succ,Array.replicate_zero,List.push_toArray,List.append_toArray,Gm,Ew];gi_wp2
 gi_loopw [3] (fun _ wr=>∃(k:Nat) (s:dh),k<=(linesT t).length/\jd wr Bs 9 #[.string s]/\linesT s=(linesT t).drop k/\s.size<=1048576/\J k wr) (fun _ wr=>agp Bs wr)
 case atStart=>exact⟨0,t,jg _,uh HB,rfl,hz,h0⟩
 case round =>
  obtain⟨k,s,hk,hbs,hls,hsz,hj⟩:=hrel;have c0:=hbs.cell (i:=0) (v:=.string s) rfl;have Rw:=ak hbs;have Eo:=ak hls;have HJK:=ak hj;have HIB:=ak (apk s wr);have hlt:=hbs.lt;have hfz:=hbs.free 0;clear hbs hls hj h0 HB
  by_cases hne:bL s=[]
  ·have qx:Hid (J (linesT t).length wr):=by
    have h9:=uh Eo;have e9:linesT s=[]:=by unfold linesT;rw[hne];rfl
    rw[e9] at h9;have h8:=ni List.length h9;rw[Cc,Ar] at h8;rw[show (linesT t).length=k from by omega];exact uh HJK
   have hs0:s.size=0:=by rw[←Ep,hne];rfl
   have d0:¬(0:Int)<(s.size:Int):=by omega
   clear hne Eo HJK;gi_wp2;go_end0;exact⟨⟨_,rfl⟩,uh qx⟩
  ·have hs0:0<s.size:=by
    rw[←Ep];exact E5.2 hne
   have d0:(0:Int)<(s.size:Int):=by omega
   rcases aiz (bL s) 10 with ⟨hi,hno⟩|⟨a,r,hi,hsp,hno⟩
   ·have hl1:=aql s hne hno
    have hkl:k<(linesT t).length:=by
     have h8:=ni List.length (uh Eo);rw[hl1,Cc,N9] at h8;omega
    rw[hi] at HIB
    have hLk:(linesT t)[k]=s:=by
     have h8:=ni (fun x=>x[0]?) (uh Eo);simp only[hl1,List.getElem?_drop,ji,List.getElem?_cons_zero,jy hkl,uw] at h8;exact h8.symm
    obtain⟨W1,hW1⟩:=o8 (wr.setCell ⟨Bs,0,none⟩ (.string ⟨#[]⟩));have hb1:jd W1 Bs 9 #[.string ⟨#[]⟩]:=by rw[hW1];exact(uh Rw).set 0 _
    obtain⟨fn,tmps,assign,body,hy,hR⟩:=uh HY k hkl W1 (by rw[hW1];exact uh HJS _ _ _ (uh HJK));rw[hLk] at hy
    have ala:Hid (k+1<=(linesT t).length/\linesT ⟨#[]⟩=(linesT t).drop (k+1)):=ak ⟨hkl,by
     have h8:=ni (fun x=>x.drop 1) (uh Eo);simp only[hl1,List.drop_drop,List.drop_succ_cons,List.drop_nil] at h8;rw[auj,←h8]⟩
    have U8:Hid (0<agp Bs wr):=ak (by rw[acw (uh Rw)];exact hs0);subst hW1;have HR:=ak hR;have HB1:=ak hb1;clear hR hb1 hi hno hl1 hLk hkl hne Eo HJK HY HJS hs0
    gi_wp2_with (refine⟨trivial,?_⟩;gi_at_call 28;refine(callsIn_wide.2 (uh HIB)).mono ?_;rintro e9 w9 ⟨rfl,Qe⟩;rw[Qe];clear Qe)
    refine(uh HR).mono ?_;rintro e9 W3 ⟨rfl,hJ3,hk3⟩;have hb3:jd W3 Bs 9 #[.string ⟨#[]⟩]:=hk3.trans (uh HB1);have HJ3:=ak hJ3;have HB3:=ak hb3;clear hJ3 hb3 hk3 HR c0 hfz;gi_wp2
    go_roundw
    case rel=>exact⟨k+1,⟨#[]⟩,(uh ala).1,uh HB3,(uh ala).2,by decide,uh HJ3⟩
    case measure =>
     rw[acw (uh HB3)];exact uh U8
   ·rw[hi] at HIB
    have hsn:s.size=a.length+1+r.length:=by rw[←Ep,hsp];simp;omega
    have e1:s.extract 0 (a.length+1)=Qo (a++[10]):=by
     rw[←Uy (s.extract 0 (a.length+1))];congr 1;show (s.extract _ _).data.toList=_;rw[Lib.extract_from_zero,show s.data.toList=a++10::r from hsp,List.take_append,P8 (by omega),show a.length+1-a.length=1 from by omega];rfl
    have e2:s.extract (a.length+1) s.size=Qo r:=by
     rw[←Uy (s.extract (a.length+1) s.size)];congr 1;show (s.extract _ _).data.toList=_;rw[Lib.extract_to_end,show s.data.toList=a++10::r from hsp,List.drop_append,List.drop_eq_nil_of_le (by omega),show a.length+1-a.length=1 from by omega];rfl
    have hl1:=auk s a r hsp hno;rw[←e1,←e2] at hl1
    have hkl:k<(linesT t).length:=by
     have h8:=ni List.length (uh Eo);rw[hl1,Cc,ug] at h8;omega
    have hLk:(linesT t)[k]=s.extract 0 (a.length+1):=by
     have h8:=ni (fun x=>x[0]?) (uh Eo);simp only[hl1,List.getElem?_drop,ji,List.getElem?_cons_zero,jy hkl,uw] at h8;exact h8.symm
    have hz2:(s.extract (a.length+1) s.size).size=r.length:=by rw[e2,←Ep,Zg]
    obtain⟨m,hm⟩:=o8 a.length;rw[←hm] at hl1 hLk hz2 HIB;have hmI:(0:Int)<=(m:Int):=by omega
    have hwr:IntKind.i64.wrap ((m:Int)+1)=((m+1:Nat):Int):=by rw[Qw];omega
    have hml:m+1<=s.size:=by omega
    have hmL:((m+1:Nat):Int)<=(s.size:Int):=by omega
    have hJd:J k (wr.setCell ⟨Bs,0,none⟩ (.string (s.extract (m+1) s.size))).drew:=uh HJB _ _ _ (uh HJS _ _ _ (uh HJK)) ((iq _ _).drew);have hb1:jd (wr.setCell ⟨Bs,0,none⟩ (.string (s.extract (m+1) s.size))).drew Bs 9 #[.string (s.extract (m+1) s.size)]:=jd.set (uh Rw) 0 _;obtain⟨fn,tmps,assign,body,hy,hR⟩:=uh HY k hkl (wr.setCell ⟨Bs,0,none⟩ (.string (s.extract (m+1) s.size))).drew hJd;rw[hLk] at hy
    have ala:Hid (k+1<=(linesT t).length/\linesT (s.extract (m+1) s.size)=(linesT t).drop (k+1)/\(s.extract (m+1) s.size).size<=1048576):=ak ⟨hkl,by
     have h8:=ni (fun x=>x.drop 1) (uh Eo);simp only[hl1,List.drop_drop,List.drop_succ_cons,List.drop_zero] at h8;exact h8,by omega⟩
    have U8:Hid ((s.extract (m+1) s.size).size<agp Bs wr):=ak (by rw[acw (uh Rw)];omega);have HR:=ak hR;have HB1:=ak hb1;clear hR hb1 hi hno hl1 hLk hkl hne Eo HJK HY HJS hs0 e1 e2 hz2 hsp hsn hm hJd
    gi_wp2_with (refine⟨trivial,?_⟩;gi_at_call 28;refine(callsIn_wide.2 (uh HIB)).mono ?_;rintro e9 w9 ⟨rfl,Qe⟩;rw[Qe];clear Qe)
    refine wpIn_wide.2 ?_;go_region;gi_wp2;refine(uh HR).mono ?_;rintro e9 W3 ⟨rfl,hJ3,hk3⟩;have hb3:jd W3 Bs 9 #[.string (s.extract (m+1) s.size)]:=hk3.trans (uh HB1);have HJ3:=ak hJ3;have HB3:=ak hb3;clear hJ3 hb3 hk3 HR c0 hfz;gi_wp2
    go_roundw
    case rel=>exact⟨k+1,_,(uh ala).1,uh HB3,(uh ala).2.1,(uh ala).2.2,uh HJ3⟩
    case measure =>
     rw[acw (uh HB3)];exact uh U8
open Go.RowKit
theorem a18 (ls:List (List UInt8)) (h:∀p,p∈ls->10∉p):(lnT ls).map (fun p=>Lib.trimSuffix p [10])=Un ls:=by
 induction ls with
 | nil=>rfl
 | cons a ls ih =>
  cases ls with
  | nil =>
   rw[lnT]
   by_cases c:a=[]
   ·rw[gy c,c]
    rfl
   ·rw[bf c,apc _ c,Ai,a5v _ (h _ (Hr ..))]
    rfl
  | cons b r=>rw[lnT,Ai,a5u,ih (fun p hp=>h p (Gu _ hp)),aj3 a (b::r) (by simp)]
theorem apl (t:dh):(linesT t).map (fun p=>Qo (Lib.trimSuffix (bL p) [10]))=Gz t:=by
 have e:Un (cutAt 10 (bL t))=(lnT (cutAt 10 (bL t))).map (fun p=>Lib.trimSuffix p [10]):=(a18 _ (axu 10 (bL t))).symm;unfold linesT Gz;rw[e,List.map_map,List.map_map];refine List.map_congr_left (fun p _=>?_);simp only[Function.comp,Zg]
theorem a19 (p:List UInt8):p.length<=(Lib.trimSuffix p [10]).length+1:=by
 unfold Lib.trimSuffix
 split
 ·rw[Nk]
  simp only[ug,Ar];omega
 ·omega
theorem a2a (ls:List dh) (k:Nat):Du (ls.take k)<=Du ls:=by
 conv=>rhs;rw[←O8 k ls]
 rw[ahb];omega
theorem a5w (ls:List dh) (p:dh) (h:p∈ls):p.size+1<=Du ls:=by
 induction ls with
 | nil=>cases h
 | cons x ls ih =>
  rw[Nv];rcases qj.1 h with rfl|h7
  ·omega
  ·have:=ih h7
   omega
def Ut (t:dh) (k:Nat):List dw:=((Gz t).take k).foldl Me []
theorem aqm (t:dh) (k:Nat) (h:k<(Gz t).length):Ut t (k+1)=Va (Ut t k) (wordsOf 32 (Gz t)[k]):=by
 unfold Ut;rw[List.take_add_one,jy h,Option.toList_some,Ju];rfl
theorem aum (t:dh) (k:Nat) (h:k=(Gz t).length):Ut t k=Oo t:=by
 unfold Ut Oo;rw[h,Dw]
theorem a2b (t:dh) (k:Nat) (hs:t.size<=1048576):pz qy (Ut t k)<=1048577:=by
 have h1:=ak5 Me arp ((Gz t).take k) [];have h2:=a2a (Gz t) k;have h3:=agm t;have h4:=aug (Ut t k);have h5:WG ([]:List dw)=0:=rfl;unfold Ut at *;omega
theorem a95 (t:dh) (hs:t.size<=1048576) (k:Nat) (hk:k<(linesT t).length):∃hk':k<(Gz t).length,Qo (Lib.trimSuffix (bL (linesT t)[k]) [10])=(Gz t)[k]/\(Gz t)[k].size<=1048576/\(linesT t)[k].size<=1048577:=by
 have h0:=apl t;have hl:(Gz t).length=(linesT t).length:=by rw[←h0,zy]
 have hk':k<(Gz t).length:=by omega
 have h1:(Gz t)[k]=Qo (Lib.trimSuffix (bL (linesT t)[k]) [10]):=by
  have h9:=ni (fun l=>l[k]?) h0;simp only[List.getElem?_map,jy hk,jy hk',Option.map_some,uw] at h9;exact h9.symm
 have h2:=a5w _ _ (o7 hk');have h3:=agm t;have h4:=a19 (bL (linesT t)[k]);have h5:(Gz t)[k].size=(Lib.trimSuffix (bL (linesT t)[k]) [10]).length:=by rw[h1,←Ep,Zg]
 have h6:=Ep (linesT t)[k];exact⟨hk',h1.symm,by omega,by omega⟩
theorem a2c (f:List dh) (w:cu) (n:Nat) (hn:n=f.length) (hl:f.length<=1048577) (hs:∀p,p∈f->p.size<=1048576):jc 1 16 xk 0 (w.alloc (.cells (f.map Value.string).toArray 9)) (.slice (some ⟨w.heap.size,0,none⟩) n n) f:=by
 subst hn;refine⟨_,f.length,rfl,⟨by unfold Len;omega,gu _⟩,by unfold Len;omega,fun i hi=>⟨w.heap.size,0,[.string f[i]],rfl,jg _,by simp,rfl,fun j hj=>?_,rfl,?_⟩⟩
 ·obtain rfl:j=0:=by simpa using hj
  rw[Ba,jr,ji];exact(oh w _ _).cell (i:=i) (v:=.string f[i]) (by simp[hi])
 ·have:=hs _ (o7 hi)
  unfold Len;omega
theorem a96 (eu:dh) (a:List dw) (k:dw) (Js:fA (wordsOf 32 eu) 0≠vw) (J4:fA (wordsOf 32 eu) 0≠Ic) (Ip:fA (wordsOf 32 eu) 0≠Dz) (J8:fA (wordsOf 32 eu) 0≠Ee) (h_mem:fA (wordsOf 32 eu) 0≠Ef) (Pv:fA (wordsOf 32 eu) 0≠Eh) (Hl:fA (wordsOf 32 eu) 0≠Je) (F7:fA (wordsOf 32 eu) 0≠Fp) (Qr:fA (wordsOf 32 eu) 0≠Qg) (H7:fA (wordsOf 32 eu) 0≠zx) (he:eu≠Fg) (hd:eu≠Iz):Qm eu (a++[k]):=by
 intro t rb mb lg n lc u q hu hq hn K K1 PO wr W1 mv bs hgs Qn hlz hwq HK hm;have hfz:=(Au 32 eu).1;have hfp:1<=(wordsOf 32 eu).length:=E5.2 (Ei 32 eu);have Ie:=ak (I4 hgs eu hlz);have HKK:=ak HK;have Ac:=ak (I5 (a++[k]) eu);have Ue:=ak hgs;have hqI:(q:Int)<(n:Int):=by omega
 have Gf:=ak hwq;clear HK hgs hwq;rw[Cj,hu];conv=>arg 2;whnf
 have Bj:=ak (Eb eu hlz);generalize wordsOf 32 eu=f at *;have Cb:((fA f 0).toList==[99,108,97,115,115])=false:=by rw[ab9];exact iy Js
 have Jm:((fA f 0).toList==[105,110])=false:=by rw[abk];exact iy J4
 have Gq:((fA f 0).toList==[111,117,116])=false:=by rw[aa5];exact iy Ip
 have Hg:((fA f 0).toList==[108,111,99])=false:=by rw[acd];exact iy J8
 have H8:((fA f 0).toList==[109,101,109])=false:=by rw[aea];exact iy h_mem
 have Io:((fA f 0).toList==[117,115,101])=false:=by rw[agq];exact iy Pv
 have Gj:((fA f 0).toList==[115,101,116])=false:=by rw[Zj];exact iy Hl
 have Ec:((fA f 0).toList==[115,97,118,101])=false:=by rw[Yr];exact iy F7
 have Lp:((fA f 0).toList==[105,102])=false:=by rw[ahg];exact iy Qr
 have Ej:((fA f 0).toList==[99,97,108,108])=false:=by rw[aah];exact iy H7
 have aa3:(eu.toList==[101,108,115,101])=false:=by rw[Wh];exact iy he
 have afc:(eu.toList==[101,110,100])=false:=by rw[aa4];exact iy hd
 have I7:Hid (stepS (a++[k]) eu=a++[k]):=ak (by
  rw[uh Ac];unfold Iq;rw[bf (fun h9=>Js h9.1),Aa];unfold lineS;rw[bf (fun h9=>J4 h9.1),bf (fun h9=>Ip h9.1),bf (fun h9=>J8 h9.1),bf (fun h9=>h_mem h9.1),bf (fun h9=>Pv h9.1),bf (fun h9=>Hl h9.1),bf (fun h9=>F7 h9.1),bf (fun h9=>Qr h9.1),bf he,bf hd,bf (fun h9=>H7 h9.1)])
 clear Js J4 Ip J8 h_mem Pv Hl F7 Qr H7 he hd Ac;go_wp2_with fail;refine(uh Ie).mono ?_;rintro e w2 ⟨fg,fc,rfl,uq,Gs,hfl⟩;have x0:=uh Gs 0 (by omega);obtain⟨g,mc,hmv⟩:=Lh (uh uq).1.row;obtain⟨al,hal⟩:=o8 a.length;have Cm:=ak hal
 have hnb:al<=1048577:=by
  have h9:=uh Gf;unfold pz at h9;rw[jh] at h9;omega
 rw[←hal] at hmv;clear hal;subst hmv;have m0:=(uh uq).1.box.cell (i:=0) (v:=.slice (some ⟨g,0,none⟩) (al+1) mc) rfl;have hml:mb<w2.heap.size:=(uh uq).1.box.lt;have Fa:=ak (D6 f (.slice (some ⟨fg,0,none⟩) f.length fc) ql w2 (J3 (uh uq).2.1 (uh Bj)));obtain⟨c0,c1,c2,c3⟩:=gc al f.length (by omega) (by omega);go_wp2_with fail;refine(uh Fa).mono ?_;rintro e w3 ⟨rfl,hw3⟩;obtain rfl:=hw3.symm;have qx:Hid (Jz W1 mb (stepS (a++[k]) eu) (.slice (some ⟨g,0,none⟩) (al+1) mc) bs w2):=ak (by rw[uh I7];exact(uh uq).1);go_wp2;refine uh HKK _ _ _ _ rfl ?_ ?_ (uh qx)
 ·exact V3 rfl rfl rfl rfl rfl rfl rfl rfl rfl rfl
 ·rfl
end Go.Proofs.YtfeejeflmcapoaaGreatDoor
