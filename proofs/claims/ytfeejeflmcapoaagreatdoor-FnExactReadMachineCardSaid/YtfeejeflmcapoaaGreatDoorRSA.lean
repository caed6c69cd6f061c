import Derived.Deep.RegionHeld3
import Derived.Deep.QuietTactic
import Derived.BigQuiet
import Derived.Test.YtfeejeflmcapoaaGreatDoorRS6
import Derived.Test.YtfeejeflmcapoaaGreatDoorMI20
set_option linter.unusedSimpArgs false
set_option linter.unusedVariables false
set_option maxHeartbeats 40000000
set_option maxRecDepth 1000000
namespace Go.Proofs.YtfeejeflmcapoaaGreatDoor
open Go.RowKit
theorem adf (eu:dh) (a:List dw) (k:dw) (he:eu≠Fg) (hd:eu≠Iz) (h:fA (wordsOf 32 eu) 0=Ic/\(wordsOf 32 eu).length≠3\/fA (wordsOf 32 eu) 0=Dz/\(wordsOf 32 eu).length≠3\/fA (wordsOf 32 eu) 0=Ee/\(wordsOf 32 eu).length≠2\/fA (wordsOf 32 eu) 0=Ef/\(wordsOf 32 eu).length≠2\/fA (wordsOf 32 eu) 0=Eh/\(wordsOf 32 eu).length≠2\/fA (wordsOf 32 eu) 0=Je/\je (wordsOf 32 eu) ql≠2\/fA (wordsOf 32 eu) 0=Fp/\je (wordsOf 32 eu) ql≠2\/fA (wordsOf 32 eu) 0=Qg/\(wordsOf 32 eu).length≠2\/fA (wordsOf 32 eu) 0=zx/\¬2<je (wordsOf 32 eu) ql\/fA (wordsOf 32 eu) 0=vw/\(wordsOf 32 eu).length≠2):Qm eu (a++[k]):=by
 intro t rb mb lg n lc u q hu hq hn K K1 PO wr W1 mv bs hgs Qn hlz hwq HK hm;have hfz:=(Au 32 eu).1;have hfp:1<=(wordsOf 32 eu).length:=E5.2 (Ei 32 eu);have Ie:=ak (I4 hgs eu hlz);have HKK:=ak HK;have Ac:=ak (I5 (a++[k]) eu);have Ue:=ak hgs;have hqI:(q:Int)<(n:Int):=by omega
 have Gf:=ak hwq;clear HK hgs hwq;rw[Cj,hu];conv=>arg 2;whnf
 have Bj:=ak (Eb eu hlz);generalize wordsOf 32 eu=f at *;have aa3:(eu.toList==[101,108,115,101])=false:=by rw[Wh];exact iy he
 have afc:(eu.toList==[101,110,100])=false:=by rw[aa4];exact iy hd
 rcases h with ⟨hf0,hmiss⟩|⟨hf0,hmiss⟩|⟨hf0,hmiss⟩|⟨hf0,hmiss⟩|⟨hf0,hmiss⟩|⟨hf0,hmiss⟩|⟨hf0,hmiss⟩|⟨hf0,hmiss⟩|⟨hf0,hmiss⟩|⟨hf0,hmiss⟩;obtain⟨Cb,Jm,Gq,Hg,H8,Io,Gj,Ec,Lp,Ej⟩:=Vb hf0 false true false false false false false false false false (by decide);have d9:((f.length:Int)==3)=false:=by rw[su];omega
 have I7:Hid (stepS (a++[k]) eu=a++[k]):=ak (by
  rw[uh Ac];unfold Iq;rw[qc hf0 (by decide),Aa];unfold lineS;rw[bf (fun h9=>hmiss h9.2),qc hf0 (by decide),qc hf0 (by decide),qc hf0 (by decide),qc hf0 (by decide),qc hf0 (by decide),qc hf0 (by decide),qc hf0 (by decide),bf he,bf hd,qc hf0 (by decide)])
 clear hf0 hmiss he hd Ac
 rotate_left
 obtain⟨Cb,Jm,Gq,Hg,H8,Io,Gj,Ec,Lp,Ej⟩:=Vb hf0 false false true false false false false false false false (by decide);have d9:((f.length:Int)==3)=false:=by rw[su];omega
 have I7:Hid (stepS (a++[k]) eu=a++[k]):=ak (by
  rw[uh Ac];unfold Iq;rw[qc hf0 (by decide),Aa];unfold lineS;rw[qc hf0 (by decide),bf (fun h9=>hmiss h9.2),qc hf0 (by decide),qc hf0 (by decide),qc hf0 (by decide),qc hf0 (by decide),qc hf0 (by decide),qc hf0 (by decide),bf he,bf hd,qc hf0 (by decide)])
 clear hf0 hmiss he hd Ac
 rotate_left
 obtain⟨Cb,Jm,Gq,Hg,H8,Io,Gj,Ec,Lp,Ej⟩:=Vb hf0 false false false true false false false false false false (by decide);have d9:((f.length:Int)==2)=false:=by rw[su];omega
 have I7:Hid (stepS (a++[k]) eu=a++[k]):=ak (by
  rw[uh Ac];unfold Iq;rw[qc hf0 (by decide),Aa];unfold lineS;rw[qc hf0 (by decide),qc hf0 (by decide),bf (fun h9=>hmiss h9.2),qc hf0 (by decide),qc hf0 (by decide),qc hf0 (by decide),qc hf0 (by decide),qc hf0 (by decide),bf he,bf hd,qc hf0 (by decide)])
 clear hf0 hmiss he hd Ac
 rotate_left
 obtain⟨Cb,Jm,Gq,Hg,H8,Io,Gj,Ec,Lp,Ej⟩:=Vb hf0 false false false false true false false false false false (by decide);have d9:((f.length:Int)==2)=false:=by rw[su];omega
 have I7:Hid (stepS (a++[k]) eu=a++[k]):=ak (by
  rw[uh Ac];unfold Iq;rw[qc hf0 (by decide),Aa];unfold lineS;rw[qc hf0 (by decide),qc hf0 (by decide),qc hf0 (by decide),bf (fun h9=>hmiss h9.2),qc hf0 (by decide),qc hf0 (by decide),qc hf0 (by decide),qc hf0 (by decide),bf he,bf hd,qc hf0 (by decide)])
 clear hf0 hmiss he hd Ac
 rotate_left
 obtain⟨Cb,Jm,Gq,Hg,H8,Io,Gj,Ec,Lp,Ej⟩:=Vb hf0 false false false false false true false false false false (by decide);have d9:((f.length:Int)==2)=false:=by rw[su];omega
 have I7:Hid (stepS (a++[k]) eu=a++[k]):=ak (by
  rw[uh Ac];unfold Iq;rw[qc hf0 (by decide),Aa];unfold lineS;rw[qc hf0 (by decide),qc hf0 (by decide),qc hf0 (by decide),qc hf0 (by decide),bf (fun h9=>hmiss h9.2),qc hf0 (by decide),qc hf0 (by decide),qc hf0 (by decide),bf he,bf hd,qc hf0 (by decide)])
 clear hf0 hmiss he hd Ac
 rotate_left
 obtain⟨Cb,Jm,Gq,Hg,H8,Io,Gj,Ec,Lp,Ej⟩:=Vb hf0 false false false false false false true false false false (by decide);have d9:(je f ql==2)=false:=by rw[su];exact hmiss
 have I7:Hid (stepS (a++[k]) eu=a++[k]):=ak (by
  rw[uh Ac];unfold Iq;rw[qc hf0 (by decide),Aa];unfold lineS;rw[qc hf0 (by decide),qc hf0 (by decide),qc hf0 (by decide),qc hf0 (by decide),qc hf0 (by decide),bf (fun h9=>hmiss h9.2),qc hf0 (by decide),qc hf0 (by decide),bf he,bf hd,qc hf0 (by decide)])
 clear hf0 hmiss he hd Ac
 rotate_left
 obtain⟨Cb,Jm,Gq,Hg,H8,Io,Gj,Ec,Lp,Ej⟩:=Vb hf0 false false false false false false false true false false (by decide);have d9:(je f ql==2)=false:=by rw[su];exact hmiss
 have I7:Hid (stepS (a++[k]) eu=a++[k]):=ak (by
  rw[uh Ac];unfold Iq;rw[qc hf0 (by decide),Aa];unfold lineS;rw[qc hf0 (by decide),qc hf0 (by decide),qc hf0 (by decide),qc hf0 (by decide),qc hf0 (by decide),qc hf0 (by decide),bf (fun h9=>hmiss h9.2),qc hf0 (by decide),bf he,bf hd,qc hf0 (by decide)])
 clear hf0 hmiss he hd Ac
 rotate_left
 obtain⟨Cb,Jm,Gq,Hg,H8,Io,Gj,Ec,Lp,Ej⟩:=Vb hf0 false false false false false false false false true false (by decide);have d9:((f.length:Int)==2)=false:=by rw[su];omega
 have I7:Hid (stepS (a++[k]) eu=a++[k]):=ak (by
  rw[uh Ac];unfold Iq;rw[qc hf0 (by decide),Aa];unfold lineS;rw[qc hf0 (by decide),qc hf0 (by decide),qc hf0 (by decide),qc hf0 (by decide),qc hf0 (by decide),qc hf0 (by decide),qc hf0 (by decide),bf (fun h9=>hmiss h9.2),bf he,bf hd,qc hf0 (by decide)])
 clear hf0 hmiss he hd Ac
 rotate_left
 obtain⟨Cb,Jm,Gq,Hg,H8,Io,Gj,Ec,Lp,Ej⟩:=Vb hf0 false false false false false false false false false true (by decide);have d9:decide ((2:Int)<je f ql)=false:=iy hmiss
 have I7:Hid (stepS (a++[k]) eu=a++[k]):=ak (by
  rw[uh Ac];unfold Iq;rw[qc hf0 (by decide),Aa];unfold lineS;rw[qc hf0 (by decide),qc hf0 (by decide),qc hf0 (by decide),qc hf0 (by decide),qc hf0 (by decide),qc hf0 (by decide),qc hf0 (by decide),qc hf0 (by decide),bf he,bf hd,bf (fun h9=>hmiss h9.2)])
 clear hf0 hmiss he hd Ac
 rotate_left
 obtain⟨Cb,Jm,Gq,Hg,H8,Io,Gj,Ec,Lp,Ej⟩:=Vb hf0 true false false false false false false false false false (by decide);have d9:((f.length:Int)==2)=false:=by rw[su];omega
 have I7:Hid (stepS (a++[k]) eu=a++[k]):=ak (by
  rw[uh Ac];unfold Iq;rw[bf (fun h9=>hmiss h9.2),Aa];unfold lineS;rw[qc hf0 (by decide),qc hf0 (by decide),qc hf0 (by decide),qc hf0 (by decide),qc hf0 (by decide),qc hf0 (by decide),qc hf0 (by decide),qc hf0 (by decide),bf he,bf hd,qc hf0 (by decide)])
 clear hf0 hmiss he hd Ac
 rotate_left
 all_goals
  go_wp2_with fail;refine(uh Ie).mono ?_;rintro e w2 ⟨fg,fc,rfl,uq,Gs,hfl⟩;have x0:=uh Gs 0 (by omega);obtain⟨g,mc,hmv⟩:=Lh (uh uq).1.row;obtain⟨al,hal⟩:=o8 a.length;have Cm:=ak hal
  have hnb:al<=1048577:=by
   have h9:=uh Gf;unfold pz at h9;rw[jh] at h9;omega
  rw[←hal] at hmv;clear hal;subst hmv;have m0:=(uh uq).1.box.cell (i:=0) (v:=.slice (some ⟨g,0,none⟩) (al+1) mc) rfl;have hml:mb<w2.heap.size:=(uh uq).1.box.lt;have Fa:=ak (D6 f (.slice (some ⟨fg,0,none⟩) f.length fc) ql w2 (J3 (uh uq).2.1 (uh Bj)));obtain⟨c0,c1,c2,c3⟩:=gc al f.length (by omega) (by omega);go_wp2_with fail;refine(uh Fa).mono ?_;rintro e w3 ⟨rfl,hw3⟩;obtain rfl:=hw3.symm;have qx:Hid (Jz W1 mb (stepS (a++[k]) eu) (.slice (some ⟨g,0,none⟩) (al+1) mc) bs w2):=ak (by rw[uh I7];exact(uh uq).1);generalize je f ql=pc at *;go_wp2;refine uh HKK _ _ _ _ rfl ?_ ?_ (uh qx)
  ·exact V3 rfl rfl rfl rfl rfl rfl rfl rfl rfl rfl
  ·rfl
end Go.Proofs.YtfeejeflmcapoaaGreatDoor
