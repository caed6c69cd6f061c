import Derived.Deep.RegionHeld3
import Derived.Deep.QuietTactic
import Derived.BigQuiet
import Derived.Test.YtfeejeflmcapoaaGreatDoorRT2
import Derived.Test.YtfeejeflmcapoaaGreatDoorRI3
import Derived.Test.YtfeejeflmcapoaaGreatDoorRT1
set_option linter.unusedSimpArgs false
set_option linter.unusedVariables false
set_option maxHeartbeats 4000000
set_option maxRecDepth 1000000
namespace Go.Proofs.YtfeejeflmcapoaaGreatDoor
open Go.RowKit
def V4:Code->Option Code
 | .loop c=>some c
 | .seq a b=>match V4 a with
  | some c=>some c
  | none=>V4 b
 | .block _ c=>V4 c
 | .scope c=>V4 c
 | .cond _ a b=>match V4 a with
  | some c=>some c
  | none=>V4 b
 | _=>none
def Yv (t:dh) (rb mb lg n lc:Nat) (i:Nat) (v:Value):Value :=
 match i with
 | 0=>.string t
 | 1=>undef
 | 2=>.pointer (some ⟨rb,0,none⟩)
 | 3=>.pointer (some ⟨mb,0,none⟩)
 | 4=>undef
 | 14=>.agg #[.slice none 0 0]
 | 15=>.string t
 | 16=>.slice (some ⟨lg,0,none⟩) n lc
 | 17=>.int .i64 (n:Int)
 | 368=>undef
 | _=>v
def agu (t:dh) (rb mb lg n lc:Nat) (u:Nat->Value):Act:=⟨((List.range 369).map (fun i=>Yv t rb mb lg n lc i (u i))).toArray,[]⟩
def Ph:List Nat:=[0,1,2,3,4,14,15,16,17,368]
theorem a2m (t:dh) (rb mb lg n lc:Nat) (i:Nat) (v:Value) (h:i∉Ph):Yv t rb mb lg n lc i v=v:=by
 unfold Ph at h;simp only[qj,xq,xu,not_or] at h;obtain⟨h0,h1,h2,h3,h4,h5,h6,h7,h8,h9⟩:=h;unfold Yv
 split<;>first|(exfalso;omega)|rfl
theorem acy (t:dh) (rb mb lg n lc:Nat) (x:Array Value) (hs:x.size=369) (h:∀i,i∈Ph->x.getD i undef=Yv t rb mb lg n lc i undef):∃u,(⟨x,[]⟩:Act)=agu t rb mb lg n lc u/\∀i,u i=x.getD i undef:=by
 refine⟨fun i=>x.getD i undef,?_,fun i=>rfl⟩;unfold agu;congr 1;refine Array.ext (by simp[hs]) (fun i h1 h2=>?_);have hi:i<369:=by omega
 have e:x.getD i undef=x[i]:=by simp[Array.getD,h1]
 simp only[List.getElem_toArray,List.getElem_map,List.getElem_range]
 by_cases hm:i∈Ph
 ·have h9:=h i hm
  rw[e] at h9;rw[e,h9];unfold Ph at hm;simp only[qj,xq,xu] at hm;rcases hm with rfl|rfl|rfl|rfl|rfl|rfl|rfl|rfl|rfl|rfl<;>rfl
 ·rw[a2m _ _ _ _ _ _ _ _ hm,e]
theorem Cj (t:dh) (rb mb lg n lc:Nat) (u:Nat->Value):agu t rb mb lg n lc u=⟨#[.string t,undef,.pointer (some ⟨rb,0,none⟩),.pointer (some ⟨mb,0,none⟩),undef,u 5,u 6,u 7,u 8,u 9,u 10,u 11,u 12,u 13,.agg #[.slice none 0 0],.string t,.slice (some ⟨lg,0,none⟩) n lc,.int .i64 (n:Int),u 18,u 19,u 20,u 21,u 22,u 23,u 24,u 25,u 26,u 27,u 28,u 29,u 30,u 31,u 32,u 33,u 34,u 35,u 36,u 37,u 38,u 39,u 40,u 41,u 42,u 43,u 44,u 45,u 46,u 47,u 48,u 49,u 50,u 51,u 52,u 53,u 54,u 55,u 56,u 57,u 58,u 59,u 60,u 61,u 62,u 63,u 64,u 65,u 66,u 67,u 68,u 69,u 70,u 71,u 72,u 73,u 74,u 75,u 76,u 77,u 78,u 79,u 80,u 81,u 82,u 83,u 84,u 85,u 86,u 87,u 88,u 89,u 90,u 91,u 92,u 93,u 94,u 95,u 96,u 97,u 98,u 99,u 100,u 101,u 102,u 103,u 104,u 105,u 106,u 107,u 108,u 109,u 110,u 111,u 112,u 113,u 114,u 115,u 116,u 117,u 118,u 119,u 120,u 121,u 122,u 123,u 124,u 125,u 126,u 127,u 128,u 129,u 130,u 131,u 132,u 133,u 134,u 135,u 136,u 137,u 138,u 139,u 140,u 141,u 142,u 143,u 144,u 145,u 146,u 147,u 148,u 149,u 150,u 151,u 152,u 153,u 154,u 155,u 156,u 157,u 158,u 159,u 160,u 161,u 162,u 163,u 164,u 165,u 166,u 167,u 168,u 169,u 170,u 171,u 172,u 173,u 174,u 175,u 176,u 177,u 178,u 179,u 180,u 181,u 182,u 183,u 184,u 185,u 186,u 187,u 188,u 189,u 190,u 191,u 192,u 193,u 194,u 195,u 196,u 197,u 198,u 199,u 200,u 201,u 202,u 203,u 204,u 205,u 206,u 207,u 208,u 209,u 210,u 211,u 212,u 213,u 214,u 215,u 216,u 217,u 218,u 219,u 220,u 221,u 222,u 223,u 224,u 225,u 226,u 227,u 228,u 229,u 230,u 231,u 232,u 233,u 234,u 235,u 236,u 237,u 238,u 239,u 240,u 241,u 242,u 243,u 244,u 245,u 246,u 247,u 248,u 249,u 250,u 251,u 252,u 253,u 254,u 255,u 256,u 257,u 258,u 259,u 260,u 261,u 262,u 263,u 264,u 265,u 266,u 267,u 268,u 269,u 270,u 271,u 272,u 273,u 274,u 275,u 276,u 277,u 278,u 279,u 280,u 281,u 282,u 283,u 284,u 285,u 286,u 287,u 288,u 289,u 290,u 291,u 292,u 293,u 294,u 295,u 296,u 297,u 298,u 299,u 300,u 301,u 302,u 303,u 304,u 305,u 306,u 307,u 308,u 309,u 310,u 311,u 312,u 313,u 314,u 315,u 316,u 317,u 318,u 319,u 320,u 321,u 322,u 323,u 324,u 325,u 326,u 327,u 328,u 329,u 330,u 331,u 332,u 333,u 334,u 335,u 336,u 337,u 338,u 339,u 340,u 341,u 342,u 343,u 344,u 345,u 346,u 347,u 348,u 349,u 350,u 351,u 352,u 353,u 354,u 355,u 356,u 357,u 358,u 359,u 360,u 361,u 362,u 363,u 364,u 365,u 366,u 367,undef],[]⟩:=rfl
theorem Lh {B:Nat} {w:cu} {v:Value} {a:List dw} {k:dw} {bs:List Nat} (h:yj Et Ci B w v (a++[k]) bs):∃g mc,v=.slice (some ⟨g,0,none⟩) (a.length+1) mc:=by
 obtain⟨css,subs,ho,hl,h3,_⟩:=h;have h9:=h3.len;obtain⟨g,mc,hv,_⟩:=Zl ho 0 (by rw[h9.1];simp);refine⟨g,mc,?_⟩;rw[hv,h9.1];simp
theorem J3 {w:cu} {B:Nat} {v:Value} {ps:List dh} (h:jq ny w B v ps) (hs:ps.length<=1048577/\∀p,p∈ps->p.size<=1048576):jc 1 16 xk 0 w v ps:=by
 refine h.at (fun x hx=>⟨rfl,?_⟩) ?_
 ·have:=hs.2 x hx
  unfold Len;omega
 ·have h1:=hs.1
  show ps.length*16<=_;omega
theorem Eb (eu:dh) (h:eu.size<=1048576):(wordsOf 32 eu).length<=1048577/\∀p,p∈wordsOf 32 eu->p.size<=1048576:=by
 have h1:=Au 32 eu;refine⟨by omega,fun p hp=>?_⟩
 have h8:p.size+1<=Du (wordsOf 32 eu):=by
  generalize wordsOf 32 eu=ls at hp
  induction ls with
  | nil=>cases hp
  | cons x ls ih =>
   rw[Nv];rcases qj.1 hp with rfl|h7
   ·omega
   ·have:=ih h7;omega
 have h9:Du (wordsOf 32 eu)=eu.size+1:=h1.2;omega
theorem Jz.put {W1:cu} {mb:Nat} {cs cs':List dw} {mv:Value} {bs bs':List Nat} {w w5:cu} {α:Type} {E:Fj Tryz.prog α} {v u:Value} {xs:List α} {g o:Nat} (h:Jz W1 mb cs mv bs w) (hm:mb<W1.heap.size) (ho:jq E w W1.heap.size v xs) (hE:24≠E.T) (hg:w.grownBy w5 v.ownBlock) (hgB:W1.heap.size<=g) (hmk:yj Et Ci W1.heap.size (w5.setCell ⟨g,o,none⟩ u) mv cs' bs'):Jz W1 mb cs' mv bs' (w5.setCell ⟨g,o,none⟩ u):=by
 have hb5:jd w5 mb 24 #[mv]:=(RwB.Xl ho hg).blk h.box hE;have hset:∀b,b≠g->(w5.setCell ⟨g,o,none⟩ u).heap[b]?=w5.heap[b]?:=fun b hb=>zf _ _ _ _ (fun e=>hb e)
 have hz:(w5.setCell ⟨g,o,none⟩ u).heap.size=w5.heap.size:=by simp[World.setCell]
 refine⟨(hset mb (by omega)).trans hb5,hmk,⟨?_,?_,?_,?_,fun b hb hs=>?_⟩⟩
 ·exact hg.os.trans h.but.os
 ·exact hg.tape.trans h.but.tape
 ·exact hg.output.trans h.but.output
 ·rw[hz];exact ku h.but.size hg.size
 ·refine(hset b (by omega)).trans ((hg.block b (qg hb h.but.size) (fun e=>?_)).trans (h.but.block b hb hs))
  have:=(Az ho b e.symm).1;omega
theorem Jz.Y5 {W1:cu} {mb:Nat} {cs:List dw} {bs:List Nat} {w:cu} {g n mc:Nat} (h:Jz W1 mb cs (.slice (some ⟨g,0,none⟩) n mc) bs w):W1.heap.size<=g:=by
 obtain⟨css,subs,ho,_⟩:=h.row;exact ho.block g rfl
theorem Aj {a:List dw} {k:dw} (h:pz qy (a++[k])<=1048577):k.ins.length<=1048577/\k.au.length<=1048577/\k.iw.length<=1048577/\k.gq.length<=1048577/\k.ay.length<=1048577/\k.body.length<=1048577:=by
 rw[Ah] at h;unfold qy pz at h;refine⟨?_,?_,?_,?_,?_,?_⟩<;>omega
def Qm (eu:dh) (cs:List dw):Prop:=∀(t:dh) (rb mb lg n lc:Nat) (u:Nat->Value) (q:Nat) (_:u 18=.int .i64 (q:Int)) (_:q<n) (_:n<=1048577) (K K1:Act->cu->Prop) (PO:Ending->cu->Prop) (wr W1:cu) (mv:Value) (bs:List Nat) (_:Jz W1 mb cs mv bs wr) (_:wr.cell? ⟨lg,q,none⟩=some (.string eu)) (_:eu.size<=1048576) (_:pz qy cs<=1048577) (_:∀x w'' mv' bs',x.size=369->(∀i,i∈Ph->x.getD i undef=Yv t rb mb lg n lc i undef)->x.getD 18 undef=.int .i64 ((q:Int)+1)->Jz W1 mb (stepS cs eu) mv' bs' w''->K ⟨x,[]⟩ w'') (_:mb<W1.heap.size),Code.wp Tryz.prog ((Tryz.f9.body.bind V4).getD .skip) (Exit.then K (Exit.inBlock 0 (Exit.then K1 (bodyPost Tryz.prog Tryz.f9 PO)))) (agu t rb mb lg n lc u) wr
theorem Vb {p W:dh} (h:p=W) (b0 b1 b2 b3 b4 b5 b6 b7 b8 b9:Bool) (hb:[decide (W=vw),decide (W=Ic),decide (W=Dz),decide (W=Ee),decide (W=Ef),decide (W=Eh),decide (W=Je),decide (W=Fp),decide (W=Qg),decide (W=zx)]=[b0,b1,b2,b3,b4,b5,b6,b7,b8,b9]):(p.toList==[99,108,97,115,115])=b0/\(p.toList==[105,110])=b1/\(p.toList==[111,117,116])=b2/\(p.toList==[108,111,99])=b3/\(p.toList==[109,101,109])=b4/\(p.toList==[117,115,101])=b5/\(p.toList==[115,101,116])=b6/\(p.toList==[115,97,118,101])=b7/\(p.toList==[105,102])=b8/\(p.toList==[99,97,108,108])=b9:=by
 subst h;simp only[List.cons.injEq,and_true] at hb;rw[ab9,abk,aa5,acd,aea,agq,Zj,Yr,ahg,aah];exact hb
theorem qc {α:Type} {p W V:dh} {Q:Prop} [Decidable (p=V/\Q)] {x y:α} (h:p=W) (d:W≠V):(if p=V/\Q then x else y)=y:=bf (fun h9=>d (h.symm.trans h9.1))
theorem gc (al n:Nat) (h:al<=1048577) (h2:n<=1048577):(((al:Int)+1)==0)=false/\IntKind.i64.wrap ((al:Int)+1-1)=(al:Int)/\¬(9000000:Int)<(n:Int)/\decide ((9000000:Int)<(n:Int))=false :=
 ⟨by rw[su];omega,by rw[Qw];omega,by omega,iy (by omega)⟩
theorem V3 {t:dh} {rb mb lg n lc:Nat} {x:Array Value} (h0:x.getD 0 undef=Yv t rb mb lg n lc 0 undef) (h1:x.getD 1 undef=Yv t rb mb lg n lc 1 undef) (h2:x.getD 2 undef=Yv t rb mb lg n lc 2 undef) (h3:x.getD 3 undef=Yv t rb mb lg n lc 3 undef) (h4:x.getD 4 undef=Yv t rb mb lg n lc 4 undef) (h14:x.getD 14 undef=Yv t rb mb lg n lc 14 undef) (h15:x.getD 15 undef=Yv t rb mb lg n lc 15 undef) (h16:x.getD 16 undef=Yv t rb mb lg n lc 16 undef) (h17:x.getD 17 undef=Yv t rb mb lg n lc 17 undef) (bfq:x.getD 368 undef=Yv t rb mb lg n lc 368 undef):∀i,i∈Ph->x.getD i undef=Yv t rb mb lg n lc i undef:=by
 intro i hi;unfold Ph at hi;simp only[qj,xq,xu] at hi;rcases hi with rfl|rfl|rfl|rfl|rfl|rfl|rfl|rfl|rfl|rfl<;>assumption
theorem I5 (cs:List dw) (eu:dh):stepS cs eu=upL (Iq cs (wordsOf 32 eu)) (lineS (Iq cs (wordsOf 32 eu)) eu (wordsOf 32 eu)):=rfl
structure Za (w:cu):Prop where
 env:Env w
 mx:∃m,w.cell? ⟨0,0,none⟩=some (.int .i64 m)
 e1:∃ev,w.cell? ⟨1,0,none⟩=some ev/\(ev=.nilIface\/∃te pe,ev=.iface te pe)
 e2:∃ev,w.cell? ⟨2,0,none⟩=some ev/\(ev=.nilIface\/∃te pe,ev=.iface te pe)
theorem Za.below {B:Nat} {w w':cu} (h:Za w) (hb:Below B w w') (hB:9<=B):Za w':=by
 obtain⟨h1,⟨m,h2⟩,⟨ev,h3,h3'⟩,⟨ew,h4,h4'⟩⟩:=h;exact⟨h1.below hb hB,⟨m,(hb.cell (p:=⟨_,0,none⟩) (qg (by decide) hB)).trans h2⟩,⟨ev,(hb.cell (p:=⟨_,0,none⟩) (qg (by decide) hB)).trans h3,h3'⟩,⟨ew,(hb.cell (p:=⟨_,0,none⟩) (qg (by decide) hB)).trans h4,h4'⟩⟩
theorem ag9 {w:cu} {a:Option Addr} {n cap:Nat} {f:List dh} (h:jc 1 16 xk 0 w (.slice a n cap) f) (i:Nat) (hi:i<f.length):∃b o,a=some ⟨b,o,none⟩/\b<w.heap.size/\w.cell? ⟨b,o+i,none⟩=some (.string (fA f i))/\Len (fA f i).size:=by
 obtain⟨a',c',hv,_,_,hx⟩:=h;simp only[qw] at hv;obtain⟨b,o,cs,e1,_,e3,e4,e5,e6⟩:=hx i hi;obtain⟨rfl,h9⟩:=e6;refine⟨b,o,by rw[hv.1,e1],e3,?_,by rw[←Jj f i hi];exact h9⟩;have h8:=e5 0 (by simp);rw[←Jj f i hi];simpa using h8
theorem afe (t:dh):(t.toList==[])=decide (t=ByteArray.empty):=Hw t ByteArray.empty _ rfl
theorem agn (f:List dh) (i:Nat) (h:¬i<f.length):fA f i=E0:=by
 unfold fA;rw[yw,List.getElem?_eq_none (by omega)];rfl
theorem bah {w:cu} {v:Value} {f:List dh} (h:jc 1 16 xk 0 w v f) (i:Nat):Len (fA f i).size:=by
 by_cases hi:i<f.length
 ·obtain⟨a,c,rfl⟩:=h.shape
  obtain⟨b,o,_,_,_,h9⟩:=ag9 h i hi;exact h9
 ·rw[agn f i hi]
  unfold Len;decide
theorem Yn (f:List dh) (v:Value) (w:cu) (i:Nat) (hi:i<=2000000) (hv:jc 1 16 xk 0 w v f):Calls Tryz.prog 33 #[v,.int .i64 (i:Int)] w (fun e w'=>e=.returned (.string (fA f i))/\w'=w):=by
 have HV:=ak hv;obtain⟨a,cap,rfl⟩:=hv.shape;clear hv
 by_cases h:i<f.length
 ·obtain⟨b,o,rfl,hb,hc,_⟩:=ag9 (uh HV) i h
  have hI:(i:Int)<(f.length:Int):=by omega
  go_enter Tryz.func33,Tryz.ntmps33;go_wp2;go_ret;exact⟨rfl,rfl⟩
 ·have hI:¬(i:Int)<(f.length:Int):=by omega
  have HE:=ak (agn f i h);have dI:decide ((i:Int)<(f.length:Int))=false:=iy hI;clear h;go_enter Tryz.func33,Tryz.ntmps33;go_wp2;go_ret;rw[uh HE];exact⟨rfl,rfl⟩
theorem aa0 (f:List dh) (v:Value) (w:cu) (i:Nat) (hi:i<=2000000) (hv:jc 1 16 xk 0 w v f):Calls Tryz.prog 30 #[v,.int .i64 (i:Int)] w (Ans (.string (fA f i)) w):=by
 have HP:=ak (Yn f v w i hi hv);have HC:=ak (apo (fA f i) w (bah hv i));obtain⟨a,cap,rfl⟩:=hv.shape;clear hv;go_enter Tryz.func30,Tryz.ntmps30;go_wp2_with fail;refine(uh HP).mono ?_;rintro e w1 ⟨rfl,hw⟩;obtain rfl:=hw.symm;go_wp2_with fail;refine(uh HC).mono ?_;rintro e w2 ⟨rfl,hb⟩;have HB:=ak hb;clear hb;go_wp2;go_ret;exact⟨rfl,uh HB⟩
theorem a5z (p:dh) (w:cu) (hE:Za w) (hp:p.size<=1048576):Calls Tryz.prog 59 #[.string p] w (fun e w'=>∃ev,e=.returned (.tuple #[.int .i64 (Om p),ev])/\ev.oneCell'=true/\Below w.heap.size w w'):=by
 unfold Om;obtain⟨ev1,h1,h1'⟩:=hE.e1;obtain⟨ev2,h2,h2'⟩:=hE.e2
 cases h:Lib.atoiAll (bL p) with
 | ok v =>
  refine(Tryz.strconv_Atoi_ok p (by omega) v h w).mono ?_;rintro e w' ⟨rfl,hw⟩;refine⟨_,rfl,rfl,?_⟩;rcases hw with rfl|⟨t,rfl⟩
  ·exact iq _ _
  ·exact Lib.bytesWorld_below _ _ _
 | range =>
  refine(Tryz.strconv_Atoi_range p (by omega) h ev2 w h2 h2').mono ?_;rintro e w' ⟨N,rfl,_,_,hb⟩;exact⟨_,rfl,rfl,hb⟩
 | _ =>
  refine(Tryz.strconv_Atoi_bad p (by omega) h ev1 w h1 h1').mono ?_;rintro e w' ⟨N,rfl,_,_,hb⟩;exact⟨_,rfl,rfl,hb⟩
theorem Xr (p:dh) (w:cu) (hE:Za w) (hp:p.size<=1048576):Calls Tryz.prog 32 #[.string p] w (Ans (.int .i64 (Om p)) w):=by
 have HA:=ak (a5z p w hE hp);clear hE;generalize Om p=v at *;go_enter Tryz.func32,Tryz.ntmps32;go_wp2_with fail;refine(uh HA).mono ?_;rintro e w1 ⟨ev,rfl,hev,hb⟩;have HB:=ak hb;clear hb;go_wp2;go_ret;exact⟨rfl,uh HB⟩
theorem a6a:Vz ac8=4:=by decide +kernel
theorem a6b:Vz ac9=5:=by decide +kernel
theorem bca:Vz Wq=20:=by decide +kernel
theorem a6c:∀k:Fin 14,Vz (opAt k.val).1=(opAt k.val).2.2:=by decide +kernel
theorem a2n:∀i:Fin 17,Dh i.val=ac8\/Dh i.val=ac9\/Dh i.val=Wq\/∃j:Fin 14,(opAt j.val).1=Dh i.val:=by decide +kernel
theorem bai (p:dh) (h1:p≠ac8) (h2:p≠ac9) (h3:p≠Wq) (h:∀j,j<14->(opAt j).1≠p):Vz p=0:=by
 unfold Vz;rw[Um p (fun i hi e=>?_)];rcases a2n ⟨i,hi⟩ with h9|h9|h9|⟨j,h9⟩
 ·exact h1 (by rw[←e];exact h9)
 ·exact h2 (by rw[←e];exact h9)
 ·exact h3 (by rw[←e];exact h9)
 ·exact h j.val j.isLt (by rw[←e];exact h9)
theorem ax5 (p:dh):(p.toList==[110,101,103])=decide (p=ac8):=Hw p ac8 _ rfl
theorem ax6 (p:dh):(p.toList==[110,111,116])=decide (p=ac9):=Hw p ac9 _ rfl
theorem baj (p:dh):(p.toList==[63])=decide (p=Wq):=Hw p Wq _ rfl
theorem a6d (p:dh):(p.toList==[116,114,117,101])=decide (p=N7):=Hw p N7 _ rfl
theorem a2o (p:dh):(p.toList==[102,97,108,115,101])=decide (p=Jw):=Hw p Jw _ rfl
theorem a6e (p:dh) (w:cu) (h:w.rangeAt 3 0 Fq):Calls Tryz.prog 120 #[.string p] w (Ans (.int .i64 (Vz p)) w):=by
 have HH:=ak h;have HP:=ak arq;clear h
 by_cases h1:p=ac8
 ·have e1:(p.toList==[110,101,103])=true:=by rw[ax5];exact jf h1
  have HO:Hid (Vz p=4):=ak (by rw[h1];exact a6a);clear h1;go_enter Tryz.func120,Tryz.ntmps120;go_wp2;go_ret;rw[uh HO];exact⟨rfl,iq _ _⟩
 have e1:(p.toList==[110,101,103])=false:=by rw[ax5];exact iy h1
 by_cases h2:p=ac9
 ·have e2:(p.toList==[110,111,116])=true:=by rw[ax6];exact jf h2
  have HO:Hid (Vz p=5):=ak (by rw[h2];exact a6b);clear h1 h2;go_enter Tryz.func120,Tryz.ntmps120;go_wp2;go_ret;rw[uh HO];exact⟨rfl,iq _ _⟩
 have e2:(p.toList==[110,111,116])=false:=by rw[ax6];exact iy h2
 by_cases h3:p=Wq
 ·have e3:(p.toList==[63])=true:=by rw[baj];exact jf h3
  have HO:Hid (Vz p=20):=ak (by rw[h3];exact bca);clear h1 h2 h3;go_enter Tryz.func120,Tryz.ntmps120;go_wp2;go_ret;rw[uh HO];exact⟨rfl,iq _ _⟩
 have e3:(p.toList==[63])=false:=by rw[baj];exact iy h3
 have Bo:=ak (bai p h1 h2 h3);have HTB:=ak a6c;clear h1 h2 h3;go_enter Tryz.func120,Tryz.ntmps120;go_wp2_with (refine wpList_load_mid rfl 161 (.global 3) rfl 3 0 rfl Fq (.array 14 160) (uh HH) u158 rfl a9r ?_);generalize Fq.toArray=OC at *
 go_loopg [13] 14 (fun g i wr=>∃(k:Nat),k<=14/\g=14-k/\i=.int .i64 k/\(∀j,j<k->(opAt j).1≠p)/\Below w.heap.size w wr)
 case atStart=>exact⟨0,jg _,rfl,rfl,fun j hj=>absurd hj (yu _),iq _ _⟩
 case round =>
  obtain⟨k,hk,hg,rfl,hno,hbl⟩:=hrel;have HG:=ak hg;have HN:=ak hno;clear hg hno
  by_cases hlt:k<14
  ·have HI:=ak (uh HP k hlt)
   have HS:Hid (Vz (opAt k).1=(opAt k).2.2):=ak (uh HTB ⟨k,hlt⟩)
   by_cases he:(opAt k).1=p
   ·have HO:Hid (Vz p=(opAt k).2.2):=ak (by rw[←he];exact uh HS)
    have eq:((opAt k).1.toList==p.toList)=true:=by rw[he];simp
    clear he HS;generalize opAt k=pr at *;obtain⟨s,l,o⟩:=pr;simp only at *;go_wp2_with (refine Zh rfl 161 (.tmp 12) (.tmp 13) rfl (.agg OC) (.int .i64 k) _ rfl rfl (uh HI _) ?_);go_ret;rw[uh HO];exact⟨rfl,hbl.alloc hbl.size _⟩
   ·have Zp:Hid (∀j,j<k+1->(opAt j).1≠p):=fun j hj=>by
     by_cases hjk:j=k
     ·subst hjk;exact he
     ·exact uh HN j (by omega)
    have eq:((opAt k).1.toList==p.toList)=false:=by rw[zi];exact iy he
    clear he HS;generalize hq:opAt k=pr at *;obtain⟨s,l,o⟩:=pr;simp only at *;have HQ:=ak hq;clear hq;go_wp2_with (refine Zh rfl 161 (.tmp 12) (.tmp 13) rfl (.agg OC) (.int .i64 k) _ rfl rfl (uh HI _) ?_)
    go_roundg (14-(k+1))
    case measure=>have:=uh HG;omega
    case rel=>exact⟨k+1,by omega,rfl,by go_num,uh Zp,hbl.alloc hbl.size _⟩
  ·have e:k=14:=by omega
   subst e;have HO:Hid (Vz p=0):=ak (uh Bo (uh HN));go_wp2;go_ret;rw[uh HO];exact⟨rfl,hbl⟩
theorem arv (p:dh) (c:UInt8):Lib.hasPrefix p.data.toList [c]=decide ((bL p).head?=some c)/\((bL p).head?=some c->(⟨(Lib.trimPrefix p.data.toList [c]).toArray⟩:dh)=J7 p):=by
 have e:p.data.toList=bL p:=rfl
 have h1:Lib.hasPrefix (bL p) [c]=decide ((bL p).head?=some c):=by
  unfold Lib.hasPrefix
  cases bL p with
  | nil=>rfl
  | cons b l =>
   by_cases h:b=c
   ·subst h;simp
   ·have h':¬c=b:=fun e=>h e.symm
    simp[List.isPrefixOf,h,h']
 rw[e];refine⟨h1,fun h=>?_⟩;unfold Lib.trimPrefix J7 Qo;rw[h1,jf h];rfl
theorem aur (p:dh) (h:p.size<=1048576):(J7 p).size<=1048576:=by
 rw[←Ep] at *;unfold J7;rw[Zg,Cc];omega
theorem bcb (p:dh) (h:p≠ByteArray.empty):0<p.size/\∃b l,bL p=b::l/\uf p 0=(b.toNat:Int):=by
 cases hb:bL p with
 | nil =>
  exact absurd (by rw[←Uy p,hb];rfl) h
 | cons b l =>
  have hs:0<p.size:=by rw[←Ep,hb];simp
  obtain⟨i,hi,e⟩:=aq5 (s:=p) (b:=b) (by rw[hb];simp);refine⟨hs,b,l,rfl,?_⟩;unfold uf;rw[dif_pos hs]
  have e2:p[0]=b:=by
   have h9:(bL p)[0]'(by rw[hb];simp)=b:=by simp[hb]
   rw[←h9];simp only[bL,Array.getElem_toList];rfl
  rw[e2]
def bam (t:l9) (w:cu) (e:Ending) (w':cu):Prop:=e=.returned (.agg #[.int .i64 t.op,.int .i64 t.val,.string t.name])/\Below w.heap.size w w'
theorem aw8 (p:dh) (w:cu) (hE:Za w) (hp:p.size<=1048576):Calls Tryz.prog 92 #[.string p] w (bam (Hf p) w):=by
 obtain⟨PO,Gn⟩:=o8 (bam (Hf p) w);rw[←Gn];have Dc:=ak Gn;clear Gn;obtain⟨n1,hn1⟩:∃z:dh,z=⟨(Lib.trimPrefix p.data.toList [46]).toArray⟩:=⟨_,rfl⟩;obtain⟨n2,hn2⟩:∃z:dh,z=⟨(Lib.trimPrefix p.data.toList [64]).toArray⟩:=⟨_,rfl⟩;obtain⟨b1,hb1⟩:∃z:Bool,z=Lib.hasPrefix p.data.toList [46]:=⟨_,rfl⟩;obtain⟨b2,hb2⟩:∃z:Bool,z=Lib.hasPrefix p.data.toList [64]:=⟨_,rfl⟩;have Ap:Hid (∀W,Calls Tryz.prog 118 #[.string p,.string ⟨#[46]⟩] W (fun e w'=>e=.returned (.tuple #[.string n1,.bool b1])/\w'=W)):=ak (fun W=>by rw[hn1,hb1];exact Tryz.strings_CutPrefix p ⟨#[46]⟩ W);have HC2:Hid (∀W,Calls Tryz.prog 118 #[.string p,.string ⟨#[64]⟩] W (fun e w'=>e=.returned (.tuple #[.string n2,.bool b2])/\w'=W)):=ak (fun W=>by rw[hn2,hb2];exact Tryz.strings_CutPrefix p ⟨#[64]⟩ W);have k1:=arv p 46;have k2:=arv p 64;rw[←hb1,←hn1] at k1;rw[←hb2,←hn2] at k2;have U5:=ak k1;have Rx:=ak k2;have hA:Below w.heap.size w (w.alloc (.cells #[.int .i64 0,.int .i64 0,.string ⟨#[]⟩] 83)):=(iq _ _).alloc (gu _) _;obtain⟨X,hX⟩:=o8 (w.alloc (.cells #[.int .i64 0,.int .i64 0,.string ⟨#[]⟩] 83));have D5:Hid (jd X w.heap.size 83 #[.int .i64 0,.int .i64 0,.string ⟨#[]⟩]):=ak (by rw[hX];exact oh _ _ _);have HB:Hid (Below w.heap.size w X):=ak (by rw[hX];exact hA);have HEX:Hid (Za X):=ak (hE.below (uh HB) hE.env.three);have HX:=ak hX;have hts:=aur p hp;clear k1 k2 hb1 hb2 hn1 hn2 hA hX hE;go_enter Tryz.func92,Tryz.ntmps92;go_wp2_with fail;rw[←uh HX];refine(uh Ap X).mono ?_;rintro e w9 ⟨rfl,Qe⟩;obtain rfl:=Qe.symm;go_wp2_with fail;refine(uh HC2 X).mono ?_;rintro e w8 ⟨rfl,hw8⟩;obtain rfl:=hw8.symm;clear Ap HC2
 by_cases h46:(bL p).head?=some 46
 ·obtain rfl:b1=true:=by rw[(uh U5).1];exact jf h46
  have HE:Hid (Hf p=⟨3,0,n1⟩):=ak (by unfold Hf;rw[gy h46,(uh U5).2 h46]);have Qb:=ak (apo n1 X (by rw[(uh U5).2 h46];unfold Len;omega));clear U5 Rx h46 hts;go_wp2_with fail;refine(uh Qb).mono ?_;rintro e w1 ⟨rfl,hb1⟩;have hk1:=(uh D5).below hb1 (uh D5).lt;have hB1:Below w.heap.size w w1:=(uh HB).trans (hb1.mono (uh HB).size);have hbx:=((hk1.set 0 (.int .i64 3)).set 1 (.int .i64 0)).set 2 (.string n1)
  have qx:Hid (PO (.returned (.agg #[.int .i64 3,.int .i64 0,.string n1])) (((w1.setCell ⟨w.heap.size,0,none⟩ (.int .i64 3)).setCell ⟨w.heap.size,1,none⟩ (.int .i64 0)).setCell ⟨w.heap.size,2,none⟩ (.string n1))):=ak (by
   rw[uh Dc];refine⟨by rw[uh HE];first|done|rfl,?_⟩
   exact((hB1.setCell (p:=⟨w.heap.size,0,none⟩) (gu _) (.int .i64 3)).setCell (p:=⟨w.heap.size,1,none⟩) (gu _) (.int .i64 0)).setCell (p:=⟨w.heap.size,2,none⟩) (gu _) (.string n1))
  have Oi:=ak (And.intro (hbx.cell (i:=0) (v:=.int .i64 3) rfl) (And.intro (hbx.cell (i:=1) (v:=.int .i64 0) rfl) (hbx.cell (i:=2) (v:=.string n1) rfl)));have c0:=hk1.cell (i:=0) (v:=.int .i64 0) rfl;have c1:=hk1.cell (i:=1) (v:=.int .i64 0) rfl;have c2:=hk1.cell (i:=2) (v:=.string ⟨#[]⟩) rfl;have g0:=hk1.free 0;have g1:=hk1.free 1;have g2:=hk1.free 2;have Ux:w.heap.size<w1.heap.size:=hk1.lt;clear hbx;clear hb1 hk1 hB1;go_wp2;obtain⟨f0,f1,f2⟩:=uh Oi;exact bodyPost_ret (v:=.agg #[.int .i64 3,.int .i64 0,.string n1]) (by simp[results,Tryz.results92,go_sem,f0,f1,f2]) rfl (uh qx)
 obtain rfl:b1=false:=by rw[(uh U5).1];exact iy h46
 by_cases h64:(bL p).head?=some 64
 ·obtain rfl:b2=true:=by rw[(uh Rx).1];exact jf h64
  have HE:Hid (Hf p=⟨25,Om n2,E0⟩):=ak (by unfold Hf;rw[bf h46,gy h64,(uh Rx).2 h64]);have HNU:=ak (Xr n2 X (uh HEX) (by rw[(uh Rx).2 h64];exact hts));clear U5 Rx h46 h64 hts;generalize Om n2=nv at *;go_wp2_with fail;refine(uh HNU).mono ?_;rintro e w1 ⟨rfl,hb1⟩;have hk1:=(uh D5).below hb1 (uh D5).lt;have hB1:Below w.heap.size w w1:=(uh HB).trans (hb1.mono (uh HB).size);have hbx:=((hk1.set 0 (.int .i64 25)).set 1 (.int .i64 nv)).set 2 (.string ⟨#[]⟩)
  have qx:Hid (PO (.returned (.agg #[.int .i64 25,.int .i64 nv,.string ⟨#[]⟩])) (((w1.setCell ⟨w.heap.size,0,none⟩ (.int .i64 25)).setCell ⟨w.heap.size,1,none⟩ (.int .i64 nv)).setCell ⟨w.heap.size,2,none⟩ (.string ⟨#[]⟩))):=ak (by
   rw[uh Dc];refine⟨by rw[uh HE];first|done|rfl,?_⟩
   exact((hB1.setCell (p:=⟨w.heap.size,0,none⟩) (gu _) (.int .i64 25)).setCell (p:=⟨w.heap.size,1,none⟩) (gu _) (.int .i64 nv)).setCell (p:=⟨w.heap.size,2,none⟩) (gu _) (.string ⟨#[]⟩))
  have Oi:=ak (And.intro (hbx.cell (i:=0) (v:=.int .i64 25) rfl) (And.intro (hbx.cell (i:=1) (v:=.int .i64 nv) rfl) (hbx.cell (i:=2) (v:=.string ⟨#[]⟩) rfl)));have c0:=hk1.cell (i:=0) (v:=.int .i64 0) rfl;have c1:=hk1.cell (i:=1) (v:=.int .i64 0) rfl;have c2:=hk1.cell (i:=2) (v:=.string ⟨#[]⟩) rfl;have g0:=hk1.free 0;have g1:=hk1.free 1;have g2:=hk1.free 2;have Ux:w.heap.size<w1.heap.size:=hk1.lt;clear hbx;clear hb1 hk1 hB1;go_wp2;obtain⟨f0,f1,f2⟩:=uh Oi;exact bodyPost_ret (v:=.agg #[.int .i64 25,.int .i64 nv,.string ⟨#[]⟩]) (by simp[results,Tryz.results92,go_sem,f0,f1,f2]) rfl (uh qx)
 obtain rfl:b2=false:=by rw[(uh Rx).1];exact iy h64
 have e_t:=a6d p;have e_f:=a2o p
 by_cases ht:p=N7
 ·rw[jf ht] at e_t
  have HE:Hid (Hf p=⟨2,1,E0⟩):=ak (by unfold Hf;rw[bf h46,bf h64,gy ht]);clear U5 Rx h46 h64 hts ht e_f;have hbx:=(((uh D5).set 0 (.int .i64 2)).set 1 (.int .i64 1)).set 2 (.string ⟨#[]⟩)
  have qx:Hid (PO (.returned (.agg #[.int .i64 2,.int .i64 1,.string ⟨#[]⟩])) (((X.setCell ⟨w.heap.size,0,none⟩ (.int .i64 2)).setCell ⟨w.heap.size,1,none⟩ (.int .i64 1)).setCell ⟨w.heap.size,2,none⟩ (.string ⟨#[]⟩))):=ak (by
   rw[uh Dc];refine⟨by rw[uh HE];first|done|rfl,?_⟩
   exact(((uh HB).setCell (p:=⟨w.heap.size,0,none⟩) (gu _) (.int .i64 2)).setCell (p:=⟨w.heap.size,1,none⟩) (gu _) (.int .i64 1)).setCell (p:=⟨w.heap.size,2,none⟩) (gu _) (.string ⟨#[]⟩))
  have Oi:=ak (And.intro (hbx.cell (i:=0) (v:=.int .i64 2) rfl) (And.intro (hbx.cell (i:=1) (v:=.int .i64 1) rfl) (hbx.cell (i:=2) (v:=.string ⟨#[]⟩) rfl)));have c0:=(uh D5).cell (i:=0) (v:=.int .i64 0) rfl;have c1:=(uh D5).cell (i:=1) (v:=.int .i64 0) rfl;have c2:=(uh D5).cell (i:=2) (v:=.string ⟨#[]⟩) rfl;have g0:=(uh D5).free 0;have g1:=(uh D5).free 1;have g2:=(uh D5).free 2;have Ux:w.heap.size<X.heap.size:=(uh D5).lt;clear hbx;go_wp2;obtain⟨f0,f1,f2⟩:=uh Oi;exact bodyPost_ret (v:=.agg #[.int .i64 2,.int .i64 1,.string ⟨#[]⟩]) (by simp[results,Tryz.results92,go_sem,f0,f1,f2]) rfl (uh qx)
 rw[iy ht] at e_t
 by_cases hf:p=Jw
 ·rw[jf hf] at e_f
  have HE:Hid (Hf p=⟨2,0,E0⟩):=ak (by unfold Hf;rw[bf h46,bf h64,bf ht,gy hf]);clear U5 Rx h46 h64 hts ht hf;have hbx:=(((uh D5).set 0 (.int .i64 2)).set 1 (.int .i64 0)).set 2 (.string ⟨#[]⟩)
  have qx:Hid (PO (.returned (.agg #[.int .i64 2,.int .i64 0,.string ⟨#[]⟩])) (((X.setCell ⟨w.heap.size,0,none⟩ (.int .i64 2)).setCell ⟨w.heap.size,1,none⟩ (.int .i64 0)).setCell ⟨w.heap.size,2,none⟩ (.string ⟨#[]⟩))):=ak (by
   rw[uh Dc];refine⟨by rw[uh HE];first|done|rfl,?_⟩
   exact(((uh HB).setCell (p:=⟨w.heap.size,0,none⟩) (gu _) (.int .i64 2)).setCell (p:=⟨w.heap.size,1,none⟩) (gu _) (.int .i64 0)).setCell (p:=⟨w.heap.size,2,none⟩) (gu _) (.string ⟨#[]⟩))
  have Oi:=ak (And.intro (hbx.cell (i:=0) (v:=.int .i64 2) rfl) (And.intro (hbx.cell (i:=1) (v:=.int .i64 0) rfl) (hbx.cell (i:=2) (v:=.string ⟨#[]⟩) rfl)));have c0:=(uh D5).cell (i:=0) (v:=.int .i64 0) rfl;have c1:=(uh D5).cell (i:=1) (v:=.int .i64 0) rfl;have c2:=(uh D5).cell (i:=2) (v:=.string ⟨#[]⟩) rfl;have g0:=(uh D5).free 0;have g1:=(uh D5).free 1;have g2:=(uh D5).free 2;have Ux:w.heap.size<X.heap.size:=(uh D5).lt;clear hbx;go_wp2;obtain⟨f0,f1,f2⟩:=uh Oi;exact bodyPost_ret (v:=.agg #[.int .i64 2,.int .i64 0,.string ⟨#[]⟩]) (by simp[results,Tryz.results92,go_sem,f0,f1,f2]) rfl (uh qx)
 rw[iy hf] at e_f;have HEI:Hid (Hf p=if ab6 p=true then ⟨1,Om p,E0⟩ else ⟨Vz p,0,E0⟩):=ak (by unfold Hf;rw[bf h46,bf h64,bf ht,bf hf]);have HNU:=ak (Xr p X (uh HEX) hp);have HOP:=ak (a6e p X (uh HEX).env.ops);clear U5 Rx h46 h64 hts ht hf
 by_cases h0:p=ByteArray.empty
 ·have e0:(p.toList==[])=true:=by rw[afe];exact jf h0
  have e1:(p.toList != [])=false:=by simp only[bne,e0];rfl
  have HE:Hid (Hf p=⟨Vz p,0,E0⟩):=ak (by rw[uh HEI,bf (by rw[h0];decide)]);clear h0 HEI;generalize Vz p=ov at *;go_wp2_with fail;refine(uh HOP).mono ?_;rintro e w1 ⟨rfl,hb1⟩;have hk1:=(uh D5).below hb1 (uh D5).lt;have hB1:Below w.heap.size w w1:=(uh HB).trans (hb1.mono (uh HB).size);have hbx:=((hk1.set 0 (.int .i64 ov)).set 1 (.int .i64 0)).set 2 (.string ⟨#[]⟩)
  have qx:Hid (PO (.returned (.agg #[.int .i64 ov,.int .i64 0,.string ⟨#[]⟩])) (((w1.setCell ⟨w.heap.size,0,none⟩ (.int .i64 ov)).setCell ⟨w.heap.size,1,none⟩ (.int .i64 0)).setCell ⟨w.heap.size,2,none⟩ (.string ⟨#[]⟩))):=ak (by
   rw[uh Dc];refine⟨by rw[uh HE];first|done|rfl,?_⟩
   exact((hB1.setCell (p:=⟨w.heap.size,0,none⟩) (gu _) (.int .i64 ov)).setCell (p:=⟨w.heap.size,1,none⟩) (gu _) (.int .i64 0)).setCell (p:=⟨w.heap.size,2,none⟩) (gu _) (.string ⟨#[]⟩))
  have Oi:=ak (And.intro (hbx.cell (i:=0) (v:=.int .i64 ov) rfl) (And.intro (hbx.cell (i:=1) (v:=.int .i64 0) rfl) (hbx.cell (i:=2) (v:=.string ⟨#[]⟩) rfl)));have c0:=hk1.cell (i:=0) (v:=.int .i64 0) rfl;have c1:=hk1.cell (i:=1) (v:=.int .i64 0) rfl;have c2:=hk1.cell (i:=2) (v:=.string ⟨#[]⟩) rfl;have g0:=hk1.free 0;have g1:=hk1.free 1;have g2:=hk1.free 2;have Ux:w.heap.size<w1.heap.size:=hk1.lt;clear hbx;clear hb1 hk1 hB1;go_wp2;obtain⟨f0,f1,f2⟩:=uh Oi;exact bodyPost_ret (v:=.agg #[.int .i64 ov,.int .i64 0,.string ⟨#[]⟩]) (by simp[results,Tryz.results92,go_sem,f0,f1,f2]) rfl (uh qx)
 have e0:(p.toList==[])=false:=by rw[afe];exact iy h0
 have e1:(p.toList != [])=true:=by simp only[bne,e0];rfl
 obtain⟨hps,b,l,hbl,hby⟩:=bcb p h0
 have hdg:ab6 p=Ko (uf p 0):=by
  rw[agk p b l hbl,hby];unfold Vx Ko;simp only[decide_eq_decide];omega
 have hbe:uf p 0=((p[0]'hps).toNat:Int):=by unfold uf;rw[dif_pos hps]
 have HDG:Hid (Calls Tryz.prog 119 #[.int .u8 ((p[0]'hps).toNat:Int)] X (fun e w'=>e=.returned (.bool (ab6 p))/\w'=X)):=ak (by rw[hdg,←hbe];exact aed (uf p 0) X (by rw[hby];omega) (by rw[hby];have:=b.toNat_lt;omega));clear hdg hbe hby hbl h0
 by_cases hd:ab6 p=true
 ·have HE:Hid (Hf p=⟨1,Om p,E0⟩):=ak (by rw[uh HEI,gy hd])
  rw[hd] at HDG;clear hd HEI HOP;generalize Om p=nv at *;go_wp2_with fail;refine(uh HDG).mono ?_;rintro e w7 ⟨rfl,hw7⟩;obtain rfl:=hw7.symm;go_wp2_with fail;refine(uh HNU).mono ?_;rintro e w1 ⟨rfl,hb1⟩;have hk1:=(uh D5).below hb1 (uh D5).lt;have hB1:Below w.heap.size w w1:=(uh HB).trans (hb1.mono (uh HB).size);have hbx:=((hk1.set 0 (.int .i64 1)).set 1 (.int .i64 nv)).set 2 (.string ⟨#[]⟩)
  have qx:Hid (PO (.returned (.agg #[.int .i64 1,.int .i64 nv,.string ⟨#[]⟩])) (((w1.setCell ⟨w.heap.size,0,none⟩ (.int .i64 1)).setCell ⟨w.heap.size,1,none⟩ (.int .i64 nv)).setCell ⟨w.heap.size,2,none⟩ (.string ⟨#[]⟩))):=ak (by
   rw[uh Dc];refine⟨by rw[uh HE];first|done|rfl,?_⟩
   exact((hB1.setCell (p:=⟨w.heap.size,0,none⟩) (gu _) (.int .i64 1)).setCell (p:=⟨w.heap.size,1,none⟩) (gu _) (.int .i64 nv)).setCell (p:=⟨w.heap.size,2,none⟩) (gu _) (.string ⟨#[]⟩))
  have Oi:=ak (And.intro (hbx.cell (i:=0) (v:=.int .i64 1) rfl) (And.intro (hbx.cell (i:=1) (v:=.int .i64 nv) rfl) (hbx.cell (i:=2) (v:=.string ⟨#[]⟩) rfl)));have c0:=hk1.cell (i:=0) (v:=.int .i64 0) rfl;have c1:=hk1.cell (i:=1) (v:=.int .i64 0) rfl;have c2:=hk1.cell (i:=2) (v:=.string ⟨#[]⟩) rfl;have g0:=hk1.free 0;have g1:=hk1.free 1;have g2:=hk1.free 2;have Ux:w.heap.size<w1.heap.size:=hk1.lt;clear hbx;clear hb1 hk1 hB1;go_wp2;obtain⟨f0,f1,f2⟩:=uh Oi;exact bodyPost_ret (v:=.agg #[.int .i64 1,.int .i64 nv,.string ⟨#[]⟩]) (by simp[results,Tryz.results92,go_sem,f0,f1,f2]) rfl (uh qx)
 ·have HE:Hid (Hf p=⟨Vz p,0,E0⟩):=ak (by rw[uh HEI,bf hd])
  rw[Bool.eq_false_iff.2 hd] at HDG;clear hd HEI HNU;generalize Vz p=ov at *;go_wp2_with fail;refine(uh HDG).mono ?_;rintro e w7 ⟨rfl,hw7⟩;obtain rfl:=hw7.symm;go_wp2_with fail;refine(uh HOP).mono ?_;rintro e w1 ⟨rfl,hb1⟩;have hk1:=(uh D5).below hb1 (uh D5).lt;have hB1:Below w.heap.size w w1:=(uh HB).trans (hb1.mono (uh HB).size);have hbx:=((hk1.set 0 (.int .i64 ov)).set 1 (.int .i64 0)).set 2 (.string ⟨#[]⟩)
  have qx:Hid (PO (.returned (.agg #[.int .i64 ov,.int .i64 0,.string ⟨#[]⟩])) (((w1.setCell ⟨w.heap.size,0,none⟩ (.int .i64 ov)).setCell ⟨w.heap.size,1,none⟩ (.int .i64 0)).setCell ⟨w.heap.size,2,none⟩ (.string ⟨#[]⟩))):=ak (by
   rw[uh Dc];refine⟨by rw[uh HE];first|done|rfl,?_⟩
   exact((hB1.setCell (p:=⟨w.heap.size,0,none⟩) (gu _) (.int .i64 ov)).setCell (p:=⟨w.heap.size,1,none⟩) (gu _) (.int .i64 0)).setCell (p:=⟨w.heap.size,2,none⟩) (gu _) (.string ⟨#[]⟩))
  have Oi:=ak (And.intro (hbx.cell (i:=0) (v:=.int .i64 ov) rfl) (And.intro (hbx.cell (i:=1) (v:=.int .i64 0) rfl) (hbx.cell (i:=2) (v:=.string ⟨#[]⟩) rfl)));have c0:=hk1.cell (i:=0) (v:=.int .i64 0) rfl;have c1:=hk1.cell (i:=1) (v:=.int .i64 0) rfl;have c2:=hk1.cell (i:=2) (v:=.string ⟨#[]⟩) rfl;have g0:=hk1.free 0;have g1:=hk1.free 1;have g2:=hk1.free 2;have Ux:w.heap.size<w1.heap.size:=hk1.lt;clear hbx;clear hb1 hk1 hB1;go_wp2;obtain⟨f0,f1,f2⟩:=uh Oi;exact bodyPost_ret (v:=.agg #[.int .i64 ov,.int .i64 0,.string ⟨#[]⟩]) (by simp[results,Tryz.results92,go_sem,f0,f1,f2]) rfl (uh qx)
end Go.Proofs.YtfeejeflmcapoaaGreatDoor
