import Derived.Test.YtfeejeflmcapoaaGreatDoorPM0
import Derived.Test.YtfeejeflmcapoaaGreatDoorData
import Derived.Deep.RegionWith
import Derived.RegionTactic
import Derived.Test.YtfeejeflmcapoaaGreatDoorRG1
import Derived.Deep.RegionHeld3
import Derived.Maps.OwnSet
set_option linter.unusedSimpArgs false
set_option linter.unusedVariables false
set_option maxHeartbeats 4000000
namespace Go.Proofs.YtfeejeflmcapoaaGreatDoor
open Go.RowKit
theorem Bv {a b:dh} (h:a=b):Ending.returned (.string a)=.returned (.string b):=by rw[h]
theorem axb (v:Int) (w:bf) :
  Calls Tryz.prog 106 #[.int .i64 v] w fun e w'=>e=.returned (.string (flT v))∧w'=w:=by
 go_enter Tryz.func106,Tryz.ntmps106;go_wp2
 all_goals
  go_ret;refine⟨Bv ?_,rfl⟩
  simp_all [flT,N9,J5]
theorem axc:∀k:Nat,k<10->(ByteArray.mk #[48,49,50,51,52,53,54,55,56,57]).extract k (k+1)=⟨#[UInt8.ofNat (48+k)]⟩:=by decide
theorem a08 (n:Nat) (h:n<10):qm n=⟨#[UInt8.ofNat (48+n)]⟩:=by
 unfold qm Lib.itoa;rw[ay (by omega),En,Lib.decDigits,dif_pos h]
theorem a98 (n:Nat) (h:¬n<10):qm n=qm (n / 10:Nat)++⟨#[UInt8.ofNat (48+n % 10)]⟩:=by
 unfold qm Lib.itoa;rw[ay (by omega),ay (by omega),En,En,Lib.decDigits,dif_neg h];apply ByteArray.ext;simp[ByteArray.data_append]
theorem a99 (n:Int) (h:n<0):qm n=⟨#[45]⟩++qm (-n):=by
 unfold qm Lib.itoa;rw[gu h,ay (by omega)];have:n.natAbs=(-n).toNat:=by omega
 rw[this];apply ByteArray.ext;simp[ByteArray.data_append]
theorem ao7 (n:Nat):n<=2147483648->∀(w:bf),
  Calls Tryz.prog 25 #[.int .i64 (n:Int)] w (Ans (.string (qm n)) w):=by
 induction n using Nat.strongRecOn with
 | _ n ih =>
  intro hn w
  by_cases h:n<10
  ·have HD:=hide (a08 n h)
   have HE:=hide (axc n h);clear ih;generalize qm n=dn at *;go_enter Tryz.func25,Tryz.ntmps25;go_wp2;go_ret;exact⟨Bv (by rw[uh HD];exact uh HE),gy _ _⟩
  ·obtain⟨q,hq⟩:∃q,q=n / 10:=⟨_,rfl⟩
   obtain⟨r,hr⟩:∃r,r=n % 10:=⟨_,rfl⟩;have IH:=hide (ih q (by omega) (by omega));have hsz:(qm (q:Nat)).size<=11:=Qo _ (by unfold Oh;omega);have HD:=a98 n h;rw[←hq,←hr] at HD;have HD:=hide HD;have HE:=hide (axc r (by omega));clear ih;have hdv:IntKind.i64.wrap ((n:Int) / 10)=(q:Int):=by rw[Rf];omega
   have hmd:(n:Int).tmod 10=(r:Int):=by rw[Int.tmod_eq_emod_of_nonneg (by omega)];omega
   have bft:r<10:=by omega
   have hx0:IntKind.i64.wrap ((r:Int)+1)=(r:Int)+1:=by rw[Rf];omega
   have hx1:(0:Int)<=(r:Int):=by omega
   have hx2:(r:Int)<=(r:Int)+1:=by omega
   have hx3:(r:Int)+1<=10:=by omega
   have hx4:r+1<=10:=by omega
   clear hq hr;generalize qm n=dn at *;generalize qm (q:Nat)=dq at *;go_enter Tryz.func25,Tryz.ntmps25;go_wp2_with fail
   go_region_with (first|(go_at_call 25;refine(uh IH _).mono ?_;rintro e w' ⟨rfl,hb⟩))
   all_goals
    go_wp2;go_ret;exact⟨Bv (by rw[uh HD];exact mg _ (uh HE)),(gy _ w).drew.trans hb⟩
theorem ab5 (n:Int) (h : -2147483648<=n∧n<=2147483648) (w:bf) :
  Calls Tryz.prog 25 #[.int .i64 n] w (Ans (.string (qm n)) w):=by
 by_cases h0:0<=n
 ·obtain⟨k,rfl⟩:=H8 h0
  exact ao7 k (by omega) w
 ·have hneg:n<0:=by omega
  obtain⟨k,hk⟩:=H8 (show 0 <= -n from by omega);have HC:=hide (ao7 k (by omega));have HD:=a99 n hneg;rw[hk] at HD;have HD:=hide HD;have hq:(qm (k:Nat)).size<=11:=Qo _ (by unfold Oh;omega);generalize qm n=dn at *;generalize qm (k:Nat)=dq at *;go_enter Tryz.func25,Tryz.ntmps25;go_wp2_with fail;refine(uh HC _).mono ?_;rintro e w' ⟨rfl,hb⟩;go_wp2;go_ret;exact⟨Bv (uh HD).symm,hb⟩
theorem a09 (sep:dh) (xs:List dh) (hs:sep.size<=10) (hx:∀x,x∈xs->x.size<=100000000) (hl:xs.length<=10000) (k:Nat):(Fq sep (xs.take k)).size<=2000000000000:=by
 have h:=ahw sep (xs.take k) 100000000 (fun x hx'=>hx x (List.mem_of_mem_take hx'));have h2:(xs.take k).length<=10000:=by rw[Nq];omega
 have h3:sep.size*(xs.take k).length<=10*10000:=Nat.mul_le_mul hs h2;omega
theorem agj (sep:dh) (xs:List dh) (v:Value) (w:bf) (hv:iy 1 16 wz 0 w v xs) (hs:sep.size<=10) (hxs:∀x,x∈xs->x.size<=100000000) (hl:xs.length<=10000) :
  Calls Tryz.prog 56 #[v,.string sep] w fun e w'=>e=.returned (.string (Fq sep xs))∧w'=w:=by
 have HJ:=hide (a09 sep xs hs hxs hl);have HXS:=hide hxs;clear hxs;obtain⟨a,cap,rfl,_,hn,hx⟩:=hv;unfold Len at hn;have HX:=hide hx;clear hx;go_enter Tryz.func56,Tryz.ntmps56;go_wp2
 go_loopg [5,6,7,10] xs.length (fun g out x1 x2 i wr=>∃(k:Nat),k<=xs.length∧g=xs.length-k∧i=.int .i64 k∧out=.string (Fq sep (xs.take k))∧wr=w)
 case atStart=>exact⟨0,jg _,by omega,rfl,by rw[Np,ag0];rfl,rfl⟩
 case round =>
  obtain⟨k,hk,hg,rfl,rfl,rfl⟩:=hrel;have HG:=hide hg;clear hg;have hz:=uh HJ k
  by_cases hlt:k<xs.length
  ·obtain⟨b,o,cs,rfl,_,hb,hcs,hc,hR⟩:=uh HX k hlt
   obtain⟨rfl,hsn⟩:=hR;have c0:=hc 0 (by simp);simp only[jr,jh,ny,o8] at c0;have hz2:=uh HXS xs[k] (pz hlt);clear hc hcs hsn
   by_cases hk0:k=0
   ·have HT:Hid (Fq sep (xs.take (k+1))=Fq sep (xs.take k)++xs[k]):=by
     show Fq sep (xs.take (k+1))=Fq sep (xs.take k)++xs[k];subst hk0;rw[Fb hlt,Np,Gu,O1,ag0,ado]
    subst hk0;simp only[jh] at c0;generalize Fq sep (xs.take 0)=tx at *;generalize xs[0]=x at *;go_wp2
    go_roundg (xs.length-1)
    case measure=>have:=uh HG;omega
    case rel=>exact⟨1,by omega,rfl,by go_num,by rw[uh HT],rfl⟩
   ·have HT:=hide (ahx sep xs k hlt (by omega))
    generalize Fq sep (xs.take k)=tx at *;generalize xs[k]=x at *;go_wp2
    go_roundg (xs.length-(k+1))
    case measure=>have:=uh HG;omega
    case rel=>exact⟨k+1,by omega,rfl,by go_num,by rw[uh HT],rfl⟩
  ·have e:k=xs.length:=by omega
   have HT:Hid (Fq sep xs=Fq sep (xs.take k)):=by
    show Fq sep xs=Fq sep (xs.take k);rw[e,Eb]
   generalize Fq sep (xs.take k)=tx at *;go_wp2;go_ret;exact⟨Bv (uh HT).symm,rfl⟩
theorem Xv {α:Type} {R:Nat->bf->List Value->α->Prop} (f:α->Value) (qy:Nat) (xs:List α) (w:bf) (g cap:Nat) (hg:g<w.heap.size) (hc:∀(i:Nat) (h:i<xs.length),w.cell? ⟨g,i,none⟩=some (f xs[i]))
  (hR:∀x,x∈xs->R 0 w [f x] x) (hl:xs.length<=1000) (hb:qy<=100) (hcap:xs.length<=cap):iy 1 qy R 0 w (.slice (some ⟨g,0,none⟩) xs.length cap) xs:=by
 refine⟨_,cap,rfl,⟨?_,hcap⟩,by unfold Len;omega,fun i hi=>⟨g,0,[f xs[i]],rfl,jg _,hg,rfl,fun j hj=>?_,hR _ (pz hi)⟩⟩
 ·unfold Len
  have:xs.length*qy<=1000*100:=Nat.mul_le_mul hl hb;omega
 ·have hj0:j=0:=by simpa using hj
  subst hj0;simp only[Bh,jr,jh,ny];exact hc i hi
def Qp:Nat->List dh
 | 1=>[⟨#[111,114]⟩,⟨#[120,111,114]⟩]
 | 2=>[⟨#[97,110,100]⟩]
 | 3=>[⟨#[61]⟩,⟨#[60,62]⟩,⟨#[60]⟩,⟨#[60,61]⟩,⟨#[62]⟩,⟨#[62,61]⟩]
 | 4=>[⟨#[43]⟩,⟨#[45]⟩]
 | 5=>[⟨#[42]⟩,⟨#[47]⟩,⟨#[109,111,100]⟩]
 | _=>[]
def Iu:Nat->List Int
 | 1=>[18,19]
 | 2=>[17]
 | 3=>[11,12,13,14,15,16]
 | 4=>[6,7]
 | 5=>[8,9,10]
 | _=>[]
theorem a5j (w:bf):Calls Tryz.prog 134 #[.int .i64 1] w fun e w'=>∃a b,e=.returned (.tuple #[a,b])∧iy 1 16 wz 0 w' a (Qp 1)∧iy 1 8 J4 0 w' b (Iu 1)∧Below w.heap.size w w':=by
 go_enter Tryz.func134,Tryz.ntmps134;go_wp2
 go_ret2
 have hs:∀x,x∈Qp 1->x.size<=3:=by decide
 have ho:∀x,x∈Iu 1->0<=x∧x<=100:=by decide
 refine⟨_,_,rfl,Xv Value.string 16 (Qp 1) _ w.heap.size _ ?_ ?_ ?_ (by decide) (by decide) (by decide),Xv (Value.int .i64) 8 (Iu 1) _ (w.heap.size+1) _ ?_ ?_ ?_ (by decide) (by decide) (by decide),((gy _ _).alloc (gq _) _).alloc (by simp) _⟩
 ·simp;omega
 ·intro i hi
  rw[World.cell?_alloc_old _ _ _ (by simp),zy _ _ _ _ rfl]
  have hc:∀(i:Nat) (hi:i<(Qp 1).length),((Qp 1).map Value.string).toArray[i]?=some (.string (Qp 1)[i]):=by
   intro i hi;simp[hi]
  exact hc i hi
 ·exact fun x hx=>⟨rfl,by have:=hs x hx;unfold Len;omega⟩
 ·simp
 ·intro i hi
  rw[zy _ _ _ _ (by simp)]
  have hc:∀(i:Nat) (hi:i<(Iu 1).length),((Iu 1).map (Value.int .i64)).toArray[i]?=some (.int .i64 (Iu 1)[i]):=by
   intro i hi;simp[hi]
  exact hc i hi
 ·exact fun x hx=>⟨rfl,by have:=ho x hx;unfold I64;omega⟩
theorem a5k (w:bf):Calls Tryz.prog 134 #[.int .i64 2] w fun e w'=>∃a b,e=.returned (.tuple #[a,b])∧iy 1 16 wz 0 w' a (Qp 2)∧iy 1 8 J4 0 w' b (Iu 2)∧Below w.heap.size w w':=by
 go_enter Tryz.func134,Tryz.ntmps134;go_wp2
 go_ret2
 have hs:∀x,x∈Qp 2->x.size<=3:=by decide
 have ho:∀x,x∈Iu 2->0<=x∧x<=100:=by decide
 refine⟨_,_,rfl,Xv Value.string 16 (Qp 2) _ w.heap.size _ ?_ ?_ ?_ (by decide) (by decide) (by decide),Xv (Value.int .i64) 8 (Iu 2) _ (w.heap.size+1) _ ?_ ?_ ?_ (by decide) (by decide) (by decide),((gy _ _).alloc (gq _) _).alloc (by simp) _⟩
 ·simp;omega
 ·intro i hi
  rw[World.cell?_alloc_old _ _ _ (by simp),zy _ _ _ _ rfl]
  have hc:∀(i:Nat) (hi:i<(Qp 2).length),((Qp 2).map Value.string).toArray[i]?=some (.string (Qp 2)[i]):=by
   intro i hi;simp[hi]
  exact hc i hi
 ·exact fun x hx=>⟨rfl,by have:=hs x hx;unfold Len;omega⟩
 ·simp
 ·intro i hi
  rw[zy _ _ _ _ (by simp)]
  have hc:∀(i:Nat) (hi:i<(Iu 2).length),((Iu 2).map (Value.int .i64)).toArray[i]?=some (.int .i64 (Iu 2)[i]):=by
   intro i hi;simp[hi]
  exact hc i hi
 ·exact fun x hx=>⟨rfl,by have:=ho x hx;unfold I64;omega⟩
theorem a5l (w:bf):Calls Tryz.prog 134 #[.int .i64 3] w fun e w'=>∃a b,e=.returned (.tuple #[a,b])∧iy 1 16 wz 0 w' a (Qp 3)∧iy 1 8 J4 0 w' b (Iu 3)∧Below w.heap.size w w':=by
 go_enter Tryz.func134,Tryz.ntmps134;go_wp2
 go_ret2
 have hs:∀x,x∈Qp 3->x.size<=3:=by decide
 have ho:∀x,x∈Iu 3->0<=x∧x<=100:=by decide
 refine⟨_,_,rfl,Xv Value.string 16 (Qp 3) _ w.heap.size _ ?_ ?_ ?_ (by decide) (by decide) (by decide),Xv (Value.int .i64) 8 (Iu 3) _ (w.heap.size+1) _ ?_ ?_ ?_ (by decide) (by decide) (by decide),((gy _ _).alloc (gq _) _).alloc (by simp) _⟩
 ·simp;omega
 ·intro i hi
  rw[World.cell?_alloc_old _ _ _ (by simp),zy _ _ _ _ rfl]
  have hc:∀(i:Nat) (hi:i<(Qp 3).length),((Qp 3).map Value.string).toArray[i]?=some (.string (Qp 3)[i]):=by
   intro i hi;simp[hi]
  exact hc i hi
 ·exact fun x hx=>⟨rfl,by have:=hs x hx;unfold Len;omega⟩
 ·simp
 ·intro i hi
  rw[zy _ _ _ _ (by simp)]
  have hc:∀(i:Nat) (hi:i<(Iu 3).length),((Iu 3).map (Value.int .i64)).toArray[i]?=some (.int .i64 (Iu 3)[i]):=by
   intro i hi;simp[hi]
  exact hc i hi
 ·exact fun x hx=>⟨rfl,by have:=ho x hx;unfold I64;omega⟩
theorem a5m (w:bf):Calls Tryz.prog 134 #[.int .i64 4] w fun e w'=>∃a b,e=.returned (.tuple #[a,b])∧iy 1 16 wz 0 w' a (Qp 4)∧iy 1 8 J4 0 w' b (Iu 4)∧Below w.heap.size w w':=by
 go_enter Tryz.func134,Tryz.ntmps134;go_wp2
 go_ret2
 have hs:∀x,x∈Qp 4->x.size<=3:=by decide
 have ho:∀x,x∈Iu 4->0<=x∧x<=100:=by decide
 refine⟨_,_,rfl,Xv Value.string 16 (Qp 4) _ w.heap.size _ ?_ ?_ ?_ (by decide) (by decide) (by decide),Xv (Value.int .i64) 8 (Iu 4) _ (w.heap.size+1) _ ?_ ?_ ?_ (by decide) (by decide) (by decide),((gy _ _).alloc (gq _) _).alloc (by simp) _⟩
 ·simp;omega
 ·intro i hi
  rw[World.cell?_alloc_old _ _ _ (by simp),zy _ _ _ _ rfl]
  have hc:∀(i:Nat) (hi:i<(Qp 4).length),((Qp 4).map Value.string).toArray[i]?=some (.string (Qp 4)[i]):=by
   intro i hi;simp[hi]
  exact hc i hi
 ·exact fun x hx=>⟨rfl,by have:=hs x hx;unfold Len;omega⟩
 ·simp
 ·intro i hi
  rw[zy _ _ _ _ (by simp)]
  have hc:∀(i:Nat) (hi:i<(Iu 4).length),((Iu 4).map (Value.int .i64)).toArray[i]?=some (.int .i64 (Iu 4)[i]):=by
   intro i hi;simp[hi]
  exact hc i hi
 ·exact fun x hx=>⟨rfl,by have:=ho x hx;unfold I64;omega⟩
theorem a5n (w:bf):Calls Tryz.prog 134 #[.int .i64 5] w fun e w'=>∃a b,e=.returned (.tuple #[a,b])∧iy 1 16 wz 0 w' a (Qp 5)∧iy 1 8 J4 0 w' b (Iu 5)∧Below w.heap.size w w':=by
 go_enter Tryz.func134,Tryz.ntmps134;go_wp2
 go_ret2
 have hs:∀x,x∈Qp 5->x.size<=3:=by decide
 have ho:∀x,x∈Iu 5->0<=x∧x<=100:=by decide
 refine⟨_,_,rfl,Xv Value.string 16 (Qp 5) _ w.heap.size _ ?_ ?_ ?_ (by decide) (by decide) (by decide),Xv (Value.int .i64) 8 (Iu 5) _ (w.heap.size+1) _ ?_ ?_ ?_ (by decide) (by decide) (by decide),((gy _ _).alloc (gq _) _).alloc (by simp) _⟩
 ·simp;omega
 ·intro i hi
  rw[World.cell?_alloc_old _ _ _ (by simp),zy _ _ _ _ rfl]
  have hc:∀(i:Nat) (hi:i<(Qp 5).length),((Qp 5).map Value.string).toArray[i]?=some (.string (Qp 5)[i]):=by
   intro i hi;simp[hi]
  exact hc i hi
 ·exact fun x hx=>⟨rfl,by have:=hs x hx;unfold Len;omega⟩
 ·simp
 ·intro i hi
  rw[zy _ _ _ _ (by simp)]
  have hc:∀(i:Nat) (hi:i<(Iu 5).length),((Iu 5).map (Value.int .i64)).toArray[i]?=some (.int .i64 (Iu 5)[i]):=by
   intro i hi;simp[hi]
  exact hc i hi
 ·exact fun x hx=>⟨rfl,by have:=ho x hx;unfold I64;omega⟩
theorem ad6:∀k:Nat,1<=k->k<=5->Qp k=(Iu k).map sgT
 | 0,h,_=>by omega
 | 1,_,_=>by decide
 | 2,_,_=>by decide
 | 3,_,_=>by decide
 | 4,_,_=>by decide
 | 5,_,_=>by decide
 | _+6,_,h=>by omega
theorem a5o:∀k:Nat,(Iu k).length<=6
 | 0=>by decide
 | 1=>by decide
 | 2=>by decide
 | 3=>by decide
 | 4=>by decide
 | 5=>by decide
 | _+6=>by simp[Iu]
theorem a1a (w:bf):∀k:Nat,1<=k->k<=5->Calls Tryz.prog 134 #[.int .i64 (k:Int)] w fun e w'=>∃a b,e=.returned (.tuple #[a,b])∧iy 1 16 wz 0 w' a ((Iu k).map sgT)∧iy 1 8 J4 0 w' b (Iu k)∧Below w.heap.size w w'
 | 0,h,_=>by omega
 | 1,h1,h2=>by rw[←ad6 1 h1 h2];exact a5j w
 | 2,h1,h2=>by rw[←ad6 2 h1 h2];exact a5k w
 | 3,h1,h2=>by rw[←ad6 3 h1 h2];exact a5l w
 | 4,h1,h2=>by rw[←ad6 4 h1 h2];exact a5m w
 | 5,h1,h2=>by rw[←ad6 5 h1 h2];exact a5n w
 | _+6,_,h=>by omega
theorem a5p (op:Int) (h:∀j,1<=j->j<6->op∉Iu j):sgT op=⟨#[]⟩:=by
 have h1:=h 1 (by omega) (by omega);have h2:=h 2 (by omega) (by omega);have h3:=h 3 (by omega) (by omega);have h4:=h 4 (by omega) (by omega);have h5:=h 5 (by omega) (by omega);simp only[Iu,ql,xg,xk,not_or] at h1 h2 h3 h4 h5;unfold sgT;simp[h1,h2,h3,h4,h5]
theorem axd (op:Int) (w:bf):Calls Tryz.prog 107 #[.int .i64 op] w (Ans (.string (sgT op)) w):=by
 go_enter Tryz.func107,Tryz.ntmps107;go_wp2
 go_loopg [3] 5 (fun gh kk wr=>∃(k:Nat),1<=k∧k<=6∧gh=6-k∧kk=.int .i64 k∧Below w.heap.size w wr∧∀j,1<=j->j<k->op∉Iu j)
 case atStart=>exact⟨1,by omega,by omega,by omega,rfl,gy _ _,fun j h1 h2=>by omega⟩
 case round =>
  obtain⟨k,hk1,hk,hg,rfl,hbl,hno⟩:=hrel;rename bf=>wN;have HG:=hide hg;have Cc:=hide hno;clear hg hno
  by_cases hlt:k<=5
  ·have HC:=hide (a1a wN k hk1 hlt)
   have hlen:=a5o k;go_wp2_with fail;refine(uh HC).mono ?_;rintro e w1 ⟨va,vb,rfl,hva,hvb,hb1⟩;obtain⟨a1,cp1,rfl,_,_,hx1⟩:=hva;obtain⟨a2,cp2,rfl,_,_,hx2⟩:=hvb;have Ak:=hide hx1;have Gl:=hide hx2;have HB1:Hid (Below w.heap.size w w1):=hbl.trans (hb1.mono hbl.size);clear hx1 hx2 hb1;rw[Ad];go_wp2
   go_loopg [6,18] (Iu k).length (fun gh x1 i wr=>∃(m:Nat),m<=(Iu k).length∧gh=(Iu k).length-m∧i=.int .i64 m∧wr=w1∧∀j (h:j<(Iu k).length),j<m->(Iu k)[j]≠op)
   case atStart=>exact⟨0,jg _,by omega,rfl,rfl,fun j _ h=>absurd h (yt _)⟩
   case round =>
    obtain⟨m,hm,hg,rfl,rfl,hne⟩:=hrel;have HG2:=hide hg;have HNE:=hide hne;clear hg hne
    by_cases hml:m<(Iu k).length
    ·obtain⟨b2,o2,cs2,rfl,_,hb2,hcs2,hc2,hR2⟩:=uh Gl m hml
     obtain⟨rfl,hi2⟩:=hR2;have c0:=hc2 0 (by simp);simp only[jr,jh,ny,o8] at c0;obtain⟨b1,o1,cs1,rfl,_,hb1,hcs1,hc1,hR1⟩:=uh Ak m (by rw[Ad];exact hml);obtain⟨rfl,hi1⟩:=hR1;have d0:=hc1 0 (by simp);simp only[jr,jh,ny,o8,List.getElem_map] at d0;clear hc1 hc2 hcs1 hcs2
     by_cases heq:(Iu k)[m]=op
     ·rw[heq] at c0 d0
      go_wp2;go_ret;exact⟨rfl,uh HB1⟩
     ·have HA':Hid (∀j (h:j<(Iu k).length),j<m+1->(Iu k)[j]≠op):=by
       intro j h h1
       by_cases e:j=m
       ·subst e;exact heq
       ·exact uh HNE j h (by omega)
      go_wp2
      go_roundg ((Iu k).length-(m+1))
      case measure=>have:=uh HG2;omega
      case rel=>exact⟨m+1,by omega,rfl,by go_num,rfl,uh HA'⟩
    ·have Zr:Hid (∀j,1<=j->j<k+1->op∉Iu j):=by
      intro j h1 h2
      by_cases e:j=k
      ·subst e
       intro hmem;obtain⟨i,hi,hh⟩:=List.getElem_of_mem hmem;exact uh HNE i hi (by omega) hh
      ·exact uh Cc j h1 (by omega)
     go_wp2
     go_roundg (6-(k+1))
     case measure=>have:=uh HG;omega
     case rel=>exact⟨k+1,by omega,by omega,rfl,by go_num,uh HB1,uh Zr⟩
  ·have HS:=hide (a5p op (fun j h1 h2=>uh Cc j h1 (by omega)))
   go_wp2;go_ret;exact⟨Bv (uh HS).symm,hbl⟩
theorem amd (t:ku) (w:bf) (h:ac4 t) (hn:t.name.size<=1048576) :
  Calls Tryz.prog 79 #[.agg #[.int .i64 t.op,.int .i64 t.val,.string t.name]] w (Ans (.string (partT t)) w):=by
 have hA:Below w.heap.size w (w.alloc (.cells #[.int .i64 t.op,.int .i64 t.val,.string t.name] 83)):=(gy _ _).alloc (gq _) _;have hnum:=h.num;have HA:=hide hA;clear h hA;obtain⟨op,val,name⟩:=t;simp only at *;unfold Oh at hnum;have aow:=hide hnum;clear hnum
 by_cases h1:op=1
 ·have HP:Hid (partT ⟨op,val,name⟩=qm val):=by
   refine hide ?_;unfold partT;simp[h1]
  generalize partT ⟨op,val,name⟩=pt at *;subst h1;have hv:=uh aow (by omega);have HC:=hide (ab5 val hv (w.alloc (.cells #[.int .i64 1,.int .i64 val,.string name] 83)));have hz:=Qo val hv;generalize qm val=dv at *;go_enter Tryz.func79,Tryz.ntmps79;go_wp2_with fail;refine(uh HC).mono ?_;rintro e w1 ⟨rfl,hb1⟩;have HB:=hide ((uh HA).trans (hb1.mono (uh HA).size));clear hb1;go_wp2;go_ret;exact⟨Bv (uh HP).symm,uh HB⟩
 by_cases h2:op=2
 ·have HP:Hid (partT ⟨op,val,name⟩=flT val):=by
   refine hide ?_;unfold partT;simp[h2]
  generalize partT ⟨op,val,name⟩=pt at *;subst h2;have HC:=hide (axb val (w.alloc (.cells #[.int .i64 2,.int .i64 val,.string name] 83)));generalize flT val=dv at *;go_enter Tryz.func79,Tryz.ntmps79;go_wp2_with fail;refine(uh HC).mono ?_;rintro e w1 ⟨rfl,rfl⟩;go_wp2;go_ret;exact⟨Bv (uh HP).symm,uh HA⟩
 by_cases h3:op=3
 ·have HP:Hid (partT ⟨op,val,name⟩=Zf++name):=by
   refine hide ?_;unfold partT;simp[h3]
  generalize partT ⟨op,val,name⟩=pt at *;subst h3;go_enter Tryz.func79,Tryz.ntmps79;go_wp2;go_ret;exact⟨Bv (uh HP).symm,uh HA⟩
 by_cases Sj:op=25
 ·have HP:Hid (partT ⟨op,val,name⟩=Wat++qm val):=by
   refine hide ?_;unfold partT;simp[Sj]
  generalize partT ⟨op,val,name⟩=pt at *;subst Sj;have hv:=uh aow (by omega);have HC:=hide (ab5 val hv (w.alloc (.cells #[.int .i64 25,.int .i64 val,.string name] 83)));have hz:=Qo val hv;generalize qm val=dv at *;go_enter Tryz.func79,Tryz.ntmps79;go_wp2_with fail;refine(uh HC).mono ?_;rintro e w1 ⟨rfl,hb1⟩;have HB:=hide ((uh HA).trans (hb1.mono (uh HA).size));clear hb1;go_wp2;go_ret;exact⟨Bv (uh HP).symm,uh HB⟩
 by_cases h4:op=4
 ·have HP:Hid (partT ⟨op,val,name⟩=adb):=by
   refine hide ?_;unfold partT;simp[h4]
  generalize partT ⟨op,val,name⟩=pt at *;subst h4;go_enter Tryz.func79,Tryz.ntmps79;go_wp2;go_ret;exact⟨Bv (uh HP).symm,uh HA⟩
 by_cases h5:op=5
 ·have HP:Hid (partT ⟨op,val,name⟩=ade):=by
   refine hide ?_;unfold partT;simp[h5]
  generalize partT ⟨op,val,name⟩=pt at *;subst h5;go_enter Tryz.func79,Tryz.ntmps79;go_wp2;go_ret;exact⟨Bv (uh HP).symm,uh HA⟩
 by_cases h20:op=20
 ·have HP:Hid (partT ⟨op,val,name⟩=Wq):=by
   refine hide ?_;unfold partT;simp[h20]
  generalize partT ⟨op,val,name⟩=pt at *;subst h20;go_enter Tryz.func79,Tryz.ntmps79;go_wp2;go_ret;exact⟨Bv (uh HP).symm,uh HA⟩
 have HP:Hid (partT ⟨op,val,name⟩=sgT op):=by
  refine hide ?_;unfold partT;simp[h1,h2,h3,Sj,h4,h5,h20]
 have HC:=hide (axd op (w.alloc (.cells #[.int .i64 op,.int .i64 val,.string name] 83)));generalize partT ⟨op,val,name⟩=pt at *;generalize sgT op=sg at *;go_enter Tryz.func79,Tryz.ntmps79;go_wp2_with fail;refine(uh HC).mono ?_;rintro e w1 ⟨rfl,hb1⟩;have HB:=hide ((uh HA).trans (hb1.mono (uh HA).size));clear hb1;go_wp2;go_ret;exact⟨Bv (uh HP).symm,uh HB⟩
theorem ame (t:Int) (w:bf):Calls Tryz.prog 24 #[.int .i64 t] w fun e w'=>e=.returned (.string (Bq t))∧w'=w:=by
 go_enter Tryz.func24,Tryz.ntmps24;go_wp2
 all_goals
  go_ret;refine⟨Bv ?_,rfl⟩
  simp_all [Bq,aaf,ae5]
structure aep (c:List ku):Prop where
 pt:∀t,t∈c->ac4 t
 nm:∀t,t∈c->t.name.size<=1048576
 len:c.length<=6000
 sz:oq Gq c<=1048576
theorem adf {c:List ku} (h:aep c):∀x,x∈tu c->x.size<=2000000:=fun x hx=>by
 unfold tu at hx;obtain⟨t,ht,rfl⟩:=List.mem_map.1 hx;have h1:=ao4 t (h.pt t ht);have h2:=h.nm t ht;omega
theorem aub (c:List ku) (q:Nat) (hq:q<c.length):tu (c.take (q+1))=tu (c.take q)++[partT c[q]]:=by
 unfold tu;rw[Fb hq,Il];rfl
theorem V3 (c:List ku):(tu c).length=c.length:=by simp[tu]
theorem amf (c:List ku) (v:Value) (w:bf) (hv:iy 3 32 Gp 0 w v c) (hc:aep c) :
  Calls Tryz.prog 55 #[v] w (Ans (.string (Ht c)) w):=by
 have Vs:=hide hc;have hl:=hc.len;have HV:=hide hv;obtain⟨a,cap,rfl,_,_,hx⟩:=hv;have HX:=hide hx;have HO:=hide (jm.start (E:=ni) w w.heap.size (gq _));have HB0:=hide ((gy w.heap.size w).alloc (gq _) (.cells #[] 9));have HCT:Hid (Fq Lsp (tu c)=Ht c):=rfl;generalize Ht c=ct at *;clear hx hc;go_enter Tryz.func55,Tryz.ntmps55;go_wp2
 go_loopg [3,9] c.length (fun gh st ix wr=>∃(q:Nat) (sv:Value),q<=c.length∧gh=c.length-q∧ix=.int .i64 q∧st=sv∧Hid (jm ni wr w.heap.size sv (tu (c.take q)))∧Hid (Below w.heap.size w wr))
 case atStart=>exact⟨0,_,jg _,by omega,rfl,rfl,HO,HB0⟩
 case round =>
  obtain⟨q,_,hq,hg,rfl,rfl,HOW,Bl⟩:=hrel;have HG:=hide hg;clear hg;have hws:=(uh Bl).size
  by_cases hlt:q<c.length
  ·obtain⟨b,o,cs,rfl,_,hb,hcs,hc,hR⟩:=uh HX q hlt
   have hc:∀j (hj:j<cs.length),wr.cell? ⟨b,o+q*3+j,none⟩=some cs[j]:=fun j hj=>by rw[(uh Bl).cell (p:=⟨b,_,none⟩) hb];exact hc j hj
   obtain⟨rfl,hsn,ho,hv⟩:=hR;have c0:=hc 0 (by simp);have c1:=hc 1 (by simp);have c2:=hc 2 (by simp);simp only[jr,jh,ny,o8] at c0 c1 c2;have Ku:(q:Int)<(c.length:Int):=by omega
   have HC:=hide (amd c[q] (wr.alloc (.cells #[.int .i64 c[q].op,.int .i64 c[q].val,.string c[q].name] 83)) ((uh Vs).pt _ (pz hlt)) ((uh Vs).nm _ (pz hlt)));have HT:=hide (aub c q hlt)
   have Hy:Hid ((tu (c.take q)).length=q):=by
    refine hide ?_;rw[V3,Nq];omega
   have P1:=hide ((gy wr.heap.size wr).alloc (gq _) (.cells #[.int .i64 c[q].op,.int .i64 c[q].val,.string c[q].name] 83));clear hc hcs hsn ho hv;generalize partT c[q]=pt at *;generalize c[q]=it at *;obtain⟨op,val,name⟩:=it;simp only at *;generalize tu (c.take q)=pre at *;go_wp2_with fail;refine(uh HC).mono ?_;rintro e w1 ⟨rfl,hb1⟩;have Q1:Hid (Below wr.heap.size wr w1):=(uh P1).trans (hb1.mono (uh P1).size);have Q2:Hid (Below wr.heap.size wr (w1.alloc (.cells #[.string pt] 9))):=(uh Q1).alloc (uh Q1).size _;have Ue:=hide ((uh HOW).below (uh Q2));have HB1:=hide ((uh Bl).trans ((uh Q2).mono hws));have hs1:=(uh Q1).size;clear hb1;go_wp2_with (at_builtin;go_must (refine Au ni _ rfl _ _ rfl w.heap.size _ pre rfl (uh Ue) w1.heap.size pt rfl (fun j u hu=>by rw[zy _ _ _ _ rfl];simpa[ni] using hu) (by have:=uh Hy;simp[ni];omega) (by simp;omega) ?_));intro v2 w2 hown2 Kw;have HB2:=hide ((uh Ue).grown (uh HB1) Kw (by simp;omega) (gq _));rw[←uh HT] at hown2;have Oj:=hide hown2;clear hown2 Kw;go_wp2
   go_roundg (c.length-(q+1))
   case measure=>have:=uh HG;omega
   case rel=>exact⟨q+1,v2,by omega,rfl,by go_num,rfl,Oj,HB2⟩
  ·have e:q=c.length:=by omega
   have HS:Hid (iy 1 16 wz 0 wr u3 (tu c)):=by
    refine hide ?_;have h8:=uh HOW;rw[e,Eb] at h8;exact h8.at (R:=wz) (fun x hx=>⟨rfl,by have:=adf (uh Vs) x hx;unfold Len;omega⟩) (by rw[V3];simp[ni];omega)
   have HJ:=hide (agj Lsp (tu c) u3 wr (uh HS) (by decide) (fun x hx=>by have:=adf (uh Vs) x hx;omega) (by rw[V3];omega));rw[uh HCT] at HJ;clear e;go_wp2_with fail;refine(uh HJ).mono ?_;rintro e w1 ⟨rfl,rfl⟩;go_wp2;go_ret;exact⟨rfl,uh Bl⟩
theorem amg (l:List UInt8) (i:Nat) (hi:i<l.length):Rz (l.take (i+1))=if V4 l[i]=true∧Rz (l.take i)<=2147483647 then Rz (l.take i)*10+(l[i].toNat-48) else Rz (l.take i):=by
 rw[Fb hi,agk]
theorem ark (l:List UInt8) (i:Nat):Rz (l.take i)<=21474836479:=by
 induction i with
 | zero=>simp[Rz]
 | succ i ih =>
  by_cases hi:i<l.length
  ·rw[amg l i hi]
   split
   ·rename_i h
    have h9:=xq h.1;omega
   ·exact ih
  ·rw[Qg (by omega)]
   rw[Qg (by omega)] at ih;exact ih
theorem a1b (b:UInt8):Kt ((b.toNat:Nat):Int)=V4 b:=by
 unfold Kt V4;rw[decide_eq_decide];omega
theorem arl (s:dh) (h:0<s.size):(bL s).head?=some (s[0]):=by
 have e:=aj2 s 0 h;rw[←e];rw[List.head?_eq_getElem?];exact jy _
theorem aiu (s:dh) (h:s.size=0):bL s=[]:=Qe (by rw[Ez];exact h)
theorem aaj (s:dh) (w:bf) (hs:s.size<=1048576):Calls Tryz.prog 21 #[.string s] w (fun e w'=>e=.returned (.int .i64 (Bo s))∧w'=w):=by
 obtain⟨PO,Gv⟩:∃PO:Ending->bf->Prop,PO=(fun e w'=>e=.returned (.int .i64 (Bo s))∧w'=w):=⟨_,rfl⟩;rw[←Gv];have Dn:=hide Gv;clear Gv;go_enter Tryz.func21,Tryz.ntmps21;go_wp2
 go_loopg [3,4] s.size (fun gh nv ix wr=>∃(i N:Nat),i<=s.size∧gh=s.size-i∧nv=.int .i64 (N:Int)∧ix=.int .i64 i∧Hid (N=Rz ((bL s).take i))∧N<=21474836479∧wr=w)
 case atStart=>exact⟨0,0,jg _,by omega,rfl,rfl,hide rfl,by omega,rfl⟩
 case round =>
  obtain⟨i,N,hi,hg,rfl,rfl,HN,hNb,Qm⟩:=hrel;obtain rfl:=Qm.symm;have HG:=hide hg;clear hg
  by_cases hlt:i<s.size
  ·have hbd:=aap s[i]
   have Ku:(i:Int)<(s.size:Int):=by omega
   have hgi:=aj2 s i hlt;have hst:=amg (bL s) i (by rw[Ez];exact hlt);rw[hgi,←uh HN] at hst;have hbn:=ark (bL s) (i+1);have hds:=a1b s[i]
   cases hd:V4 s[i]
   ·rw[hd,ay (by simp)] at hst
    have Og:=hide hst.symm;rw[hd] at hds;clear hst hbn hgi hd;go_wp2_with fail;refine(Uk _ _ (by omega) (by omega)).mono ?_;rintro e w' ⟨rfl,rfl⟩;rw[hds];go_wp2
    go_roundg (s.size-(i+1))
    case measure=>have:=uh HG;omega
    case rel=>exact⟨i+1,N,by omega,rfl,rfl,by go_num,Og,hNb,rfl⟩
   ·have hdb:=xq hd
    rw[hd] at hds
    by_cases hm:N<=2147483647
    ·rw[gu ⟨hd,hm⟩] at hst
     have Og:=hide hst.symm;have hmI:decide ((N:Int)<=2147483647)=true:=jf (by omega);have hwu:IntKind.u8.wrap (((s[i].toNat:Nat):Int)-48)=((s[i].toNat-48:Nat):Int):=by rw[IntKind.wrap_u8];omega
     have hNN:N*10+(s[i].toNat-48)<=21474836479:=by omega
     clear hst hbn hgi hd;go_wp2_with fail;refine(Uk _ _ (by omega) (by omega)).mono ?_;rintro e w' ⟨rfl,rfl⟩;rw[hds];go_wp2
     go_roundg (s.size-(i+1))
     case measure=>have:=uh HG;omega
     case rel=>exact⟨i+1,N*10+(s[i].toNat-48),by omega,rfl,by go_num,by go_num,Og,hNN,rfl⟩
    ·rw[ay (fun h9=>hm h9.2)] at hst
     have Og:=hide hst.symm;have hmI:decide ((N:Int)<=2147483647)=false:=iw (by omega);clear hst hbn hgi hd;go_wp2_with fail;refine(Uk _ _ (by omega) (by omega)).mono ?_;rintro e w' ⟨rfl,rfl⟩;rw[hds];go_wp2
     go_roundg (s.size-(i+1))
     case measure=>have:=uh HG;omega
     case rel=>exact⟨i+1,N,by omega,rfl,rfl,by go_num,Og,hNb,rfl⟩
  ·have Ku:¬(i:Int)<(s.size:Int):=by omega
   have hNe:N=Rz (bL s):=by
    rw[uh HN,Qg (by rw[Ez];omega)]
   by_cases h0:s.size=0
   ·have HR:Hid (Bo s=(N:Int)):=hide (by unfold Bo;rw[aiu s h0,hNe,aiu s h0];rfl)
    have HF:Hid (PO (.returned (.int .i64 (N:Int))) w):=hide (by rw[uh Dn];exact⟨by rw[uh HR],rfl⟩);have q0:decide ((0:Int)<(s.size:Int))=false:=iw (by omega);have q1:¬(0:Int)<(s.size:Int):=by omega
    clear hNe;go_wp2;exact uh HF
   ·have q0:decide ((0:Int)<(s.size:Int))=true:=jf (by omega)
    have q1:(0:Int)<(s.size:Int):=by omega
    have hp:0<s.size:=by omega
    have hh:=arl s hp;have hbd:=aap s[0]
    by_cases h45:s[0]=45
    ·have HR:Hid (Bo s = -(N:Int)):=hide (by unfold Bo;rw[hh,h45,gu rfl,hNe])
     have HF:Hid (PO (.returned (.int .i64 (-(N:Int)))) w):=hide (by rw[uh Dn];exact⟨by rw[uh HR],rfl⟩);have q2:(((s[0].toNat:Nat):Int) == 45)=true:=by rw[h45];rfl
     have q3:IntKind.i64.wrap (-(N:Int)) = -(N:Int):=by rw[Rf];omega
     clear hNe hh h45;go_wp2;exact uh HF
    ·have HR:Hid (Bo s=(N:Int)):=hide (by unfold Bo;rw[hh,ay (fun h9=>h45 (G9 h9)),hNe])
     have HF:Hid (PO (.returned (.int .i64 (N:Int))) w):=hide (by rw[uh Dn];exact⟨by rw[uh HR],rfl⟩)
     have q2:(((s[0].toNat:Nat):Int) == 45)=false:=by
      rw[su];intro h9;exact h45 (UInt8.toNat_inj.1 (by rw[show (45:UInt8).toNat=45 from rfl];omega))
     clear hNe hh h45;go_wp2;exact uh HF
open Go.Maps (Keyed IsMap)
def ae8 (v:Value):Option (DataW Value × List MemPlace):=some (.held v,[])
def Qq (P:Program) (k:TypeId) (z:Value) (w:bf) (b n:Nat) (f:dh->Value):Prop :=
 ∃D,w.ownsMap P k ae8 b n D∧∀s:dh,D.atKey (.string s.data.toList) (.held z)=.held (f s)
variable {P:Program} {k:TypeId} {z:Value} {w:bf} {b n:Nat} {f:dh->Value}
theorem Qq.made (w:bf):Qq P k z (w.alloc (.map #[] 0)) w.heap.size 0 (fun _=>z) :=
 ⟨.map [],World.ownsMap_made w P k ae8,fun s=>rfl⟩
theorem Qq.lt (h:Qq P k z w b n f):b<w.heap.size:=by
 obtain⟨D,h,_⟩:=h;exact h.lt
theorem Qq.an6 (h:Qq P k z w b n f) (j:Nat):w.cell? ⟨b,j,none⟩=none:=by
 obtain⟨D,⟨es,clock,h1,_⟩,_⟩:=h;simp[World.cell?,h1]
theorem Qq.block {w':bf} (h:Qq P k z w b n f) (hb:w'.heap[b]?=w.heap[b]?):Qq P k z w' b n f:=by
 obtain⟨D,⟨es,clock,h1,h2,h3,h4⟩,h5⟩:=h;exact⟨D,⟨es,clock,hb.trans h1,h2,h3,h4⟩,h5⟩
theorem Qq.below {w':bf} (h:Qq P k z w b n f) (hb:Below w.heap.size w w'):Qq P k z w' b n f:=h.block (hb.block b h.lt)
theorem Qq.mono {n':Nat} (h:Qq P k z w b n f) (hn:n<=n'):Qq P k z w b n' f:=by
 obtain⟨D,h,h5⟩:=h;exact⟨D,h.mono hn,h5⟩
theorem Qq.look {t e:TypeId} (h:Qq P k z w b n f) (hk:P.underlying k=some .string) (ht:P.underlying t=some (.map k e)) (hz:(zeroValue e).run P w=.ok z w) {s:dh} (hs:s.size<=maxLen) :
  (Instr.lookup t (.map (some b)) (.string s) false).run P w=.ok (f s) w:=by
 obtain⟨D,h,h5⟩:=h;obtain⟨v,ps,hrun,hv⟩:=h.lookup (Maps.string_keyed hk) ht hz (zd:=.held z) (zp:=[]) rfl (WideMaps.keyOf_string_mk hk hs);rw[h5 s] at hv;unfold ae8 at hv;simp only[uo,Prod.mk.injEq,DataW.held.injEq] at hv;rw[hrun,hv.1]
theorem bytes_eq {s x:dh} (h:s.data.toList=x.data.toList):s=x:=by
 cases s;cases x;simp only[ByteArray.mk.injEq];exact Array.toList_inj.1 h
theorem Qq.store {t e:TypeId} (h:Qq P k z w b n f) (hk:P.underlying k=some .string) (ht:P.underlying t=some (.map k e)) (hn:n<maxLen) {s:dh} (hs:s.size<=maxLen) (v:Value) :
  ∃w' f',(Instr.mapUpdate t (.map (some b)) (.string s) v).run P w=.ok () w'∧Qq P k z w' b (n+1) f'∧f' s=v∧(∀x,x≠s->f' x=f x)∧w.grownBy w' (some b):=by
 obtain⟨D,h,h5⟩:=h;obtain⟨w',hrun,ho,hg⟩:=h.update (Maps.string_keyed hk) ht hn (WideMaps.keyOf_string_mk hk hs) (val:=v) (d:=.held v) (ps:=[]) rfl;refine⟨w',fun x=>if x.data.toList=s.data.toList then v else f x,hrun,⟨_,ho,fun x=>?_⟩,?_,fun x hx=>?_,hg⟩
 ·by_cases hx:x.data.toList=s.data.toList
  ·show _=DataW.held (if _ then _ else _)
   rw[gu hx,hx];exact Maps.atKey_put_same h.isMap ((Maps.string_keyed hk).key (WideMaps.keyOf_string_mk hk hs)) _ _
  ·show _=DataW.held (if _ then _ else _)
   rw[ay hx,Maps.atKey_put_other (by simpa using hx)];exact h5 x
 ·simp
 ·exact ay (fun h=>hx (bytes_eq h))
def ae9 (s:dh):Lit:=.string s.data.toList
def Jp (P:Program) (k:TypeId) (w:bf) (b n:Nat) (f:dh->Option Value):Prop :=
 ∃D,w.ownsMap P k ae8 b n D∧Maps.size D=n∧(∀s v,f s=some v->∀z,D.atKey (ae9 s) z=.held v)∧(∀s,f s=none->∀z,D.atKey (ae9 s) z=z)
variable {P:Program} {k:TypeId} {w:bf} {b n:Nat} {f:dh->Option Value}
theorem Jp.made (w:bf):Jp P k (w.alloc (.map #[] 0)) w.heap.size 0 (fun _=>none) :=
 ⟨.map [],World.ownsMap_made w P k ae8,rfl,fun s v h=>by (cases h),fun s _ z=>rfl⟩
theorem Jp.lt (h:Jp P k w b n f):b<w.heap.size:=by
 obtain⟨D,h,_⟩:=h;exact h.lt
theorem Jp.an6 (h:Jp P k w b n f) (j:Nat):w.cell? ⟨b,j,none⟩=none:=by
 obtain⟨D,⟨es,clock,h1,_⟩,_⟩:=h;simp[World.cell?,h1]
theorem Jp.block {w':bf} (h:Jp P k w b n f) (hb:w'.heap[b]?=w.heap[b]?):Jp P k w' b n f:=by
 obtain⟨D,⟨es,clock,h1,h2,h3,h4⟩,h5⟩:=h;exact⟨D,⟨es,clock,hb.trans h1,h2,h3,h4⟩,h5⟩
theorem Jp.below {B:Nat} {w':bf} (h:Jp P k w b n f) (hb:Below B w w') (hB:b<B):Jp P k w' b n f:=h.block (hb.block b hB)
theorem Jp.len {t e:TypeId} (h:Jp P k w b n f) (ht:P.underlying t=some (.map k e)) (ty:TypeId):(Builtin.len_ #[t] ty #[.map (some b)]).run P w=.ok (.int .i64 (n:Int)) w:=by
 obtain⟨D,h,hs,_⟩:=h;have:=h.len ht ty;rwa[hs] at this
theorem Jp.hit {t e:TypeId} (h:Jp P k w b n f) (hk:P.underlying k=some .string) (ht:P.underlying t=some (.map k e)) {z:Value} (hz:(zeroValue e).run P w=.ok z w) {s:dh} (hs:s.size<=maxLen) {v:Value} (hv:f s=some v) :
  (Instr.lookup t (.map (some b)) (.string s) true).run P w=.ok (.tuple #[v,.bool true]) w:=by
 obtain⟨D,h,_,h4,h5⟩:=h;obtain⟨v',ps,hrun,hv'⟩:=h.look_ok (Maps.string_keyed hk) ht hz (zd:=.held z) (zp:=[]) rfl (WideMaps.keyOf_string_mk hk hs);have e1:=h4 s v hv;unfold ae9 at e1;rw[e1] at hv';unfold ae8 at hv';simp only[uo,Prod.mk.injEq,DataW.held.injEq] at hv';rw[hrun,Maps.has_true_of_atKey e1,hv'.1]
theorem Jp.miss {t e:TypeId} (h:Jp P k w b n f) (hk:P.underlying k=some .string) (ht:P.underlying t=some (.map k e)) {z:Value} (hz:(zeroValue e).run P w=.ok z w) {s:dh} (hs:s.size<=maxLen) (hv:f s=none) :
  (Instr.lookup t (.map (some b)) (.string s) true).run P w=.ok (.tuple #[z,.bool false]) w:=by
 obtain⟨D,h,_,h4,h5⟩:=h;obtain⟨v',ps,hrun,hv'⟩:=h.look_ok (Maps.string_keyed hk) ht hz (zd:=.held z) (zp:=[]) rfl (WideMaps.keyOf_string_mk hk hs);have e1:=h5 s hv;unfold ae9 at e1;rw[e1] at hv';unfold ae8 at hv';simp only[uo,Prod.mk.injEq,DataW.held.injEq] at hv';rw[hrun,Maps.has_false_of_atKey e1,hv'.1]
theorem Jp.look {t e:TypeId} (h:Jp P k w b n f) (hk:P.underlying k=some .string) (ht:P.underlying t=some (.map k e)) {z:Value} (hz:(zeroValue e).run P w=.ok z w) {s:dh} (hs:s.size<=maxLen) :
  (Instr.lookup t (.map (some b)) (.string s) false).run P w=.ok ((f s).getD z) w:=by
 obtain⟨D,h,_,h4,h5⟩:=h;obtain⟨v',ps,hrun,hv'⟩:=h.lookup (Maps.string_keyed hk) ht hz (zd:=.held z) (zp:=[]) rfl (WideMaps.keyOf_string_mk hk hs)
 cases hf:f s with
 | none =>
  have e1:=h5 s hf;unfold ae9 at e1;rw[e1] at hv';unfold ae8 at hv';simp only[uo,Prod.mk.injEq,DataW.held.injEq] at hv';rw[hrun,hv'.1];rfl
 | some v =>
  have e1:=h4 s v hf;unfold ae9 at e1;rw[e1] at hv';unfold ae8 at hv';simp only[uo,Prod.mk.injEq,DataW.held.injEq] at hv';rw[hrun,hv'.1];rfl
theorem ao8 {H:Type} {D:DataW H} {kl:Lit} (hD:IsMap D) (h:Maps.has D kl=false) (d:DataW H):Maps.size (D.put kl d)=Maps.size D+1:=by
 obtain⟨es,rfl⟩:=hD;rw[DataW.put_eq];show (ChangeMaps.putKey kl d es).length=es.length+1;unfold ChangeMaps.putKey;rw[DataW.length_insert]
 have:es.filter (ChangeMaps.notKey kl)=es:=by
  rw[List.filter_eq_self];intro p hp;rw[Maps.has_eq] at h;have:=List.any_eq_false.1 h p hp;unfold ChangeMaps.notKey;simpa using this
 rw[this]
theorem Jp.store {t e:TypeId} (h:Jp P k w b n f) (hk:P.underlying k=some .string) (ht:P.underlying t=some (.map k e)) (hn:n<maxLen) {s:dh} (hs:s.size<=maxLen) (hf:f s=none) (v:Value) :
  ∃w',(Instr.mapUpdate t (.map (some b)) (.string s) v).run P w=.ok () w'∧(∀g:dh->Option Value,g s=some v->(∀x,x≠s->g x=f x)->Jp P k w' b (n+1) g)∧w.grownBy w' (some b):=by
 obtain⟨D,h,hsz,h4,h5⟩:=h;obtain⟨w',hrun,ho,hg⟩:=h.update (Maps.string_keyed hk) ht hn (WideMaps.keyOf_string_mk hk hs) (val:=v) (d:=.held v) (ps:=[]) rfl;have hkey:=(Maps.string_keyed hk).key (WideMaps.keyOf_string_mk hk hs)
 have hne:∀x:dh,x≠s->ae9 x≠.string s.data.toList:=fun x hx e=>by
  unfold ae9 at e;simp only[Lit.string.injEq] at e;exact hx (bytes_eq e)
 refine⟨w',hrun,fun g hgs hgo=>⟨_,ho,by have e9:=ao8 h.isMap (Maps.has_false_of_atKey (h5 s hf)) (.held v);unfold ae9 at e9;rw[e9,hsz],fun x u hx z=>?_,fun x hx z=>?_⟩,hg⟩
 ·by_cases e:x=s
  ·subst e
   rw[hgs] at hx;simp only[uo] at hx;subst hx;exact Maps.atKey_put_same h.isMap hkey _ _
  ·rw[Maps.atKey_put_other (hne x e)]
   rw[hgo x e] at hx;exact h4 x u hx z
 ·have e:x≠s:=fun e=>by
   subst e;rw[hgs] at hx
   cases hx
  rw[Maps.atKey_put_other (hne x e)];rw[hgo x e] at hx;exact h5 x hx z
end Go.Proofs.YtfeejeflmcapoaaGreatDoor
