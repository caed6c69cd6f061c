import Derived.Test.YtfeejeflmcapoaaGreatDoorPM0
import Derived.Test.YtfeejeflmcapoaaGreatDoorData
import Derived.Deep.RegionWith
import Derived.RegionTactic
import Derived.Test.YtfeejeflmcapoaaGreatDoorRG1
import Derived.Deep.RegionHeld3
import Derived.Maps.OwnSet
set_option linter.unusedSimpArgs false
set_option linter.unusedVariables false
set_option maxHeartbeats 4000000
namespace Go.Proofs.YtfeejeflmcapoaaGreatDoor
open Go.RowKit
theorem Bg {a b:dh} (h:a=b):Ending.returned (.string a)=.returned (.string b):=by rw[h]
theorem aw3 (v:Int) (w:cu) :
  Calls Tryz.prog 106 #[.int .i64 v] w fun e w'=>e=.returned (.string (flT v))/\w'=w:=by
 go_enter Tryz.func106,Tryz.ntmps106;go_wp2
 all_goals
  go_ret;refine⟨Bg ?_,rfl⟩
  simp_all [flT,N7,Jw]
theorem aw4:∀k:Nat,k<10->(ByteArray.mk #[48,49,50,51,52,53,54,55,56,57]).extract k (k+1)=⟨#[UInt8.ofNat (48+k)]⟩:=by decide
theorem a01 (n:Nat) (h:n<10):qo n=⟨#[UInt8.ofNat (48+n)]⟩:=by
 unfold qo Lib.itoa;rw[bf (by omega),Ed,Lib.decDigits,dif_pos h]
theorem a9e (n:Nat) (h:¬n<10):qo n=qo (n / 10:Nat)++⟨#[UInt8.ofNat (48+n % 10)]⟩:=by
 unfold qo Lib.itoa;rw[bf (by omega),bf (by omega),Ed,Ed,Lib.decDigits,dif_neg h];apply ByteArray.ext;simp[ByteArray.data_append]
theorem a9f (n:Int) (h:n<0):qo n=⟨#[45]⟩++qo (-n):=by
 unfold qo Lib.itoa;rw[gy h,bf (by omega)];have:n.natAbs=(-n).toNat:=by omega
 rw[this];apply ByteArray.ext;simp[ByteArray.data_append]
theorem ao2 (n:Nat):n<=2147483648->∀(w:cu),
  Calls Tryz.prog 25 #[.int .i64 (n:Int)] w (Ans (.string (qo n)) w):=by
 induction n using Nat.strongRecOn with
 | _ n ih =>
  intro hn w
  by_cases h:n<10
  ·have HD:=ak (a01 n h)
   have HE:=ak (aw4 n h);clear ih;generalize qo n=dn at *;go_enter Tryz.func25,Tryz.ntmps25;go_wp2;go_ret;exact⟨Bg (by rw[uh HD];exact uh HE),iq _ _⟩
  ·obtain⟨q,hq⟩:=o8 (n / 10)
   obtain⟨r,hr⟩:=o8 (n % 10);have IH:=ak (ih q (by omega) (by omega));have hsz:(qo (q:Nat)).size<=11:=Qh _ (by unfold Oe;omega);have HD:=a9e n h;rw[←hq,←hr] at HD;have HD:=ak HD;have HE:=ak (aw4 r (by omega));clear ih;have hdv:IntKind.i64.wrap ((n:Int) / 10)=(q:Int):=by rw[Qw];omega
   have hmd:(n:Int).tmod 10=(r:Int):=by rw[Int.tmod_eq_emod_of_nonneg (by omega)];omega
   have be8:r<10:=by omega
   have hx0:IntKind.i64.wrap ((r:Int)+1)=(r:Int)+1:=by rw[Qw];omega
   have hx1:(0:Int)<=(r:Int):=by omega
   have hx2:(r:Int)<=(r:Int)+1:=by omega
   have hx3:(r:Int)+1<=10:=by omega
   have hx4:r+1<=10:=by omega
   clear hq hr;generalize qo n=dn at *;generalize qo (q:Nat)=dq at *;go_enter Tryz.func25,Tryz.ntmps25;go_wp2_with fail
   go_region_with (first|(go_at_call 25;refine(uh IH _).mono ?_;rintro e w' ⟨rfl,hb⟩))
   all_goals
    go_wp2;go_ret;exact⟨Bg (by rw[uh HD];exact ni _ (uh HE)),(iq _ w).drew.trans hb⟩
theorem ab2 (n:Int) (h : -2147483648<=n/\n<=2147483648) (w:cu) :
  Calls Tryz.prog 25 #[.int .i64 n] w (Ans (.string (qo n)) w):=by
 by_cases h0:0<=n
 ·obtain⟨k,rfl⟩:=Ht h0
  exact ao2 k (by omega) w
 ·have hneg:n<0:=by omega
  obtain⟨k,hk⟩:=Ht (show 0 <= -n from by omega);have HC:=ak (ao2 k (by omega));have HD:=a9f n hneg;rw[hk] at HD;have HD:=ak HD;have hq:(qo (k:Nat)).size<=11:=Qh _ (by unfold Oe;omega);generalize qo n=dn at *;generalize qo (k:Nat)=dq at *;go_enter Tryz.func25,Tryz.ntmps25;go_wp2_with fail;refine(uh HC _).mono ?_;rintro e w' ⟨rfl,hb⟩;go_wp2;go_ret;exact⟨Bg (uh HD).symm,hb⟩
theorem a02 (sep:dh) (xs:List dh) (hs:sep.size<=10) (hx:∀x,x∈xs->x.size<=100000000) (hl:xs.length<=10000) (k:Nat):(Fb sep (xs.take k)).size<=2000000000000:=by
 have h:=ahu sep (xs.take k) 100000000 (fun x hx'=>hx x (List.mem_of_mem_take hx'));have h2:(xs.take k).length<=10000:=by rw[Nk];omega
 have h3:sep.size*(xs.take k).length<=10*10000:=Nat.mul_le_mul hs h2;omega
theorem agh (sep:dh) (xs:List dh) (v:Value) (w:cu) (hv:jc 1 16 xk 0 w v xs) (hs:sep.size<=10) (hxs:∀x,x∈xs->x.size<=100000000) (hl:xs.length<=10000) :
  Calls Tryz.prog 56 #[v,.string sep] w fun e w'=>e=.returned (.string (Fb sep xs))/\w'=w:=by
 have HJ:=ak (a02 sep xs hs hxs hl);have HXS:=ak hxs;clear hxs;obtain⟨a,cap,rfl,_,hn,hx⟩:=hv;unfold Len at hn;have HX:=ak hx;clear hx;go_enter Tryz.func56,Tryz.ntmps56;go_wp2
 go_loopg [5,6,7,10] xs.length (fun g out x1 x2 i wr=>∃(k:Nat),k<=xs.length/\g=xs.length-k/\i=.int .i64 k/\out=.string (Fb sep (xs.take k))/\wr=w)
 case atStart=>exact⟨0,jg _,by omega,rfl,by rw[Nj,agy];rfl,rfl⟩
 case round =>
  obtain⟨k,hk,hg,rfl,rfl,rfl⟩:=hrel;have HG:=ak hg;clear hg;have hz:=uh HJ k
  by_cases hlt:k<xs.length
  ·obtain⟨b,o,cs,rfl,_,hb,hcs,hc,hR⟩:=uh HX k hlt
   obtain⟨rfl,hsn⟩:=hR;have c0:=hc 0 (by simp);simp only[jr,ji,og,ou] at c0;have hz2:=uh HXS xs[k] (o7 hlt);clear hc hcs hsn
   by_cases hk0:k=0
   ·have HT:Hid (Fb sep (xs.take (k+1))=Fb sep (xs.take k)++xs[k]):=by
     show Fb sep (xs.take (k+1))=Fb sep (xs.take k)++xs[k];subst hk0;rw[Eu hlt,Nj,Gm,Ou,agy,adl]
    subst hk0;simp only[ji] at c0;generalize Fb sep (xs.take 0)=tx at *;generalize xs[0]=x at *;go_wp2
    go_roundg (xs.length-1)
    case measure=>have:=uh HG;omega
    case rel=>exact⟨1,by omega,rfl,by go_num,by rw[uh HT],rfl⟩
   ·have HT:=ak (ahv sep xs k hlt (by omega))
    generalize Fb sep (xs.take k)=tx at *;generalize xs[k]=x at *;go_wp2
    go_roundg (xs.length-(k+1))
    case measure=>have:=uh HG;omega
    case rel=>exact⟨k+1,by omega,rfl,by go_num,by rw[uh HT],rfl⟩
  ·have e:k=xs.length:=by omega
   have HT:Hid (Fb sep xs=Fb sep (xs.take k)):=by
    show Fb sep xs=Fb sep (xs.take k);rw[e,Dw]
   generalize Fb sep (xs.take k)=tx at *;go_wp2;go_ret;exact⟨Bg (uh HT).symm,rfl⟩
theorem Xq {α:Type} {R:Nat->cu->List Value->α->Prop} (f:α->Value) (uf:Nat) (xs:List α) (w:cu) (g cap:Nat) (hg:g<w.heap.size) (hc:∀(i:Nat) (h:i<xs.length),w.cell? ⟨g,i,none⟩=some (f xs[i]))
  (hR:∀x,x∈xs->R 0 w [f x] x) (hl:xs.length<=1000) (hb:uf<=100) (hcap:xs.length<=cap):jc 1 uf R 0 w (.slice (some ⟨g,0,none⟩) xs.length cap) xs:=by
 refine⟨_,cap,rfl,⟨?_,hcap⟩,by unfold Len;omega,fun i hi=>⟨g,0,[f xs[i]],rfl,jg _,hg,rfl,fun j hj=>?_,hR _ (o7 hi)⟩⟩
 ·unfold Len
  have:xs.length*uf<=1000*100:=Nat.mul_le_mul hl hb;omega
 ·have hj0:j=0:=by simpa using hj
  subst hj0;simp only[Ba,jr,ji,og];exact hc i hi
def Qi:Nat->List dh
 | 1=>[⟨#[111,114]⟩,⟨#[120,111,114]⟩]
 | 2=>[⟨#[97,110,100]⟩]
 | 3=>[⟨#[61]⟩,⟨#[60,62]⟩,⟨#[60]⟩,⟨#[60,61]⟩,⟨#[62]⟩,⟨#[62,61]⟩]
 | 4=>[⟨#[43]⟩,⟨#[45]⟩]
 | 5=>[⟨#[42]⟩,⟨#[47]⟩,⟨#[109,111,100]⟩]
 | _=>[]
def Il:Nat->List Int
 | 1=>[18,19]
 | 2=>[17]
 | 3=>[11,12,13,14,15,16]
 | 4=>[6,7]
 | 5=>[8,9,10]
 | _=>[]
theorem a4t (w:cu):Calls Tryz.prog 134 #[.int .i64 1] w fun e w'=>∃a b,e=.returned (.tuple #[a,b])/\jc 1 16 xk 0 w' a (Qi 1)/\jc 1 8 Jv 0 w' b (Il 1)/\Below w.heap.size w w':=by
 go_enter Tryz.func134,Tryz.ntmps134;go_wp2
 go_ret2
 have hs:∀x,x∈Qi 1->x.size<=3:=by decide
 have ho:∀x,x∈Il 1->0<=x/\x<=100:=by decide
 refine⟨_,_,rfl,Xq Value.string 16 (Qi 1) _ w.heap.size _ ?_ ?_ ?_ (by decide) (by decide) (by decide),Xq (Value.int .i64) 8 (Il 1) _ (w.heap.size+1) _ ?_ ?_ ?_ (by decide) (by decide) (by decide),((iq _ _).alloc (gu _) _).alloc (by simp) _⟩
 ·simp;omega
 ·intro i hi
  rw[World.cell?_alloc_old _ _ _ (by simp),zu _ _ _ _ rfl]
  have hc:∀(i:Nat) (hi:i<(Qi 1).length),((Qi 1).map Value.string).toArray[i]?=some (.string (Qi 1)[i]):=by
   intro i hi;simp[hi]
  exact hc i hi
 ·exact fun x hx=>⟨rfl,by have:=hs x hx;unfold Len;omega⟩
 ·simp
 ·intro i hi
  rw[zu _ _ _ _ (by simp)]
  have hc:∀(i:Nat) (hi:i<(Il 1).length),((Il 1).map (Value.int .i64)).toArray[i]?=some (.int .i64 (Il 1)[i]):=by
   intro i hi;simp[hi]
  exact hc i hi
 ·exact fun x hx=>⟨rfl,by have:=ho x hx;unfold I64;omega⟩
theorem a4u (w:cu):Calls Tryz.prog 134 #[.int .i64 2] w fun e w'=>∃a b,e=.returned (.tuple #[a,b])/\jc 1 16 xk 0 w' a (Qi 2)/\jc 1 8 Jv 0 w' b (Il 2)/\Below w.heap.size w w':=by
 go_enter Tryz.func134,Tryz.ntmps134;go_wp2
 go_ret2
 have hs:∀x,x∈Qi 2->x.size<=3:=by decide
 have ho:∀x,x∈Il 2->0<=x/\x<=100:=by decide
 refine⟨_,_,rfl,Xq Value.string 16 (Qi 2) _ w.heap.size _ ?_ ?_ ?_ (by decide) (by decide) (by decide),Xq (Value.int .i64) 8 (Il 2) _ (w.heap.size+1) _ ?_ ?_ ?_ (by decide) (by decide) (by decide),((iq _ _).alloc (gu _) _).alloc (by simp) _⟩
 ·simp;omega
 ·intro i hi
  rw[World.cell?_alloc_old _ _ _ (by simp),zu _ _ _ _ rfl]
  have hc:∀(i:Nat) (hi:i<(Qi 2).length),((Qi 2).map Value.string).toArray[i]?=some (.string (Qi 2)[i]):=by
   intro i hi;simp[hi]
  exact hc i hi
 ·exact fun x hx=>⟨rfl,by have:=hs x hx;unfold Len;omega⟩
 ·simp
 ·intro i hi
  rw[zu _ _ _ _ (by simp)]
  have hc:∀(i:Nat) (hi:i<(Il 2).length),((Il 2).map (Value.int .i64)).toArray[i]?=some (.int .i64 (Il 2)[i]):=by
   intro i hi;simp[hi]
  exact hc i hi
 ·exact fun x hx=>⟨rfl,by have:=ho x hx;unfold I64;omega⟩
theorem a4v (w:cu):Calls Tryz.prog 134 #[.int .i64 3] w fun e w'=>∃a b,e=.returned (.tuple #[a,b])/\jc 1 16 xk 0 w' a (Qi 3)/\jc 1 8 Jv 0 w' b (Il 3)/\Below w.heap.size w w':=by
 go_enter Tryz.func134,Tryz.ntmps134;go_wp2
 go_ret2
 have hs:∀x,x∈Qi 3->x.size<=3:=by decide
 have ho:∀x,x∈Il 3->0<=x/\x<=100:=by decide
 refine⟨_,_,rfl,Xq Value.string 16 (Qi 3) _ w.heap.size _ ?_ ?_ ?_ (by decide) (by decide) (by decide),Xq (Value.int .i64) 8 (Il 3) _ (w.heap.size+1) _ ?_ ?_ ?_ (by decide) (by decide) (by decide),((iq _ _).alloc (gu _) _).alloc (by simp) _⟩
 ·simp;omega
 ·intro i hi
  rw[World.cell?_alloc_old _ _ _ (by simp),zu _ _ _ _ rfl]
  have hc:∀(i:Nat) (hi:i<(Qi 3).length),((Qi 3).map Value.string).toArray[i]?=some (.string (Qi 3)[i]):=by
   intro i hi;simp[hi]
  exact hc i hi
 ·exact fun x hx=>⟨rfl,by have:=hs x hx;unfold Len;omega⟩
 ·simp
 ·intro i hi
  rw[zu _ _ _ _ (by simp)]
  have hc:∀(i:Nat) (hi:i<(Il 3).length),((Il 3).map (Value.int .i64)).toArray[i]?=some (.int .i64 (Il 3)[i]):=by
   intro i hi;simp[hi]
  exact hc i hi
 ·exact fun x hx=>⟨rfl,by have:=ho x hx;unfold I64;omega⟩
theorem a4w (w:cu):Calls Tryz.prog 134 #[.int .i64 4] w fun e w'=>∃a b,e=.returned (.tuple #[a,b])/\jc 1 16 xk 0 w' a (Qi 4)/\jc 1 8 Jv 0 w' b (Il 4)/\Below w.heap.size w w':=by
 go_enter Tryz.func134,Tryz.ntmps134;go_wp2
 go_ret2
 have hs:∀x,x∈Qi 4->x.size<=3:=by decide
 have ho:∀x,x∈Il 4->0<=x/\x<=100:=by decide
 refine⟨_,_,rfl,Xq Value.string 16 (Qi 4) _ w.heap.size _ ?_ ?_ ?_ (by decide) (by decide) (by decide),Xq (Value.int .i64) 8 (Il 4) _ (w.heap.size+1) _ ?_ ?_ ?_ (by decide) (by decide) (by decide),((iq _ _).alloc (gu _) _).alloc (by simp) _⟩
 ·simp;omega
 ·intro i hi
  rw[World.cell?_alloc_old _ _ _ (by simp),zu _ _ _ _ rfl]
  have hc:∀(i:Nat) (hi:i<(Qi 4).length),((Qi 4).map Value.string).toArray[i]?=some (.string (Qi 4)[i]):=by
   intro i hi;simp[hi]
  exact hc i hi
 ·exact fun x hx=>⟨rfl,by have:=hs x hx;unfold Len;omega⟩
 ·simp
 ·intro i hi
  rw[zu _ _ _ _ (by simp)]
  have hc:∀(i:Nat) (hi:i<(Il 4).length),((Il 4).map (Value.int .i64)).toArray[i]?=some (.int .i64 (Il 4)[i]):=by
   intro i hi;simp[hi]
  exact hc i hi
 ·exact fun x hx=>⟨rfl,by have:=ho x hx;unfold I64;omega⟩
theorem a4x (w:cu):Calls Tryz.prog 134 #[.int .i64 5] w fun e w'=>∃a b,e=.returned (.tuple #[a,b])/\jc 1 16 xk 0 w' a (Qi 5)/\jc 1 8 Jv 0 w' b (Il 5)/\Below w.heap.size w w':=by
 go_enter Tryz.func134,Tryz.ntmps134;go_wp2
 go_ret2
 have hs:∀x,x∈Qi 5->x.size<=3:=by decide
 have ho:∀x,x∈Il 5->0<=x/\x<=100:=by decide
 refine⟨_,_,rfl,Xq Value.string 16 (Qi 5) _ w.heap.size _ ?_ ?_ ?_ (by decide) (by decide) (by decide),Xq (Value.int .i64) 8 (Il 5) _ (w.heap.size+1) _ ?_ ?_ ?_ (by decide) (by decide) (by decide),((iq _ _).alloc (gu _) _).alloc (by simp) _⟩
 ·simp;omega
 ·intro i hi
  rw[World.cell?_alloc_old _ _ _ (by simp),zu _ _ _ _ rfl]
  have hc:∀(i:Nat) (hi:i<(Qi 5).length),((Qi 5).map Value.string).toArray[i]?=some (.string (Qi 5)[i]):=by
   intro i hi;simp[hi]
  exact hc i hi
 ·exact fun x hx=>⟨rfl,by have:=hs x hx;unfold Len;omega⟩
 ·simp
 ·intro i hi
  rw[zu _ _ _ _ (by simp)]
  have hc:∀(i:Nat) (hi:i<(Il 5).length),((Il 5).map (Value.int .i64)).toArray[i]?=some (.int .i64 (Il 5)[i]):=by
   intro i hi;simp[hi]
  exact hc i hi
 ·exact fun x hx=>⟨rfl,by have:=ho x hx;unfold I64;omega⟩
theorem ad4:∀k:Nat,1<=k->k<=5->Qi k=(Il k).map sgT
 | 0,h,_=>by omega
 | 1,_,_=>by decide
 | 2,_,_=>by decide
 | 3,_,_=>by decide
 | 4,_,_=>by decide
 | 5,_,_=>by decide
 | _+6,_,h=>by omega
theorem a4y:∀k:Nat,(Il k).length<=6
 | 0=>by decide
 | 1=>by decide
 | 2=>by decide
 | 3=>by decide
 | 4=>by decide
 | 5=>by decide
 | _+6=>by simp[Il]
theorem a03 (w:cu):∀k:Nat,1<=k->k<=5->Calls Tryz.prog 134 #[.int .i64 (k:Int)] w fun e w'=>∃a b,e=.returned (.tuple #[a,b])/\jc 1 16 xk 0 w' a ((Il k).map sgT)/\jc 1 8 Jv 0 w' b (Il k)/\Below w.heap.size w w'
 | 0,h,_=>by omega
 | 1,h1,h2=>by rw[←ad4 1 h1 h2];exact a4t w
 | 2,h1,h2=>by rw[←ad4 2 h1 h2];exact a4u w
 | 3,h1,h2=>by rw[←ad4 3 h1 h2];exact a4v w
 | 4,h1,h2=>by rw[←ad4 4 h1 h2];exact a4w w
 | 5,h1,h2=>by rw[←ad4 5 h1 h2];exact a4x w
 | _+6,_,h=>by omega
theorem a4z (op:Int) (h:∀j,1<=j->j<6->op∉Il j):sgT op=⟨#[]⟩:=by
 have h1:=h 1 (by omega) (by omega);have h2:=h 2 (by omega) (by omega);have h3:=h 3 (by omega) (by omega);have h4:=h 4 (by omega) (by omega);have h5:=h 5 (by omega) (by omega);simp only[Il,qj,xq,xu,not_or] at h1 h2 h3 h4 h5;unfold sgT;simp[h1,h2,h3,h4,h5]
theorem aw5 (op:Int) (w:cu):Calls Tryz.prog 107 #[.int .i64 op] w (Ans (.string (sgT op)) w):=by
 go_enter Tryz.func107,Tryz.ntmps107;go_wp2
 go_loopg [3] 5 (fun gh kk wr=>∃(k:Nat),1<=k/\k<=6/\gh=6-k/\kk=.int .i64 k/\Below w.heap.size w wr/\∀j,1<=j->j<k->op∉Il j)
 case atStart=>exact⟨1,by omega,by omega,by omega,rfl,iq _ _,fun j h1 h2=>by omega⟩
 case round =>
  obtain⟨k,hk1,hk,hg,rfl,hbl,hno⟩:=hrel;rename cu=>wN;have HG:=ak hg;have Bo:=ak hno;clear hg hno
  by_cases hlt:k<=5
  ·have HC:=ak (a03 wN k hk1 hlt)
   have hlen:=a4y k;go_wp2_with fail;refine(uh HC).mono ?_;rintro e w1 ⟨va,vb,rfl,hva,hvb,hb1⟩;obtain⟨a1,cp1,rfl,_,_,hx1⟩:=hva;obtain⟨a2,cp2,rfl,_,_,hx2⟩:=hvb;have Ag:=ak hx1;have F8:=ak hx2;have HB1:Hid (Below w.heap.size w w1):=hbl.trans (hb1.mono hbl.size);clear hx1 hx2 hb1;rw[zy];go_wp2
   go_loopg [6,18] (Il k).length (fun gh x1 i wr=>∃(m:Nat),m<=(Il k).length/\gh=(Il k).length-m/\i=.int .i64 m/\wr=w1/\∀j (h:j<(Il k).length),j<m->(Il k)[j]≠op)
   case atStart=>exact⟨0,jg _,by omega,rfl,rfl,fun j _ h=>absurd h (yu _)⟩
   case round =>
    obtain⟨m,hm,hg,rfl,rfl,hne⟩:=hrel;have HG2:=ak hg;have HNE:=ak hne;clear hg hne
    by_cases hml:m<(Il k).length
    ·obtain⟨b2,o2,cs2,rfl,_,hb2,hcs2,hc2,hR2⟩:=uh F8 m hml
     obtain⟨rfl,hi2⟩:=hR2;have c0:=hc2 0 (by simp);simp only[jr,ji,og,ou] at c0;obtain⟨b1,o1,cs1,rfl,_,hb1,hcs1,hc1,hR1⟩:=uh Ag m (by rw[zy];exact hml);obtain⟨rfl,hi1⟩:=hR1;have d0:=hc1 0 (by simp);simp only[jr,ji,og,ou,List.getElem_map] at d0;clear hc1 hc2 hcs1 hcs2
     by_cases heq:(Il k)[m]=op
     ·rw[heq] at c0 d0
      go_wp2;go_ret;exact⟨rfl,uh HB1⟩
     ·have HA':Hid (∀j (h:j<(Il k).length),j<m+1->(Il k)[j]≠op):=by
       intro j h h1
       by_cases e:j=m
       ·subst e;exact heq
       ·exact uh HNE j h (by omega)
      go_wp2
      go_roundg ((Il k).length-(m+1))
      case measure=>have:=uh HG2;omega
      case rel=>exact⟨m+1,by omega,rfl,by go_num,rfl,uh HA'⟩
    ·have Zp:Hid (∀j,1<=j->j<k+1->op∉Il j):=by
      intro j h1 h2
      by_cases e:j=k
      ·subst e
       intro hmem;obtain⟨i,hi,hh⟩:=List.getElem_of_mem hmem;exact uh HNE i hi (by omega) hh
      ·exact uh Bo j h1 (by omega)
     go_wp2
     go_roundg (6-(k+1))
     case measure=>have:=uh HG;omega
     case rel=>exact⟨k+1,by omega,by omega,rfl,by go_num,uh HB1,uh Zp⟩
  ·have HS:=ak (a4z op (fun j h1 h2=>uh Bo j h1 (by omega)))
   go_wp2;go_ret;exact⟨Bg (uh HS).symm,hbl⟩
theorem al8 (t:l9) (w:cu) (h:ac1 t) (hn:t.name.size<=1048576) :
  Calls Tryz.prog 79 #[.agg #[.int .i64 t.op,.int .i64 t.val,.string t.name]] w (Ans (.string (partT t)) w):=by
 have hA:Below w.heap.size w (w.alloc (.cells #[.int .i64 t.op,.int .i64 t.val,.string t.name] 83)):=(iq _ _).alloc (gu _) _;have hnum:=h.num;have HA:=ak hA;clear h hA;obtain⟨op,val,name⟩:=t;simp only at *;unfold Oe at hnum;have ao3:=ak hnum;clear hnum
 by_cases h1:op=1
 ·have HP:Hid (partT ⟨op,val,name⟩=qo val):=by
   refine ak ?_;unfold partT;simp[h1]
  generalize partT ⟨op,val,name⟩=pt at *;subst h1;have hv:=uh ao3 (by omega);have HC:=ak (ab2 val hv (w.alloc (.cells #[.int .i64 1,.int .i64 val,.string name] 83)));have hz:=Qh val hv;generalize qo val=dv at *;go_enter Tryz.func79,Tryz.ntmps79;go_wp2_with fail;refine(uh HC).mono ?_;rintro e w1 ⟨rfl,hb1⟩;have HB:=ak ((uh HA).trans (hb1.mono (uh HA).size));clear hb1;go_wp2;go_ret;exact⟨Bg (uh HP).symm,uh HB⟩
 by_cases h2:op=2
 ·have HP:Hid (partT ⟨op,val,name⟩=flT val):=by
   refine ak ?_;unfold partT;simp[h2]
  generalize partT ⟨op,val,name⟩=pt at *;subst h2;have HC:=ak (aw3 val (w.alloc (.cells #[.int .i64 2,.int .i64 val,.string name] 83)));generalize flT val=dv at *;go_enter Tryz.func79,Tryz.ntmps79;go_wp2_with fail;refine(uh HC).mono ?_;rintro e w1 ⟨rfl,rfl⟩;go_wp2;go_ret;exact⟨Bg (uh HP).symm,uh HA⟩
 by_cases h3:op=3
 ·have HP:Hid (partT ⟨op,val,name⟩=Zf++name):=by
   refine ak ?_;unfold partT;simp[h3]
  generalize partT ⟨op,val,name⟩=pt at *;subst h3;go_enter Tryz.func79,Tryz.ntmps79;go_wp2;go_ret;exact⟨Bg (uh HP).symm,uh HA⟩
 by_cases Rt:op=25
 ·have HP:Hid (partT ⟨op,val,name⟩=Wat++qo val):=by
   refine ak ?_;unfold partT;simp[Rt]
  generalize partT ⟨op,val,name⟩=pt at *;subst Rt;have hv:=uh ao3 (by omega);have HC:=ak (ab2 val hv (w.alloc (.cells #[.int .i64 25,.int .i64 val,.string name] 83)));have hz:=Qh val hv;generalize qo val=dv at *;go_enter Tryz.func79,Tryz.ntmps79;go_wp2_with fail;refine(uh HC).mono ?_;rintro e w1 ⟨rfl,hb1⟩;have HB:=ak ((uh HA).trans (hb1.mono (uh HA).size));clear hb1;go_wp2;go_ret;exact⟨Bg (uh HP).symm,uh HB⟩
 by_cases h4:op=4
 ·have HP:Hid (partT ⟨op,val,name⟩=ac8):=by
   refine ak ?_;unfold partT;simp[h4]
  generalize partT ⟨op,val,name⟩=pt at *;subst h4;go_enter Tryz.func79,Tryz.ntmps79;go_wp2;go_ret;exact⟨Bg (uh HP).symm,uh HA⟩
 by_cases h5:op=5
 ·have HP:Hid (partT ⟨op,val,name⟩=ac9):=by
   refine ak ?_;unfold partT;simp[h5]
  generalize partT ⟨op,val,name⟩=pt at *;subst h5;go_enter Tryz.func79,Tryz.ntmps79;go_wp2;go_ret;exact⟨Bg (uh HP).symm,uh HA⟩
 by_cases h20:op=20
 ·have HP:Hid (partT ⟨op,val,name⟩=Wq):=by
   refine ak ?_;unfold partT;simp[h20]
  generalize partT ⟨op,val,name⟩=pt at *;subst h20;go_enter Tryz.func79,Tryz.ntmps79;go_wp2;go_ret;exact⟨Bg (uh HP).symm,uh HA⟩
 have HP:Hid (partT ⟨op,val,name⟩=sgT op):=by
  refine ak ?_;unfold partT;simp[h1,h2,h3,Rt,h4,h5,h20]
 have HC:=ak (aw5 op (w.alloc (.cells #[.int .i64 op,.int .i64 val,.string name] 83)));generalize partT ⟨op,val,name⟩=pt at *;generalize sgT op=sg at *;go_enter Tryz.func79,Tryz.ntmps79;go_wp2_with fail;refine(uh HC).mono ?_;rintro e w1 ⟨rfl,hb1⟩;have HB:=ak ((uh HA).trans (hb1.mono (uh HA).size));clear hb1;go_wp2;go_ret;exact⟨Bg (uh HP).symm,uh HB⟩
theorem al9 (t:Int) (w:cu):Calls Tryz.prog 24 #[.int .i64 t] w fun e w'=>e=.returned (.string (Bf t))/\w'=w:=by
 go_enter Tryz.func24,Tryz.ntmps24;go_wp2
 all_goals
  go_ret;refine⟨Bg ?_,rfl⟩
  simp_all [Bf,Z9,ae3]
structure aen (c:List l9):Prop where
 pt:∀t,t∈c->ac1 t
 nm:∀t,t∈c->t.name.size<=1048576
 len:c.length<=6000
 sz:pz Gh c<=1048576
theorem ada {c:List l9} (h:aen c):∀x,x∈tu c->x.size<=2000000:=fun x hx=>by
 unfold tu at hx;obtain⟨t,ht,rfl⟩:=List.mem_map.1 hx;have h1:=aoz t (h.pt t ht);have h2:=h.nm t ht;omega
theorem at6 (c:List l9) (q:Nat) (hq:q<c.length):tu (c.take (q+1))=tu (c.take q)++[partT c[q]]:=by
 unfold tu;rw[Eu hq,Ig];rfl
theorem Vw (c:List l9):(tu c).length=c.length:=by simp[tu]
theorem ama (c:List l9) (v:Value) (w:cu) (hv:jc 3 32 Gg 0 w v c) (hc:aen c) :
  Calls Tryz.prog 55 #[v] w (Ans (.string (He c)) w):=by
 have Vo:=ak hc;have hl:=hc.len;have HV:=ak hv;obtain⟨a,cap,rfl,_,_,hx⟩:=hv;have HX:=ak hx;have HO:=ak (jq.start (E:=ny) w w.heap.size (gu _));have HB0:=ak ((iq w.heap.size w).alloc (gu _) (.cells #[] 9));have HCT:Hid (Fb Lsp (tu c)=He c):=rfl;generalize He c=ct at *;clear hx hc;go_enter Tryz.func55,Tryz.ntmps55;go_wp2
 go_loopg [3,9] c.length (fun gh st ix wr=>∃(q:Nat) (sv:Value),q<=c.length/\gh=c.length-q/\ix=.int .i64 q/\st=sv/\Hid (jq ny wr w.heap.size sv (tu (c.take q)))/\Hid (Below w.heap.size w wr))
 case atStart=>exact⟨0,_,jg _,by omega,rfl,rfl,HO,HB0⟩
 case round =>
  obtain⟨q,_,hq,hg,rfl,rfl,HOW,Bc⟩:=hrel;have HG:=ak hg;clear hg;have hws:=(uh Bc).size
  by_cases hlt:q<c.length
  ·obtain⟨b,o,cs,rfl,_,hb,hcs,hc,hR⟩:=uh HX q hlt
   have hc:∀j (hj:j<cs.length),wr.cell? ⟨b,o+q*3+j,none⟩=some cs[j]:=fun j hj=>by rw[(uh Bc).cell (p:=⟨b,_,none⟩) hb];exact hc j hj
   obtain⟨rfl,hsn,ho,hv⟩:=hR;have c0:=hc 0 (by simp);have c1:=hc 1 (by simp);have c2:=hc 2 (by simp);simp only[jr,ji,og,ou] at c0 c1 c2;have Kq:(q:Int)<(c.length:Int):=by omega
   have HC:=ak (al8 c[q] (wr.alloc (.cells #[.int .i64 c[q].op,.int .i64 c[q].val,.string c[q].name] 83)) ((uh Vo).pt _ (o7 hlt)) ((uh Vo).nm _ (o7 hlt)));have HT:=ak (at6 c q hlt)
   have Ho:Hid ((tu (c.take q)).length=q):=by
    refine ak ?_;rw[Vw,Nk];omega
   have P1:=ak ((iq wr.heap.size wr).alloc (gu _) (.cells #[.int .i64 c[q].op,.int .i64 c[q].val,.string c[q].name] 83));clear hc hcs hsn ho hv;generalize partT c[q]=pt at *;generalize c[q]=it at *;obtain⟨op,val,name⟩:=it;simp only at *;generalize tu (c.take q)=pre at *;go_wp2_with fail;refine(uh HC).mono ?_;rintro e w1 ⟨rfl,hb1⟩;have Q1:Hid (Below wr.heap.size wr w1):=(uh P1).trans (hb1.mono (uh P1).size);have Q2:Hid (Below wr.heap.size wr (w1.alloc (.cells #[.string pt] 9))):=(uh Q1).alloc (uh Q1).size _;have Ua:=ak ((uh HOW).below (uh Q2));have HB1:=ak ((uh Bc).trans ((uh Q2).mono hws));have hs1:=(uh Q1).size;clear hb1;go_wp2_with (at_builtin;go_must (refine Am ny _ rfl _ _ rfl w.heap.size _ pre rfl (uh Ua) w1.heap.size pt rfl (fun j u hu=>by rw[zu _ _ _ _ rfl];simpa[ny] using hu) (by have:=uh Ho;simp[ny];omega) (by simp;omega) ?_));intro v2 w2 hown2 Kt;have HB2:=ak ((uh Ua).grown (uh HB1) Kt (by simp;omega) (gu _));rw[←uh HT] at hown2;have Oh:=ak hown2;clear hown2 Kt;go_wp2
   go_roundg (c.length-(q+1))
   case measure=>have:=uh HG;omega
   case rel=>exact⟨q+1,v2,by omega,rfl,by go_num,rfl,Oh,HB2⟩
  ·have e:q=c.length:=by omega
   have HS:Hid (jc 1 16 xk 0 wr u3 (tu c)):=by
    refine ak ?_;have h8:=uh HOW;rw[e,Dw] at h8;exact h8.at (R:=xk) (fun x hx=>⟨rfl,by have:=ada (uh Vo) x hx;unfold Len;omega⟩) (by rw[Vw];simp[ny];omega)
   have HJ:=ak (agh Lsp (tu c) u3 wr (uh HS) (by decide) (fun x hx=>by have:=ada (uh Vo) x hx;omega) (by rw[Vw];omega));rw[uh HCT] at HJ;clear e;go_wp2_with fail;refine(uh HJ).mono ?_;rintro e w1 ⟨rfl,rfl⟩;go_wp2;go_ret;exact⟨rfl,uh Bc⟩
theorem amb (l:List UInt8) (i:Nat) (hi:i<l.length):Ro (l.take (i+1))=if Vx l[i]=true/\Ro (l.take i)<=2147483647 then Ro (l.take i)*10+(l[i].toNat-48) else Ro (l.take i):=by
 rw[Eu hi,agi]
theorem ard (l:List UInt8) (i:Nat):Ro (l.take i)<=21474836479:=by
 induction i with
 | zero=>simp[Ro]
 | succ i ih =>
  by_cases hi:i<l.length
  ·rw[amb l i hi]
   split
   ·rename_i h
    have h9:=xw h.1;omega
   ·exact ih
  ·rw[P8 (by omega)]
   rw[P8 (by omega)] at ih;exact ih
theorem a04 (b:UInt8):Ko ((b.toNat:Nat):Int)=Vx b:=by
 unfold Ko Vx;rw[decide_eq_decide];omega
theorem arf (s:dh) (h:0<s.size):(bL s).head?=some (s[0]):=by
 have e:=ajz s 0 h;rw[←e];rw[List.head?_eq_getElem?];exact jy _
theorem ais (s:dh) (h:s.size=0):bL s=[]:=Sj (by rw[Ep];exact h)
theorem aae (s:dh) (w:cu) (hs:s.size<=1048576):Calls Tryz.prog 21 #[.string s] w (fun e w'=>e=.returned (.int .i64 (Bd s))/\w'=w):=by
 obtain⟨PO,Gn⟩:∃PO:Ending->cu->Prop,PO=((fun e w'=>e=.returned (.int .i64 (Bd s))/\w'=w)):=⟨_,rfl⟩;rw[←Gn];have Dc:=ak Gn;clear Gn;go_enter Tryz.func21,Tryz.ntmps21;go_wp2
 go_loopg [3,4] s.size (fun gh nv ix wr=>∃(i N:Nat),i<=s.size/\gh=s.size-i/\nv=.int .i64 (N:Int)/\ix=.int .i64 i/\Hid (N=Ro ((bL s).take i))/\N<=21474836479/\wr=w)
 case atStart=>exact⟨0,0,jg _,by omega,rfl,rfl,ak rfl,by omega,rfl⟩
 case round =>
  obtain⟨i,N,hi,hg,rfl,rfl,HN,hNb,Qe⟩:=hrel;obtain rfl:=Qe.symm;have HG:=ak hg;clear hg
  by_cases hlt:i<s.size
  ·have hbd:=aal s[i]
   have Kq:(i:Int)<(s.size:Int):=by omega
   have hgi:=ajz s i hlt;have hst:=amb (bL s) i (by rw[Ep];exact hlt);rw[hgi,←uh HN] at hst;have hbn:=ard (bL s) (i+1);have hds:=a04 s[i]
   cases hd:Vx s[i]
   ·rw[hd,bf (by simp)] at hst
    have Oc:=ak hst.symm;rw[hd] at hds;clear hst hbn hgi hd;go_wp2_with fail;refine(Ug _ _ (by omega) (by omega)).mono ?_;rintro e w' ⟨rfl,rfl⟩;rw[hds];go_wp2
    go_roundg (s.size-(i+1))
    case measure=>have:=uh HG;omega
    case rel=>exact⟨i+1,N,by omega,rfl,rfl,by go_num,Oc,hNb,rfl⟩
   ·have hdb:=xw hd
    rw[hd] at hds
    by_cases hm:N<=2147483647
    ·rw[gy ⟨hd,hm⟩] at hst
     have Oc:=ak hst.symm;have hmI:decide ((N:Int)<=2147483647)=true:=jf (by omega);have hwu:IntKind.u8.wrap (((s[i].toNat:Nat):Int)-48)=((s[i].toNat-48:Nat):Int):=by rw[IntKind.wrap_u8];omega
     have hNN:N*10+(s[i].toNat-48)<=21474836479:=by omega
     clear hst hbn hgi hd;go_wp2_with fail;refine(Ug _ _ (by omega) (by omega)).mono ?_;rintro e w' ⟨rfl,rfl⟩;rw[hds];go_wp2
     go_roundg (s.size-(i+1))
     case measure=>have:=uh HG;omega
     case rel=>exact⟨i+1,N*10+(s[i].toNat-48),by omega,rfl,by go_num,by go_num,Oc,hNN,rfl⟩
    ·rw[bf (fun h9=>hm h9.2)] at hst
     have Oc:=ak hst.symm;have hmI:decide ((N:Int)<=2147483647)=false:=iy (by omega);clear hst hbn hgi hd;go_wp2_with fail;refine(Ug _ _ (by omega) (by omega)).mono ?_;rintro e w' ⟨rfl,rfl⟩;rw[hds];go_wp2
     go_roundg (s.size-(i+1))
     case measure=>have:=uh HG;omega
     case rel=>exact⟨i+1,N,by omega,rfl,rfl,by go_num,Oc,hNb,rfl⟩
  ·have Kq:¬(i:Int)<(s.size:Int):=by omega
   have hNe:N=Ro (bL s):=by
    rw[uh HN,P8 (by rw[Ep];omega)]
   by_cases h0:s.size=0
   ·have HR:Hid (Bd s=(N:Int)):=ak (by unfold Bd;rw[ais s h0,hNe,ais s h0];rfl)
    have HF:Hid (PO (.returned (.int .i64 (N:Int))) w):=ak (by rw[uh Dc];exact⟨by rw[uh HR],rfl⟩);have q0:decide ((0:Int)<(s.size:Int))=false:=iy (by omega);have q1:¬(0:Int)<(s.size:Int):=by omega
    clear hNe;go_wp2;exact uh HF
   ·have q0:decide ((0:Int)<(s.size:Int))=true:=jf (by omega)
    have q1:(0:Int)<(s.size:Int):=by omega
    have hp:0<s.size:=by omega
    have hh:=arf s hp;have hbd:=aal s[0]
    by_cases h45:s[0]=45
    ·have HR:Hid (Bd s = -(N:Int)):=ak (by unfold Bd;rw[hh,h45,gy rfl,hNe])
     have HF:Hid (PO (.returned (.int .i64 (-(N:Int)))) w):=ak (by rw[uh Dc];exact⟨by rw[uh HR],rfl⟩);have q2:(((s[0].toNat:Nat):Int)==45)=true:=by rw[h45];rfl
     have q3:IntKind.i64.wrap (-(N:Int)) = -(N:Int):=by rw[Qw];omega
     clear hNe hh h45;go_wp2;exact uh HF
    ·have HR:Hid (Bd s=(N:Int)):=ak (by unfold Bd;rw[hh,bf (fun h9=>h45 (Gv h9)),hNe])
     have HF:Hid (PO (.returned (.int .i64 (N:Int))) w):=ak (by rw[uh Dc];exact⟨by rw[uh HR],rfl⟩)
     have q2:(((s[0].toNat:Nat):Int)==45)=false:=by
      rw[su];intro h9;exact h45 (UInt8.toNat_inj.1 (by rw[show (45:UInt8).toNat=45 from rfl];omega))
     clear hNe hh h45;go_wp2;exact uh HF
open Go.Maps (Keyed IsMap)
def ae5 (v:Value):Option (DataW Value×List MemPlace):=some (.held v,[])
def Tq (P:Program) (k:TypeId) (z:Value) (w:cu) (b n:Nat) (f:dh->Value):Prop :=
 ∃D,w.ownsMap P k ae5 b n D/\∀s:dh,D.atKey (.string s.data.toList) (.held z)=.held (f s)
variable {P:Program} {k:TypeId} {z:Value} {w:cu} {b n:Nat} {f:dh->Value}
theorem Tq.made (w:cu):Tq P k z (w.alloc (.map #[] 0)) w.heap.size 0 (fun _=>z) :=
 ⟨.map [],World.ownsMap_made w P k ae5,fun s=>rfl⟩
theorem Tq.lt (h:Tq P k z w b n f):b<w.heap.size:=by
 obtain⟨D,h,_⟩:=h;exact h.lt
theorem Tq.an5 (h:Tq P k z w b n f) (j:Nat):w.cell? ⟨b,j,none⟩=none:=by
 obtain⟨D,⟨es,clock,h1,_⟩,_⟩:=h;simp[World.cell?,h1]
theorem Tq.block {w':cu} (h:Tq P k z w b n f) (hb:w'.heap[b]?=w.heap[b]?):Tq P k z w' b n f:=by
 obtain⟨D,⟨es,clock,h1,h2,h3,h4⟩,h5⟩:=h;exact⟨D,⟨es,clock,hb.trans h1,h2,h3,h4⟩,h5⟩
theorem Tq.below {w':cu} (h:Tq P k z w b n f) (hb:Below w.heap.size w w'):Tq P k z w' b n f:=h.block (hb.block b h.lt)
theorem Tq.look {t e:TypeId} (h:Tq P k z w b n f) (hk:P.underlying k=some .string) (ht:P.underlying t=some (.map k e)) (hz:(zeroValue e).run P w=.ok z w) {s:dh} (hs:s.size<=maxLen) :
  (Instr.lookup t (.map (some b)) (.string s) false).run P w=.ok (f s) w:=by
 obtain⟨D,h,h5⟩:=h;obtain⟨v,ps,hrun,hv⟩:=h.lookup (Maps.string_keyed hk) ht hz (zd:=.held z) (zp:=[]) rfl (WideMaps.keyOf_string_mk hk hs);rw[h5 s] at hv;unfold ae5 at hv;simp only[uw,Prod.mk.injEq,DataW.held.injEq] at hv;rw[hrun,hv.1]
theorem bytes_eq {s x:dh} (h:s.data.toList=x.data.toList):s=x:=by
 cases s;cases x;simp only[ByteArray.mk.injEq];exact Array.toList_inj.1 h
theorem Tq.store {t e:TypeId} (h:Tq P k z w b n f) (hk:P.underlying k=some .string) (ht:P.underlying t=some (.map k e)) (hn:n<maxLen) {s:dh} (hs:s.size<=maxLen) (v:Value) :
  ∃w' f',(Instr.mapUpdate t (.map (some b)) (.string s) v).run P w=.ok () w'/\Tq P k z w' b (n+1) f'/\f' s=v/\(∀x,x≠s->f' x=f x)/\w.grownBy w' (some b):=by
 obtain⟨D,h,h5⟩:=h;obtain⟨w',hrun,ho,hg⟩:=h.update (Maps.string_keyed hk) ht hn (WideMaps.keyOf_string_mk hk hs) (val:=v) (d:=.held v) (ps:=[]) rfl;refine⟨w',fun x=>if x.data.toList=s.data.toList then v else f x,hrun,⟨_,ho,fun x=>?_⟩,?_,fun x hx=>?_,hg⟩
 ·by_cases hx:x.data.toList=s.data.toList
  ·show _=DataW.held (if _ then _ else _)
   rw[gy hx,hx];exact Maps.atKey_put_same h.isMap ((Maps.string_keyed hk).key (WideMaps.keyOf_string_mk hk hs)) _ _
  ·show _=DataW.held (if _ then _ else _)
   rw[bf hx,Maps.atKey_put_other (by simpa using hx)];exact h5 x
 ·simp
 ·exact bf (fun h=>hx (bytes_eq h))
def ae6 (s:dh):Lit:=.string s.data.toList
def Jk (P:Program) (k:TypeId) (w:cu) (b n:Nat) (f:dh->Option Value):Prop :=
 ∃D,w.ownsMap P k ae5 b n D/\Maps.size D=n/\(∀s v,f s=some v->∀z,D.atKey (ae6 s) z=.held v)/\(∀s,f s=none->∀z,D.atKey (ae6 s) z=z)
variable {P:Program} {k:TypeId} {w:cu} {b n:Nat} {f:dh->Option Value}
theorem Jk.made (w:cu):Jk P k (w.alloc (.map #[] 0)) w.heap.size 0 (fun _=>none) :=
 ⟨.map [],World.ownsMap_made w P k ae5,rfl,fun s v h=>by (cases h),fun s _ z=>rfl⟩
theorem Jk.lt (h:Jk P k w b n f):b<w.heap.size:=by
 obtain⟨D,h,_⟩:=h;exact h.lt
theorem Jk.an5 (h:Jk P k w b n f) (j:Nat):w.cell? ⟨b,j,none⟩=none:=by
 obtain⟨D,⟨es,clock,h1,_⟩,_⟩:=h;simp[World.cell?,h1]
theorem Jk.block {w':cu} (h:Jk P k w b n f) (hb:w'.heap[b]?=w.heap[b]?):Jk P k w' b n f:=by
 obtain⟨D,⟨es,clock,h1,h2,h3,h4⟩,h5⟩:=h;exact⟨D,⟨es,clock,hb.trans h1,h2,h3,h4⟩,h5⟩
theorem Jk.below {B:Nat} {w':cu} (h:Jk P k w b n f) (hb:Below B w w') (hB:b<B):Jk P k w' b n f:=h.block (hb.block b hB)
theorem Jk.len {t e:TypeId} (h:Jk P k w b n f) (ht:P.underlying t=some (.map k e)) (ty:TypeId):(Builtin.len_ #[t] ty #[.map (some b)]).run P w=.ok (.int .i64 (n:Int)) w:=by
 obtain⟨D,h,hs,_⟩:=h;have:=h.len ht ty;rwa[hs] at this
theorem Jk.hit {t e:TypeId} (h:Jk P k w b n f) (hk:P.underlying k=some .string) (ht:P.underlying t=some (.map k e)) {z:Value} (hz:(zeroValue e).run P w=.ok z w) {s:dh} (hs:s.size<=maxLen) {v:Value} (hv:f s=some v) :
  (Instr.lookup t (.map (some b)) (.string s) true).run P w=.ok (.tuple #[v,.bool true]) w:=by
 obtain⟨D,h,_,h4,h5⟩:=h;obtain⟨v',ps,hrun,hv'⟩:=h.look_ok (Maps.string_keyed hk) ht hz (zd:=.held z) (zp:=[]) rfl (WideMaps.keyOf_string_mk hk hs);have e1:=h4 s v hv;unfold ae6 at e1;rw[e1] at hv';unfold ae5 at hv';simp only[uw,Prod.mk.injEq,DataW.held.injEq] at hv';rw[hrun,Maps.has_true_of_atKey e1,hv'.1]
theorem Jk.miss {t e:TypeId} (h:Jk P k w b n f) (hk:P.underlying k=some .string) (ht:P.underlying t=some (.map k e)) {z:Value} (hz:(zeroValue e).run P w=.ok z w) {s:dh} (hs:s.size<=maxLen) (hv:f s=none) :
  (Instr.lookup t (.map (some b)) (.string s) true).run P w=.ok (.tuple #[z,.bool false]) w:=by
 obtain⟨D,h,_,h4,h5⟩:=h;obtain⟨v',ps,hrun,hv'⟩:=h.look_ok (Maps.string_keyed hk) ht hz (zd:=.held z) (zp:=[]) rfl (WideMaps.keyOf_string_mk hk hs);have e1:=h5 s hv;unfold ae6 at e1;rw[e1] at hv';unfold ae5 at hv';simp only[uw,Prod.mk.injEq,DataW.held.injEq] at hv';rw[hrun,Maps.has_false_of_atKey e1,hv'.1]
theorem Jk.look {t e:TypeId} (h:Jk P k w b n f) (hk:P.underlying k=some .string) (ht:P.underlying t=some (.map k e)) {z:Value} (hz:(zeroValue e).run P w=.ok z w) {s:dh} (hs:s.size<=maxLen) :
  (Instr.lookup t (.map (some b)) (.string s) false).run P w=.ok ((f s).getD z) w:=by
 obtain⟨D,h,_,h4,h5⟩:=h;obtain⟨v',ps,hrun,hv'⟩:=h.lookup (Maps.string_keyed hk) ht hz (zd:=.held z) (zp:=[]) rfl (WideMaps.keyOf_string_mk hk hs)
 cases hf:f s with
 | none =>
  have e1:=h5 s hf;unfold ae6 at e1;rw[e1] at hv';unfold ae5 at hv';simp only[uw,Prod.mk.injEq,DataW.held.injEq] at hv';rw[hrun,hv'.1];rfl
 | some v =>
  have e1:=h4 s v hf;unfold ae6 at e1;rw[e1] at hv';unfold ae5 at hv';simp only[uw,Prod.mk.injEq,DataW.held.injEq] at hv';rw[hrun,hv'.1];rfl
theorem ao4 {H:Type} {D:DataW H} {kl:Lit} (hD:IsMap D) (h:Maps.has D kl=false) (d:DataW H):Maps.size (D.put kl d)=Maps.size D+1:=by
 obtain⟨es,rfl⟩:=hD;rw[DataW.put_eq];show (ChangeMaps.putKey kl d es).length=es.length+1;unfold ChangeMaps.putKey;rw[DataW.length_insert]
 have:es.filter (ChangeMaps.notKey kl)=es:=by
  rw[List.filter_eq_self];intro p hp;rw[Maps.has_eq] at h;have:=List.any_eq_false.1 h p hp;unfold ChangeMaps.notKey;simpa using this
 rw[this]
theorem Jk.store {t e:TypeId} (h:Jk P k w b n f) (hk:P.underlying k=some .string) (ht:P.underlying t=some (.map k e)) (hn:n<maxLen) {s:dh} (hs:s.size<=maxLen) (hf:f s=none) (v:Value) :
  ∃w',(Instr.mapUpdate t (.map (some b)) (.string s) v).run P w=.ok () w'/\(∀g:dh->Option Value,g s=some v->(∀x,x≠s->g x=f x)->Jk P k w' b (n+1) g)/\w.grownBy w' (some b):=by
 obtain⟨D,h,hsz,h4,h5⟩:=h;obtain⟨w',hrun,ho,hg⟩:=h.update (Maps.string_keyed hk) ht hn (WideMaps.keyOf_string_mk hk hs) (val:=v) (d:=.held v) (ps:=[]) rfl;have hkey:=(Maps.string_keyed hk).key (WideMaps.keyOf_string_mk hk hs)
 have hne:∀x:dh,x≠s->ae6 x≠.string s.data.toList:=fun x hx e=>by
  unfold ae6 at e;simp only[Lit.string.injEq] at e;exact hx (bytes_eq e)
 refine⟨w',hrun,fun g hgs hgo=>⟨_,ho,by have e9:=ao4 h.isMap (Maps.has_false_of_atKey (h5 s hf)) (.held v);unfold ae6 at e9;rw[e9,hsz],fun x u hx z=>?_,fun x hx z=>?_⟩,hg⟩
 ·by_cases e:x=s
  ·subst e
   rw[hgs] at hx;simp only[uw] at hx;subst hx;exact Maps.atKey_put_same h.isMap hkey _ _
  ·rw[Maps.atKey_put_other (hne x e)]
   rw[hgo x e] at hx;exact h4 x u hx z
 ·have e:x≠s:=fun e=>by
   subst e;rw[hgs] at hx
   cases hx
  rw[Maps.atKey_put_other (hne x e)];rw[hgo x e] at hx;exact h5 x hx z
end Go.Proofs.YtfeejeflmcapoaaGreatDoor
