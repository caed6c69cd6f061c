import Derived.Test.YtfeejeflmcapoaaGreatDoorData
import Derived.Test.YtfeejeflmcapoaaGreatDoorImplFresh
import Derived.Test.YtfeejeflmcapoaaGreatDoorPS1
import Derived.Test.YtfeejeflmcapoaaGreatDoorPM0
import Derived.BigRegion
import Derived.Deep.QuietTactic
import Derived.BigQuiet
set_option linter.unusedSimpArgs false
set_option linter.unusedVariables false
set_option maxHeartbeats 1000000
namespace Go.Proofs.YtfeejeflmcapoaaGreatDoor
open Go.RowKit
theorem iy.Oe {α:Type} {sz qy lo:Nat} {R:Nat->bf->List Value->α->Prop} {w:bf} {v:Value} {xs:List α} (h:iy sz qy R lo w v xs):xs.length<=140737488355328:=by
 obtain⟨_,_,_,_,h,_⟩:=h;exact h
def alr (cs:List Value):Value:=.agg cs.toArray
def ana (cs:List Value):Value:=cs.headD (.bool false)
theorem ar7 (pb:Nat) (I:Nat->bf->Prop) (J:bf->Prop) (q:Nat->Bool) (xs:List jw) (v:Value) (w:bf) (hS:∀k wr,I k wr->iy 2 24 Oy 0 wr v xs) (hI:∀k w1 w2,I k w1->Below w1.heap.size w1 w2->I k w2)
  (hf:∀k (hk:k<xs.length) cs wr,I k wr->Oy 0 wr cs xs[k]->Calls Tryz.prog 145 #[.pointer (some ⟨pb,0,none⟩),alr cs] wr fun e w'=>e=.returned (.bool (q k))∧(q k=true->I (k+1) w')∧(q k=false->J w')) (h0:I 0 w) :
  Calls Tryz.prog 144 #[v,.func (.func 145) #[.pointer (some ⟨pb,0,none⟩)] #[]] w fun e w'=>e=.returned (.bool ((List.range xs.length).all q))∧((List.range xs.length).all q=true->I xs.length w')∧((List.range xs.length).all q=false->J w'):=by
 obtain⟨a,cap,rfl⟩:=(hS 0 w h0).shape;have hn:=(hS 0 w h0).Oe;have HS:=hide hS;have HI:=hide hI;have Si:=hide hf;have H0:=hide h0;clear hS hI hf h0;go_enter Tryz.func144,Tryz.ntmps144;go_wp2
 go_loopg [6,9] xs.length (fun g x i wr=>∃(k:Nat),k<=xs.length∧g=xs.length-k∧i=.int .i64 k∧I k wr∧∀j,j<k->q j=true)
 case atStart=>exact⟨0,jg _,by omega,rfl,uh H0,fun j h=>absurd h (yt _)⟩
 case round =>
  obtain⟨k,hk,hg,rfl,hbl,hall⟩:=hrel;have HG:=hide hg;have HA:=hide hall;have Ah:=hide hbl;clear hg hall hbl
  by_cases hlt:k<xs.length
  ·obtain⟨_,_,Jb,_,_,F5⟩:=uh HS k wr (uh Ah)
   simp only[qw] at Jb;obtain⟨rfl,_,rfl⟩:=Jb;obtain⟨b,o,cs,rfl,_,hb,hcs,hc,hR⟩:=F5 k hlt;clear F5;have hcall:=fun ob=>uh Si k hlt cs (wr.alloc ob) (uh HI k wr _ (uh Ah) ((gy _ _).alloc (gq _) ob)) (Ip.stays _ _ _ _ _ ((gy _ _).alloc (gq _) ob) hR)
   obtain⟨rfl,hsn,ht⟩:=hR;have c0:=hc 0 (by simp);have c1:=hc 1 (by simp);simp only[jr,jh,ny,o8] at c0 c1;simp only[alr,List.headD_cons] at hcall;have HC:=hide hcall;clear hc hcs hcall
   cases hp:q k
   ·have HF:Hid ((List.range xs.length).all q=false):=by
     refine hide ?_;rw[List.all_eq_false];exact⟨k,uw.2 hlt,by rw[hp];decide⟩
    go_wp2_with fail;refine(uh HC _).mono ?_;rintro e w1 ⟨rfl,-,hb1⟩;have HB1:=hide (hb1 hp);rw[hp];clear hb1;go_wp2;go_ret;exact⟨zu (uh HF).symm,fun h=>absurd h (by rw[uh HF];decide),fun _=>uh HB1⟩
   ·have A':∀j,j<k+1->q j=true:=by
     intro j h1
     by_cases e:j=k
     ·subst e;exact hp
     ·exact uh HA j (by omega)
    have HA':=hide A';clear A';go_wp2_with fail;refine(uh HC _).mono ?_;rintro e w1 ⟨rfl,hb1,-⟩;have HB1:=hide (hb1 hp);rw[hp];clear hb1;go_wp2
    go_roundg (xs.length-(k+1))
    case measure=>have:=uh HG;omega
    case rel=>exact⟨k+1,by omega,rfl,by go_num,uh HB1,uh HA'⟩
  ·have e:k=xs.length:=by omega
   have HT:Hid ((List.range xs.length).all q=true):=by
    refine hide ?_;rw[xw];intro x hx;exact uh HA x (by have:=uw.1 hx;omega)
   have HE:=hide (e▸uh Ah);go_wp2;go_ret;exact⟨zu (uh HT).symm,fun _=>uh HE,fun h=>absurd h (by rw[uh HT];decide)⟩
theorem ar8 (pb:Nat) (I:Nat->bf->Prop) (J:bf->Prop) (q:Nat->Bool) (xs:List dh) (v:Value) (w:bf) (hS:∀k wr,I k wr->iy 1 16 wz 0 wr v xs) (hI:∀k w1 w2,I k w1->Below w1.heap.size w1 w2->I k w2)
  (hf:∀k (hk:k<xs.length) cs wr,I k wr->wz 0 wr cs xs[k]->Calls Tryz.prog 147 #[.pointer (some ⟨pb,0,none⟩),am9 cs] wr fun e w'=>e=.returned (.bool (q k))∧(q k=true->I (k+1) w')∧(q k=false->J w')) (h0:I 0 w) :
  Calls Tryz.prog 146 #[v,.func (.func 147) #[.pointer (some ⟨pb,0,none⟩)] #[]] w fun e w'=>e=.returned (.bool ((List.range xs.length).all q))∧((List.range xs.length).all q=true->I xs.length w')∧((List.range xs.length).all q=false->J w'):=by
 obtain⟨a,cap,rfl⟩:=(hS 0 w h0).shape;have hn:=(hS 0 w h0).Oe;have HS:=hide hS;have HI:=hide hI;have Si:=hide hf;have H0:=hide h0;clear hS hI hf h0;go_enter Tryz.func146,Tryz.ntmps146;go_wp2
 go_loopg [6,9] xs.length (fun g x i wr=>∃(k:Nat),k<=xs.length∧g=xs.length-k∧i=.int .i64 k∧I k wr∧∀j,j<k->q j=true)
 case atStart=>exact⟨0,jg _,by omega,rfl,uh H0,fun j h=>absurd h (yt _)⟩
 case round =>
  obtain⟨k,hk,hg,rfl,hbl,hall⟩:=hrel;have HG:=hide hg;have HA:=hide hall;have Ah:=hide hbl;clear hg hall hbl
  by_cases hlt:k<xs.length
  ·obtain⟨_,_,Jb,_,_,F5⟩:=uh HS k wr (uh Ah)
   simp only[qw] at Jb;obtain⟨rfl,_,rfl⟩:=Jb;obtain⟨b,o,cs,rfl,_,hb,hcs,hc,hR⟩:=F5 k hlt;clear F5;have hcall:=uh Si k hlt cs wr (uh Ah) hR;obtain⟨rfl,hsn⟩:=hR;have c0:=hc 0 (by simp);simp only[jr,jh,ny,o8] at c0;simp only[am9,List.headD_cons] at hcall;have HC:=hide hcall;clear hc hcs hcall
   cases hp:q k
   ·have HF:Hid ((List.range xs.length).all q=false):=by
     refine hide ?_;rw[List.all_eq_false];exact⟨k,uw.2 hlt,by rw[hp];decide⟩
    go_wp2_with fail;refine(uh HC).mono ?_;rintro e w1 ⟨rfl,-,hb1⟩;have HB1:=hide (hb1 hp);rw[hp];clear hb1;go_wp2;go_ret;exact⟨zu (uh HF).symm,fun h=>absurd h (by rw[uh HF];decide),fun _=>uh HB1⟩
   ·have A':∀j,j<k+1->q j=true:=by
     intro j h1
     by_cases e:j=k
     ·subst e;exact hp
     ·exact uh HA j (by omega)
    have HA':=hide A';clear A';go_wp2_with fail;refine(uh HC).mono ?_;rintro e w1 ⟨rfl,hb1,-⟩;have HB1:=hide (hb1 hp);rw[hp];clear hb1;go_wp2
    go_roundg (xs.length-(k+1))
    case measure=>have:=uh HG;omega
    case rel=>exact⟨k+1,by omega,rfl,by go_num,uh HB1,uh HA'⟩
  ·have e:k=xs.length:=by omega
   have HT:Hid ((List.range xs.length).all q=true):=by
    refine hide ?_;rw[xw];intro x hx;exact uh HA x (by have:=uw.1 hx;omega)
   have HE:=hide (e▸uh Ah);go_wp2;go_ret;exact⟨zu (uh HT).symm,fun _=>uh HE,fun h=>absurd h (by rw[uh HT];decide)⟩
theorem ar9 (pb:Nat) (I:Nat->bf->Prop) (J:bf->Prop) (q:Nat->Bool) (xs:List ku) (v:Value) (w:bf) (hS:∀k wr,I k wr->iy 3 32 Gp 0 wr v xs) (hI:∀k w1 w2,I k w1->Below w1.heap.size w1 w2->I k w2)
  (hf:∀k (hk:k<xs.length) cs wr,I k wr->Gp 0 wr cs xs[k]->Calls Tryz.prog 190 #[.pointer (some ⟨pb,0,none⟩),alp cs] wr fun e w'=>e=.returned (.bool (q k))∧(q k=true->I (k+1) w')∧(q k=false->J w')) (h0:I 0 w) :
  Calls Tryz.prog 189 #[v,.func (.func 190) #[.pointer (some ⟨pb,0,none⟩)] #[]] w fun e w'=>e=.returned (.bool ((List.range xs.length).all q))∧((List.range xs.length).all q=true->I xs.length w')∧((List.range xs.length).all q=false->J w'):=by
 obtain⟨a,cap,rfl⟩:=(hS 0 w h0).shape;have hn:=(hS 0 w h0).Oe;have HS:=hide hS;have HI:=hide hI;have Si:=hide hf;have H0:=hide h0;clear hS hI hf h0;go_enter Tryz.func189,Tryz.ntmps189;go_wp2
 go_loopg [6,9] xs.length (fun g x i wr=>∃(k:Nat),k<=xs.length∧g=xs.length-k∧i=.int .i64 k∧I k wr∧∀j,j<k->q j=true)
 case atStart=>exact⟨0,jg _,by omega,rfl,uh H0,fun j h=>absurd h (yt _)⟩
 case round =>
  obtain⟨k,hk,hg,rfl,hbl,hall⟩:=hrel;have HG:=hide hg;have HA:=hide hall;have Ah:=hide hbl;clear hg hall hbl
  by_cases hlt:k<xs.length
  ·obtain⟨_,_,Jb,_,_,F5⟩:=uh HS k wr (uh Ah)
   simp only[qw] at Jb;obtain⟨rfl,_,rfl⟩:=Jb;obtain⟨b,o,cs,rfl,_,hb,hcs,hc,hR⟩:=F5 k hlt;clear F5;have hcall:=fun ob=>uh Si k hlt cs (wr.alloc ob) (uh HI k wr _ (uh Ah) ((gy _ _).alloc (gq _) ob)) (Ag.stays _ _ _ _ _ ((gy _ _).alloc (gq _) ob) hR)
   obtain⟨rfl,hsn,ho,hv⟩:=hR;have c0:=hc 0 (by simp);have c1:=hc 1 (by simp);have c2:=hc 2 (by simp);simp only[jr,jh,ny,o8] at c0 c1 c2;simp only[alp,List.headD_cons] at hcall;have HC:=hide hcall;clear hc hcs hcall
   cases hp:q k
   ·have HF:Hid ((List.range xs.length).all q=false):=by
     refine hide ?_;rw[List.all_eq_false];exact⟨k,uw.2 hlt,by rw[hp];decide⟩
    go_wp2_with fail;refine(uh HC _).mono ?_;rintro e w1 ⟨rfl,-,hb1⟩;have HB1:=hide (hb1 hp);rw[hp];clear hb1;go_wp2;go_ret;exact⟨zu (uh HF).symm,fun h=>absurd h (by rw[uh HF];decide),fun _=>uh HB1⟩
   ·have A':∀j,j<k+1->q j=true:=by
     intro j h1
     by_cases e:j=k
     ·subst e;exact hp
     ·exact uh HA j (by omega)
    have HA':=hide A';clear A';go_wp2_with fail;refine(uh HC _).mono ?_;rintro e w1 ⟨rfl,hb1,-⟩;have HB1:=hide (hb1 hp);rw[hp];clear hb1;go_wp2
    go_roundg (xs.length-(k+1))
    case measure=>have:=uh HG;omega
    case rel=>exact⟨k+1,by omega,rfl,by go_num,uh HB1,uh HA'⟩
  ·have e:k=xs.length:=by omega
   have HT:Hid ((List.range xs.length).all q=true):=by
    refine hide ?_;rw[xw];intro x hx;exact uh HA x (by have:=uw.1 hx;omega)
   have HE:=hide (e▸uh Ah);go_wp2;go_ret;exact⟨zu (uh HT).symm,fun _=>uh HE,fun h=>absurd h (by rw[uh HT];decide)⟩
theorem asa (pb:Nat) (I:Nat->bf->Prop) (J:bf->Prop) (q:Nat->Bool) (xs:List (List ku)) (v:Value) (w:bf) (hS:∀k wr,I k wr->iy 1 24 Io 0 wr v xs) (hI:∀k w1 w2,I k w1->Below w1.heap.size w1 w2->I k w2)
  (hf:∀k (hk:k<xs.length) cs wr,I k wr->Io 0 wr cs xs[k]->Calls Tryz.prog 186 #[.pointer (some ⟨pb,0,none⟩),ai9 cs] wr fun e w'=>e=.returned (.bool (q k))∧(q k=true->I (k+1) w')∧(q k=false->J w')) (h0:I 0 w) :
  Calls Tryz.prog 187 #[v,.func (.func 186) #[.pointer (some ⟨pb,0,none⟩)] #[]] w fun e w'=>e=.returned (.bool ((List.range xs.length).all q))∧((List.range xs.length).all q=true->I xs.length w')∧((List.range xs.length).all q=false->J w'):=by
 obtain⟨a,cap,rfl⟩:=(hS 0 w h0).shape;have hn:=(hS 0 w h0).Oe;have HS:=hide hS;have HI:=hide hI;have Si:=hide hf;have H0:=hide h0;clear hS hI hf h0;go_enter Tryz.func187,Tryz.ntmps187;go_wp2
 go_loopg [6,9] xs.length (fun g x i wr=>∃(k:Nat),k<=xs.length∧g=xs.length-k∧i=.int .i64 k∧I k wr∧∀j,j<k->q j=true)
 case atStart=>exact⟨0,jg _,by omega,rfl,uh H0,fun j h=>absurd h (yt _)⟩
 case round =>
  obtain⟨k,hk,hg,rfl,hbl,hall⟩:=hrel;have HG:=hide hg;have HA:=hide hall;have Ah:=hide hbl;clear hg hall hbl
  by_cases hlt:k<xs.length
  ·obtain⟨_,_,Jb,_,_,F5⟩:=uh HS k wr (uh Ah)
   simp only[qw] at Jb;obtain⟨rfl,_,rfl⟩:=Jb;obtain⟨b,o,cs,rfl,_,hb,hcs,hc,hR⟩:=F5 k hlt;clear F5;have hcall:=uh Si k hlt cs wr (uh Ah) hR;obtain⟨vl,rfl,hcl⟩:=hR;obtain⟨aa1,ca1,rfl⟩:=hcl.shape;clear hcl;have c0:=hc 0 (by simp);simp only[jr,jh,ny,o8] at c0;simp only[ai9,List.headD_cons] at hcall;have HC:=hide hcall;clear hc hcs hcall
   cases hp:q k
   ·have HF:Hid ((List.range xs.length).all q=false):=by
     refine hide ?_;rw[List.all_eq_false];exact⟨k,uw.2 hlt,by rw[hp];decide⟩
    go_wp2_with fail;refine(uh HC).mono ?_;rintro e w1 ⟨rfl,-,hb1⟩;have HB1:=hide (hb1 hp);rw[hp];clear hb1;go_wp2;go_ret;exact⟨zu (uh HF).symm,fun h=>absurd h (by rw[uh HF];decide),fun _=>uh HB1⟩
   ·have A':∀j,j<k+1->q j=true:=by
     intro j h1
     by_cases e:j=k
     ·subst e;exact hp
     ·exact uh HA j (by omega)
    have HA':=hide A';clear A';go_wp2_with fail;refine(uh HC).mono ?_;rintro e w1 ⟨rfl,hb1,-⟩;have HB1:=hide (hb1 hp);rw[hp];clear hb1;go_wp2
    go_roundg (xs.length-(k+1))
    case measure=>have:=uh HG;omega
    case rel=>exact⟨k+1,by omega,rfl,by go_num,uh HB1,uh HA'⟩
  ·have e:k=xs.length:=by omega
   have HT:Hid ((List.range xs.length).all q=true):=by
    refine hide ?_;rw[xw];intro x hx;exact uh HA x (by have:=uw.1 hx;omega)
   have HE:=hide (e▸uh Ah);go_wp2;go_ret;exact⟨zu (uh HT).symm,fun _=>uh HE,fun h=>absurd h (by rw[uh HT];decide)⟩
theorem avc  (I:Nat->bf->Prop) (J:bf->Prop) (q:Nat->Bool) (xs:List Int) (v:Value) (w:bf) (hS:∀k wr,I k wr->iy 1 8 J4 0 wr v xs) (hI:∀k w1 w2,I k w1->Below w1.heap.size w1 w2->I k w2)
  (hf:∀k (hk:k<xs.length) cs wr,I k wr->J4 0 wr cs xs[k]->Calls Tryz.prog 149 #[ana cs] wr fun e w'=>e=.returned (.bool (q k))∧(q k=true->I (k+1) w')∧(q k=false->J w')) (h0:I 0 w) :
  Calls Tryz.prog 148 #[v,.func (.func 149) #[] #[]] w fun e w'=>e=.returned (.bool ((List.range xs.length).all q))∧((List.range xs.length).all q=true->I xs.length w')∧((List.range xs.length).all q=false->J w'):=by
 obtain⟨a,cap,rfl⟩:=(hS 0 w h0).shape;have hn:=(hS 0 w h0).Oe;have HS:=hide hS;have HI:=hide hI;have Si:=hide hf;have H0:=hide h0;clear hS hI hf h0;go_enter Tryz.func148,Tryz.ntmps148;go_wp2
 go_loopg [6,9] xs.length (fun g x i wr=>∃(k:Nat),k<=xs.length∧g=xs.length-k∧i=.int .i64 k∧I k wr∧∀j,j<k->q j=true)
 case atStart=>exact⟨0,jg _,by omega,rfl,uh H0,fun j h=>absurd h (yt _)⟩
 case round =>
  obtain⟨k,hk,hg,rfl,hbl,hall⟩:=hrel;have HG:=hide hg;have HA:=hide hall;have Ah:=hide hbl;clear hg hall hbl
  by_cases hlt:k<xs.length
  ·obtain⟨_,_,Jb,_,_,F5⟩:=uh HS k wr (uh Ah)
   simp only[qw] at Jb;obtain⟨rfl,_,rfl⟩:=Jb;obtain⟨b,o,cs,rfl,_,hb,hcs,hc,hR⟩:=F5 k hlt;clear F5;have hcall:=uh Si k hlt cs wr (uh Ah) hR;obtain⟨rfl,hv⟩:=hR;have c0:=hc 0 (by simp);simp only[jr,jh,ny,o8] at c0;simp only[ana,List.headD_cons] at hcall;have HC:=hide hcall;clear hc hcs hcall
   cases hp:q k
   ·have HF:Hid ((List.range xs.length).all q=false):=by
     refine hide ?_;rw[List.all_eq_false];exact⟨k,uw.2 hlt,by rw[hp];decide⟩
    go_wp2_with fail;refine(uh HC).mono ?_;rintro e w1 ⟨rfl,-,hb1⟩;have HB1:=hide (hb1 hp);rw[hp];clear hb1;go_wp2;go_ret;exact⟨zu (uh HF).symm,fun h=>absurd h (by rw[uh HF];decide),fun _=>uh HB1⟩
   ·have A':∀j,j<k+1->q j=true:=by
     intro j h1
     by_cases e:j=k
     ·subst e;exact hp
     ·exact uh HA j (by omega)
    have HA':=hide A';clear A';go_wp2_with fail;refine(uh HC).mono ?_;rintro e w1 ⟨rfl,hb1,-⟩;have HB1:=hide (hb1 hp);rw[hp];clear hb1;go_wp2
    go_roundg (xs.length-(k+1))
    case measure=>have:=uh HG;omega
    case rel=>exact⟨k+1,by omega,rfl,by go_num,uh HB1,uh HA'⟩
  ·have e:k=xs.length:=by omega
   have HT:Hid ((List.range xs.length).all q=true):=by
    refine hide ?_;rw[xw];intro x hx;exact uh HA x (by have:=uw.1 hx;omega)
   have HE:=hide (e▸uh Ah);go_wp2;go_ret;exact⟨zu (uh HT).symm,fun _=>uh HE,fun h=>absurd h (by rw[uh HT];decide)⟩
def Qx (v:Int):Bool:=decide (-2147483648<=v∧v<=2147483647)
theorem asb (v:Int) (w:bf):Calls Tryz.prog 149 #[.int .i64 v] w (fun e w'=>e=.returned (.bool (Qx v))∧w'=w):=by
 by_cases h1 : -2147483648<=v
 ·by_cases h2:v<=2147483647
  ·have e:Qx v=true:=by simp[Qx];omega
   rw[e];go_enter Tryz.func149,Tryz.ntmps149;go_wp2;go_ret;exact⟨rfl,rfl⟩
  ·have e:Qx v=false:=by simp[Qx];omega
   rw[e];go_enter Tryz.func149,Tryz.ntmps149;go_wp2;go_ret;exact⟨rfl,rfl⟩
 ·have e:Qx v=false:=by simp[Qx];omega
  rw[e];go_enter Tryz.func149,Tryz.ntmps149;go_wp2;go_ret;exact⟨rfl,rfl⟩
def setB (k:dw) (x:dh):Bool:=decide ((k.ins.length:Int)<=jd (varsOf k) x)
structure Oz (w:bf) (k:dw) (a1 a2 a3 a4 a5 a6:Value):Prop where
 ins:iy 2 24 Oy 0 w a1 k.ins
 ak:iy 2 24 Oy 0 w a2 k.ak
 iq:iy 1 16 wz 0 w a3 k.iq
 eu:iy 1 8 J4 0 w a4 k.eu
 au:iy 1 8 J4 0 w a5 k.au
 body:iy 6 104 Zu 0 w a6 k.body
 name:Len k.name.size
 sum:k.ins.length+k.ak.length+k.iq.length<=1048576
theorem Oz.stays {w w':bf} {k:dw} {a1 a2 a3 a4 a5 a6:Value} (h:Oz w k a1 a2 a3 a4 a5 a6) (hb:Below w.heap.size w w'):Oz w' k a1 a2 a3 a4 a5 a6 :=
 ⟨h.ins.stays Ip hb,h.ak.stays Ip hb,h.iq.stays zo hb,h.eu.stays Fp hb,h.au.stays Fp hb,h.body.stays P9 hb,h.name,h.sum⟩
theorem O9 (k:dw) (x:dh) (a1 a2 a3 a4 a5 a6:Value) (w:bf) (h:Oz w k a1 a2 a3 a4 a5 a6) :
  Calls Tryz.prog 110 #[.agg #[.string k.name,a1,a2,a3,a4,a5,a6],.string x] w (Ans (.bool (setB k x)) w):=by
 have HI:=hide h;obtain⟨b1,c1,rfl⟩:=h.ins.shape;have hl:k.ins.length<=1048576:=by have:=h.sum;omega
 obtain⟨b2,c2,rfl⟩:=h.ak.shape;obtain⟨b3,c3,rfl⟩:=h.iq.shape;obtain⟨b4,c4,rfl⟩:=h.eu.shape;obtain⟨b5,c5,rfl⟩:=h.au.shape;obtain⟨b6,c6,rfl⟩:=h.body.shape;clear h;have B0:=hide ((gy w.heap.size w).alloc (gq _) (.cells #[.string k.name,.slice b1 k.ins.length c1,.slice b2 k.ak.length c2,.slice b3 k.iq.length c3,.slice b4 k.eu.length c4,.slice b5 k.au.length c5,.slice b6 k.body.length c6] 50));have HS:Hid (setB k x=decide ((k.ins.length:Int)<=jd (varsOf k) x)):=rfl;have HV:=hide (fun w' (hb:Below w.heap.size w w')=>Qa k _ _ _ (.slice b4 k.eu.length c4) (.slice b5 k.au.length c5) (.slice b6 k.body.length c6) w' ((uh HI).stays hb).ins ((uh HI).stays hb).ak ((uh HI).stays hb).iq (uh HI).sum);have hpb:=X3 (varsOf k) x;generalize setB k x=sb at *;generalize k.name=s at *;generalize k.ins.length=n1 at *;generalize k.ak.length=n2 at *;generalize k.iq.length=n3 at *;generalize k.eu.length=n4 at *;generalize k.au.length=n5 at *;generalize k.body.length=n6 at *;go_enter Tryz.func110,Tryz.ntmps110;go_wp2_with fail;have B0d:Hid (Below w.heap.size w (w.alloc (.cells #[.string s,.slice b1 n1 c1,.slice b2 n2 c2,.slice b3 n3 c3,.slice b4 n4 c4,.slice b5 n5 c5,.slice b6 n6 c6] 50)).drew):=(uh B0).drew;have HCV:=hide (uh HV _ (uh B0d))
 go_region_with (first|(go_at_call 81;refine(uh HCV).mono ?_;rintro e w1 ⟨vv,rfl,hVS,hb1⟩;have k1:w1.cell? ⟨w.heap.size,1,none⟩=some (.slice b1 n1 c1):=(hb1.cell (p:=⟨w.heap.size,1,none⟩) (by simp)).trans (by simp[zy]);have HB1:=hide ((uh B0d).trans (hb1.mono (uh B0d).size));have Bj:=hide (Aa (varsOf k) _ x w1 hVS);clear hVS hb1)|(go_at_call 20;refine(uh Bj).mono ?_;rintro e w2 ⟨rfl,rfl⟩))
 all_goals
  go_wp2;go_ret;refine⟨zu ?_,uh HB1⟩;rw[uh HS]
structure But (S:List Nat) (w w':bf):Prop where
 os:w'.os=w.os
 tape:w'.tape=w.tape
 output:w'.output=w.output
 size:w.heap.size<=w'.heap.size
 block:∀k,k<w.heap.size->k∉S->w'.heap[k]?=w.heap[k]?
theorem But.refl (S:List Nat) (w:bf):But S w w:=⟨rfl,rfl,rfl,gq _,fun _ _ _=>rfl⟩
theorem But.trans {S:List Nat} {a b c:bf} (h:But S a b) (k:But S b c):But S a c :=
 ⟨k.os.trans h.os,k.tape.trans h.tape,k.output.trans h.output,jq h.size k.size,fun i hi hs=>(k.block i (qj hi h.size) hs).trans (h.block i hi hs)⟩
theorem But.of_below {S:List Nat} {w w':bf} (h:Below w.heap.size w w'):But S w w':=⟨h.os,h.tape,h.output,h.size,fun k hk _=>h.block k hk⟩
theorem But.below {S:List Nat} {w w':bf} (h:But S w w') (B:Nat) (hB:B<=w.heap.size) (hs:∀k,k∈S->B<=k):Below B w w' :=
 ⟨h.os,h.tape,h.output,h.size,fun k hk=>h.block k (by omega) (fun e=>by have:=hs k e;omega)⟩
theorem But.mono {S T:List Nat} {w w':bf} (h:But S w w') (hs:∀k,k∈S->k∈T∨w.heap.size<=k):But T w w' :=
 ⟨h.os,h.tape,h.output,h.size,fun k hk hn=>h.block k hk (fun e=>by rcases hs k e with h1|h1;exact hn h1;omega)⟩
theorem But.grown {S:List Nat} {w w':bf} {g:Nat} (h:w.grownBy w' (some g)) (hg:g∈S∨w.heap.size<=g):But S w w' :=
 ⟨h.os,h.tape,h.output,h.size,fun k hk hn=>h.block k hk (fun e=>by simp only[uo] at e;subst e;rcases hg with h1|h1;exact hn h1;omega)⟩
theorem But.setCell {S:List Nat} (w:bf) {p:Addr} (hp:p.block∈S) (u:Value):But S w (w.setCell p u) :=
 ⟨rfl,rfl,rfl,by simp[World.setCell],fun k hk hn=>yx _ _ _ _ (fun e=>hn (e▸hp))⟩
theorem But.alloc {S:List Nat} {a w:bf} (h:But S a w) (o:Obj):But S a (w.alloc o) :=
 h.trans (But.of_below ((gy _ _).alloc (gq _) o))
theorem But.drew {S:List Nat} {a w:bf} (h:But S a w):But S a w.drew:=⟨h.os,h.tape,h.output,h.size,h.block⟩
theorem But.cell {S:List Nat} {w w':bf} (h:But S w w') {p:Addr} (hp:p.block<w.heap.size) (hn:p.block∉S):w'.cell? p=w.cell? p:=World.cell?_of_block (w:=w) (h.block p.block hp hn)
theorem But.blk {S:List Nat} {w w':bf} (h:But S w w') {g:Nat} {e:TypeId} {cs:Array Value} (hb:jc w g e cs) (hn:g∉S):jc w' g e cs:=(h.block g hb.lt hn).trans hb
theorem But.map {S:List Nat} {w w':bf} (h:But S w w') {P:Program} {k:TypeId} {b n:Nat} {f:dh->Option Value} (hm:Jp P k w b n f) (hn:b∉S):Jp P k w' b n f:=hm.block (h.block b hm.lt hn)
def ac2 (f:dh->Option Value) (s:dh) (v:Value):dh->Option Value:=fun x=>if x=s then some v else f x
theorem agy (f:dh->Option Value) (s:dh) (v:Value):ac2 f s v s=some v:=gu rfl
theorem aeh (f:dh->Option Value) (s:dh) (v:Value) (x:dh) (h:x≠s):ac2 f s v x=f x:=ay h
def aei (f:dh->Option Value) (s:dh):Bool:=(f s).isNone&&nameB s
abbrev I5 (w:bf) (b n:Nat) (f:dh->Option Value):Prop:=Jp Tryz.prog 9 w b n f
theorem Ye (w:bf):(zeroValue 3).run Tryz.prog w=.ok (.int .i64 0) w:=by kernel_rfl
theorem asc (pb mb n:Nat) (f:dh->Option Value) (s:dh) (w:bf) (hs:Len s.size) (hn:n<=2000) (hc:w.cell? ⟨pb,1,none⟩=some (.map (some mb))) (hM:I5 w mb n f) :
  Calls Tryz.prog 147 #[.pointer (some ⟨pb,0,none⟩),.string s] w fun e w'=>e=.returned (.bool (aei f s))∧(aei f s=true->I5 w' mb (n+1) (ac2 f s (.int .i64 n))∧But [mb] w w')∧(aei f s=false->Below w.heap.size w w'):=by
 have hs':s.size<=maxLen:=by unfold Len at hs;unfold maxLen;omega
 have HM:=hide hM;have HNM:=hide (afq s w hs)
 cases hf:f s with
 | some v =>
  rw[show aei f s=false by unfold aei;rw[hf];rfl];have hlk:=hM.hit Tryz.underlying9 Tryz.underlying33 (Ye w) hs' hf;clear hM hf;go_enter Tryz.func147,Tryz.ntmps147;go_wp2;go_ret;exact⟨rfl,(fun h=>by cases h),fun _=>gy _ _⟩
 | none =>
  have hlk:=hM.miss Tryz.underlying9 Tryz.underlying33 (Ye w) hs' hf;rw[show aei f s=nameB s by unfold aei;rw[hf];rfl];have Si:=hide hf;clear hM hf;generalize nameB s=nb at *
  cases nb
  ·go_enter Tryz.func147,Tryz.ntmps147
   go_wp2_with fail;refine(uh HNM).mono ?_;rintro e w1 ⟨rfl,hb1⟩;have HB1:=hide hb1;clear hb1;go_wp2;go_ret;exact⟨rfl,(fun h=>by cases h),fun _=>uh HB1⟩
  ·go_enter Tryz.func147,Tryz.ntmps147
   go_wp2_with fail;refine(uh HNM).mono ?_;rintro e w1 ⟨rfl,hb1⟩;have c1:w1.cell? ⟨pb,1,none⟩=some (.map (some mb)):=by rw[hb1.cell (p:=⟨pb,1,none⟩) (Jl w _ hc)];exact hc
   have hM1:I5 w1.drew mb n f:=((uh HM).below hb1 (uh HM).lt).block rfl;obtain⟨w2,hst,hM2,hg⟩:=hM1.store Tryz.underlying9 Tryz.underlying33 (by unfold maxLen;omega) hs' (uh Si) (.int .i64 (n:Int));have hln:∀ty,(Builtin.len_ #[33] ty #[.map (some mb)]).run Tryz.prog w1.drew=.ok (.int .i64 (n:Int)) w1.drew:=fun ty=>hM1.len Tryz.underlying33 ty
   have HP:Hid (I5 w2 mb (n+1) (ac2 f s (.int .i64 n))∧But [mb] w w2):=⟨hM2 _ (agy _ _ _) (fun x hx=>aeh _ _ _ x hx),(But.of_below hb1).drew.trans (But.grown hg (Or.inl (yj.2 rfl)))⟩;clear hb1 hM1 hM2 hg hc hlk;go_wp2_with fail;go_region;go_wp2;go_ret;exact⟨rfl,(fun _=>uh HP),fun h=>by cases h⟩
theorem zk {x s:dh}:(x.toList == s.toList)=decide (x=s):=by
 rw[Oc,Fg,Eh,ByteArray.toList_eq,ByteArray.toList_eq];exact⟨fun h=>bytes_eq h,fun h=>by rw[h]⟩
theorem acn (l:List dh) (s:dh):jd l s<0↔∀x,x∈l->x≠s:=by
 unfold jd
 cases h:l.findIdx? (fun x=>x.toList == s.toList) with
 | none =>
  rw[List.findIdx?_eq_none_iff] at h;simp only[zk,Nl] at h;exact⟨fun _=>h,fun _=>by simp⟩
 | some i =>
  obtain⟨hi,h1,_⟩:=List.findIdx?_eq_some_iff_getElem.1 h;rw[zk,Eh] at h1;exact⟨fun h2=>absurd h2 (by simp),fun h2=>absurd h1 (h2 _ (pz hi))⟩
theorem ase (l:List dh) (s x:dh) (h:jd l s<0):jd (l++[s]) x=if x=s then (l.length:Int) else jd l x:=by
 by_cases e:x=s
 ·subst e
  rw[gu rfl];refine aco (l++[x]) l.length x (by simp) (by simp) (fun j hj hjk=>?_);rw[Rh hjk,zk,Nl];exact(acn l x).1 h _ (pz hjk)
 ·rw[ay e]
  unfold jd;rw[List.findIdx?_append]
  have:[s].findIdx? (fun y=>y.toList == x.toList)=none:=by
   rw[List.findIdx?_eq_none_iff];intro y hy;rw[yj] at hy;subst hy;rw[zk,Nl];exact fun h=>e h.symm
  rw[this];simp
def Di (l:List dh):dh->Option Value:=fun s=>if 0<=jd l s then some (.int .i64 (jd l s)) else none
theorem asf (l:List dh) (s:dh) (h:jd l s<0):ac2 (Di l) s (.int .i64 l.length)=Di (l++[s]):=by
 funext x;unfold Di ac2;rw[ase l s x h]
 by_cases e:x=s
 ·rw[gu e,gu e,gu (by omega)]
 ·rw[ay e,ay e]
theorem asg (l:List dh) (s:dh):aei (Di l) s=(decide (jd l s<0)&&nameB s):=by
 unfold aei Di
 split
 ·rw[iw (by omega)];rfl
 ·rw[jf (by omega)];rfl
theorem aej (l:List dh) (s:dh) (h:0<=jd l s):Di l s=some (.int .i64 (jd l s)):=gu h
theorem ac3 (l:List dh) (s:dh) (h:jd l s<0):Di l s=none:=ay (by omega)
def Sv (l:List dh) (s:dh):Bool:=decide (jd l s<0)&&nameB s
def aek (l:List dh) (t:jw):Bool:=decide (t.type=1∨t.type=2)&&Sv l t.name
def aqu (ok:Bool) (l:List dh) (s:dh) (mb:Nat) (w:bf) (e:Ending) (w':bf):Prop :=
 e=.returned (.bool ok)∧(ok=true->I5 w' mb (l.length+1) (Di (l++[s]))∧But [mb] w w')∧(ok=false->Below w.heap.size w w')
theorem Nu {a b:Bool} (h:a=b):Ending.returned (Value.bool a)=.returned (.bool b):=by rw[h]
theorem aja (pb mb:Nat) (l:List dh) (s:dh) (w:bf) (hs:Len s.size) (hn:l.length<=2000) (hc:w.cell? ⟨pb,1,none⟩=some (.map (some mb))) (hM:I5 w mb l.length (Di l)) :
  Calls Tryz.prog 147 #[.pointer (some ⟨pb,0,none⟩),.string s] w (aqu (Sv l s) l s mb w):=by
 refine(asc pb mb l.length (Di l) s w hs hn hc hM).mono ?_;rintro e w' ⟨rfl,h1,h2⟩;rw[asg] at h1 h2 ⊢;refine⟨rfl,fun h=>?_,h2⟩;obtain⟨g1,g2⟩:=h1 h
 have:jd l s<0:=by
  unfold Sv at h;rw[uq] at h;exact xq h.1
 rw[asf l s this] at g1;exact⟨g1,g2⟩
theorem ash (pb mb:Nat) (l:List dh) (t:jw) (w:bf) (hs:Len t.name.size) (hn:l.length<=2000) (hc:w.cell? ⟨pb,1,none⟩=some (.map (some mb))) (hM:I5 w mb l.length (Di l)) :
  Calls Tryz.prog 145 #[.pointer (some ⟨pb,0,none⟩),.agg #[.string t.name,.int .i64 t.type]] w (aqu (aek l t) l t.name mb w):=by
 have hA:Below w.heap.size w (w.alloc (.cells #[.string t.name,.int .i64 t.type] 54)):=(gy _ _).alloc (gq _) _;have c1:(w.alloc (.cells #[.string t.name,.int .i64 t.type] 54)).cell? ⟨pb,1,none⟩=some (.map (some mb)):=by rw[hA.cell (p:=⟨pb,1,none⟩) (Jl w _ hc)];exact hc
 have HN:=hide (aja pb mb l t.name _ hs hn c1 (hM.below hA hM.lt));have HT:=hide (fun w=>avb t.type w);have HA:=hide hA;have HS:Hid (aek l t=(decide (t.type=1∨t.type=2)&&Sv l t.name)):=rfl;clear c1 hA hM;generalize aek l t=R at *;generalize Sv l t.name=nb at *;generalize decide (t.type=1∨t.type=2)=tb at *;obtain⟨nm,ty⟩:=t;simp only at *
 cases tb
 ·have e:R=false:=(uh HS).trans (Bc _)
  subst e;go_enter Tryz.func145,Tryz.ntmps145;go_wp2_with fail;refine(uh HT _).mono ?_;rintro e w1 ⟨rfl,rfl⟩;go_wp2;go_ret;exact⟨rfl,(fun h=>by cases h),fun _=>uh HA⟩
 ·have e:R=nb:=(uh HS).trans (Ar _)
  subst e;go_enter Tryz.func145,Tryz.ntmps145;go_wp2_with fail;refine(uh HT _).mono ?_;rintro e w1 ⟨rfl,rfl⟩;go_wp2_with fail;refine(uh HN).mono ?_;rintro e w1 ⟨rfl,h1,h2⟩;have H1:=hide h1;have H2:=hide h2;clear h1 h2;go_wp2;go_ret;refine⟨rfl,fun h=>?_,fun h=>(uh HA).trans ((uh H2 h).mono (uh HA).size)⟩;obtain⟨g1,g2⟩:=uh H1 h;exact⟨g1,(But.of_below (uh HA)).trans g2⟩
structure CA (w:bf) (cb co:Nat) (k:dw) (a1 a2 a3 a4 a5 a6:Value):Prop where
 lt:cb<w.heap.size
 c0:w.cell? ⟨cb,co,none⟩=some (.string k.name)
 c1:w.cell? ⟨cb,co+1,none⟩=some a1
 c2:w.cell? ⟨cb,co+2,none⟩=some a2
 c3:w.cell? ⟨cb,co+3,none⟩=some a3
 c4:w.cell? ⟨cb,co+4,none⟩=some a4
 c5:w.cell? ⟨cb,co+5,none⟩=some a5
 c6:w.cell? ⟨cb,co+6,none⟩=some a6
 name:Len k.name.size
 ins:iy 2 24 Oy 0 w a1 k.ins
 ak:iy 2 24 Oy 0 w a2 k.ak
 iq:iy 1 16 wz 0 w a3 k.iq
 eu:iy 1 8 J4 0 w a4 k.eu
 au:iy 1 8 J4 0 w a5 k.au
 body:iy 6 104 Zu 0 w a6 k.body
theorem CA.stays {w w':bf} {cb co:Nat} {k:dw} {a1 a2 a3 a4 a5 a6:Value} (h:CA w cb co k a1 a2 a3 a4 a5 a6) (hb:Below w.heap.size w w'):CA w' cb co k a1 a2 a3 a4 a5 a6:=by
 have hc:∀j,w'.cell? ⟨cb,j,none⟩=w.cell? ⟨cb,j,none⟩:=fun j=>hb.cell (p:=⟨cb,j,none⟩) h.lt
 exact⟨qj h.lt hb.size,(hc _).trans h.c0,(hc _).trans h.c1,(hc _).trans h.c2,(hc _).trans h.c3,(hc _).trans h.c4,(hc _).trans h.c5,(hc _).trans h.c6,h.name,h.ins.stays Ip hb,h.ak.stays Ip hb,h.iq.stays zo hb,h.eu.stays Fp hb,h.au.stays Fp hb,h.body.stays P9 hb⟩
def Pv (pre:List dh) (xs:List jw) (j:Nat):Bool:=match xs[j]? with|some t=>aek (pre++(xs.take j).map jw.name) t|none=>false
def U4 (pre:List dh) (xs:List dh) (j:Nat):Bool:=match xs[j]? with|some s=>Sv (pre++xs.take j) s|none=>false
theorem anb (pb mb:Nat) (pre:List dh) (xs:List jw) (v:Value) (W0 w:bf) (hv:iy 2 24 Oy 0 W0 v xs) (hW:Below W0.heap.size W0 w) (hmb:W0.heap.size<=mb) (hpb:pb≠mb) (hn:pre.length+xs.length<=2000) (hc:w.cell? ⟨pb,1,none⟩=some (.map (some mb))) (hM:I5 w mb pre.length (Di pre)) :
  Calls Tryz.prog 144 #[v,.func (.func 145) #[.pointer (some ⟨pb,0,none⟩)] #[]] w fun e w'=>e=.returned (.bool ((List.range xs.length).all (Pv pre xs)))∧((List.range xs.length).all (Pv pre xs)=true->I5 w' mb (pre.length+xs.length) (Di (pre++xs.map jw.name)))∧But [mb] w w':=by
 have hpl:pb<w.heap.size:=Jl w _ hc;refine(ar7 pb (fun k wr=>I5 wr mb (pre.length+min k xs.length) (Di (pre++(xs.take k).map jw.name))∧But [mb] w wr) (fun wr=>But [mb] w wr) (Pv pre xs) xs v w ?_ ?_ ?_ ?_).mono ?_
 ·rintro k wr ⟨_,hb⟩
  exact hv.stays Ip (hW.trans (hb.below _ hW.size (fun q hq=>by rw[yj] at hq;omega)))
 ·rintro k w1 w2 ⟨h1,h2⟩ hb
  exact⟨h1.below hb h1.lt,h2.trans (But.of_below hb)⟩
 ·rintro k hk cs wr ⟨h1,h2⟩ hR
  have hc':wr.cell? ⟨pb,1,none⟩=some (.map (some mb)):=by rw[h2.cell (p:=⟨pb,1,none⟩) hpl (by simpa using hpb)];exact hc
  obtain⟨rfl,hs,_⟩:=hR;have hl:(pre++(xs.take k).map jw.name).length=pre.length+min k xs.length:=by simp
  have:=ash pb mb (pre++(xs.take k).map jw.name) xs[k] wr hs (by rw[hl];omega) hc' (by rw[hl];exact h1);refine this.mono ?_;rintro e w' ⟨rfl,g1,g2⟩;have hq:Pv pre xs k=aek (pre++(xs.take k).map jw.name) xs[k]:=by unfold Pv;rw[jy hk]
  rw[hq];refine⟨rfl,fun h=>?_,fun h=>h2.trans (But.of_below (g2 h))⟩;obtain⟨r1,r2⟩:=g1 h;refine⟨?_,h2.trans r2⟩;rw[hl] at r1;have e1:pre.length+min k xs.length+1=pre.length+min (k+1) xs.length:=by omega
  rw[e1] at r1
  have e2:pre++List.map jw.name (List.take k xs)++[xs[k].name]=pre++List.map jw.name (List.take (k+1) xs):=by
   rw[Fb hk,Il,Gt];rfl
  rw[e2] at r1;exact r1
 ·simpa using ⟨hM,But.refl _ _⟩
 ·rintro e w' ⟨rfl,h1,h2⟩
  refine⟨rfl,fun h=>?_,?_⟩
  ·have:=(h1 h).1
   simpa using this
  ·cases hh:(List.range xs.length).all (Pv pre xs)
   ·exact h2 hh
   ·exact(h1 hh).2
theorem ayl (pb mb:Nat) (pre:List dh) (xs:List dh) (v:Value) (W0 w:bf) (hv:iy 1 16 wz 0 W0 v xs) (hW:Below W0.heap.size W0 w) (hmb:W0.heap.size<=mb) (hpb:pb≠mb) (hn:pre.length+xs.length<=2000) (hc:w.cell? ⟨pb,1,none⟩=some (.map (some mb))) (hM:I5 w mb pre.length (Di pre)) :
  Calls Tryz.prog 146 #[v,.func (.func 147) #[.pointer (some ⟨pb,0,none⟩)] #[]] w fun e w'=>e=.returned (.bool ((List.range xs.length).all (U4 pre xs)))∧((List.range xs.length).all (U4 pre xs)=true->I5 w' mb (pre.length+xs.length) (Di (pre++xs)))∧But [mb] w w':=by
 have hpl:pb<w.heap.size:=Jl w _ hc;refine(ar8 pb (fun k wr=>I5 wr mb (pre.length+min k xs.length) (Di (pre++xs.take k))∧But [mb] w wr) (fun wr=>But [mb] w wr) (U4 pre xs) xs v w ?_ ?_ ?_ ?_).mono ?_
 ·rintro k wr ⟨_,hb⟩
  exact hv.stays zo (hW.trans (hb.below _ hW.size (fun q hq=>by rw[yj] at hq;omega)))
 ·rintro k w1 w2 ⟨h1,h2⟩ hb
  exact⟨h1.below hb h1.lt,h2.trans (But.of_below hb)⟩
 ·rintro k hk cs wr ⟨h1,h2⟩ hR
  have hc':wr.cell? ⟨pb,1,none⟩=some (.map (some mb)):=by rw[h2.cell (p:=⟨pb,1,none⟩) hpl (by simpa using hpb)];exact hc
  obtain⟨rfl,hs⟩:=hR;have hl:(pre++xs.take k).length=pre.length+min k xs.length:=by simp
  have:=aja pb mb (pre++xs.take k) xs[k] wr hs (by rw[hl];omega) hc' (by rw[hl];exact h1);refine this.mono ?_;rintro e w' ⟨rfl,g1,g2⟩;have hq:U4 pre xs k=Sv (pre++xs.take k) xs[k]:=by unfold U4;rw[jy hk]
  rw[hq];refine⟨rfl,fun h=>?_,fun h=>h2.trans (But.of_below (g2 h))⟩;obtain⟨r1,r2⟩:=g1 h;refine⟨?_,h2.trans r2⟩;rw[hl] at r1;have e1:pre.length+min k xs.length+1=pre.length+min (k+1) xs.length:=by omega
  rw[e1] at r1
  have e2:pre++List.take k xs++[xs[k]]=pre++List.take (k+1) xs:=by
   rw[Fb hk];simp
  rw[e2] at r1;exact r1
 ·simpa using ⟨hM,But.refl _ _⟩
 ·rintro e w' ⟨rfl,h1,h2⟩
  refine⟨rfl,fun h=>?_,?_⟩
  ·have:=(h1 h).1
   simpa using this
  ·cases hh:(List.range xs.length).all (U4 pre xs)
   ·exact h2 hh
   ·exact(h1 hh).2
end Go.Proofs.YtfeejeflmcapoaaGreatDoor
