import Derived.Test.YtfeejeflmcapoaaGreatDoorData
import Derived.Test.YtfeejeflmcapoaaGreatDoorImplFresh
import Derived.Test.YtfeejeflmcapoaaGreatDoorPS1
import Derived.Test.YtfeejeflmcapoaaGreatDoorPM0
import Derived.BigRegion
import Derived.Deep.QuietTactic
import Derived.BigQuiet
set_option linter.unusedSimpArgs false
set_option linter.unusedVariables false
set_option maxHeartbeats 1000000
namespace Go.Proofs.YtfeejeflmcapoaaGreatDoor
open Go.RowKit
theorem jc.Ob {α:Type} {sz uf lo:Nat} {R:Nat->cu->List Value->α->Prop} {w:cu} {v:Value} {xs:List α} (h:jc sz uf R lo w v xs):xs.length<=140737488355328:=by
 obtain⟨_,_,_,_,h,_⟩:=h;exact h
def alp (cs:List Value):Value:=.agg cs.toArray
def am9 (cs:List Value):Value:=cs.headD (.bool false)
theorem ar6 (pb:Nat) (I:Nat->cu->Prop) (J:cu->Prop) (q:Nat->Bool) (xs:List jw) (v:Value) (w:cu) (hS:∀k wr,I k wr->jc 2 24 Oq 0 wr v xs) (hI:∀k w1 w2,I k w1->Below w1.heap.size w1 w2->I k w2)
  (hf:∀k (hk:k<xs.length) cs wr,I k wr->Oq 0 wr cs xs[k]->Calls Tryz.prog 145 #[.pointer (some ⟨pb,0,none⟩),alp cs] wr fun e w'=>e=.returned (.bool (q k))/\(q k=true->I (k+1) w')/\(q k=false->J w')) (h0:I 0 w) :
  Calls Tryz.prog 144 #[v,.func (.func 145) #[.pointer (some ⟨pb,0,none⟩)] #[]] w fun e w'=>e=.returned (.bool ((List.range xs.length).all q))/\((List.range xs.length).all q=true->I xs.length w')/\((List.range xs.length).all q=false->J w'):=by
 obtain⟨a,cap,rfl⟩:=(hS 0 w h0).shape;have hn:=(hS 0 w h0).Ob;have HS:=ak hS;have HI:=ak hI;have Rq:=ak hf;have H0:=ak h0;clear hS hI hf h0;go_enter Tryz.func144,Tryz.ntmps144;go_wp2
 go_loopg [6,9] xs.length (fun g x i wr=>∃(k:Nat),k<=xs.length/\g=xs.length-k/\i=.int .i64 k/\I k wr/\∀j,j<k->q j=true)
 case atStart=>exact⟨0,jg _,by omega,rfl,uh H0,fun j h=>absurd h (yu _)⟩
 case round =>
  obtain⟨k,hk,hg,rfl,hbl,hall⟩:=hrel;have HG:=ak hg;have HA:=ak hall;have Ae:=ak hbl;clear hg hall hbl
  by_cases hlt:k<xs.length
  ·obtain⟨_,_,Ja,_,_,Fh⟩:=uh HS k wr (uh Ae)
   simp only[qw] at Ja;obtain⟨rfl,_,rfl⟩:=Ja;obtain⟨b,o,cs,rfl,_,hb,hcs,hc,hR⟩:=Fh k hlt;clear Fh;have hcall:=fun ob=>uh Rq k hlt cs (wr.alloc ob) (uh HI k wr _ (uh Ae) ((iq _ _).alloc (gu _) ob)) (Ii.stays _ _ _ _ _ ((iq _ _).alloc (gu _) ob) hR)
   obtain⟨rfl,hsn,ht⟩:=hR;have c0:=hc 0 (by simp);have c1:=hc 1 (by simp);simp only[jr,ji,og,ou] at c0 c1;simp only[alp,List.headD_cons] at hcall;have HC:=ak hcall;clear hc hcs hcall
   cases hp:q k
   ·have HF:Hid ((List.range xs.length).all q=false):=by
     refine ak ?_;rw[List.all_eq_false];exact⟨k,uz.2 hlt,by rw[hp];decide⟩
    go_wp2_with fail;refine(uh HC _).mono ?_;rintro e w1 ⟨rfl,-,hb1⟩;have HB1:=ak (hb1 hp);rw[hp];clear hb1;go_wp2;go_ret;exact⟨zl (uh HF).symm,fun h=>absurd h (by rw[uh HF];decide),fun _=>uh HB1⟩
   ·have A':∀j,j<k+1->q j=true:=by
     intro j h1
     by_cases e:j=k
     ·subst e;exact hp
     ·exact uh HA j (by omega)
    have HA':=ak A';clear A';go_wp2_with fail;refine(uh HC _).mono ?_;rintro e w1 ⟨rfl,hb1,-⟩;have HB1:=ak (hb1 hp);rw[hp];clear hb1;go_wp2
    go_roundg (xs.length-(k+1))
    case measure=>have:=uh HG;omega
    case rel=>exact⟨k+1,by omega,rfl,by go_num,uh HB1,uh HA'⟩
  ·have e:k=xs.length:=by omega
   have HT:Hid ((List.range xs.length).all q=true):=by
    refine ak ?_;rw[yc];intro x hx;exact uh HA x (by have:=uz.1 hx;omega)
   have HE:=ak (e▸uh Ae);go_wp2;go_ret;exact⟨zl (uh HT).symm,fun _=>uh HE,fun h=>absurd h (by rw[uh HT];decide)⟩
theorem ar7 (pb:Nat) (I:Nat->cu->Prop) (J:cu->Prop) (q:Nat->Bool) (xs:List dh) (v:Value) (w:cu) (hS:∀k wr,I k wr->jc 1 16 xk 0 wr v xs) (hI:∀k w1 w2,I k w1->Below w1.heap.size w1 w2->I k w2)
  (hf:∀k (hk:k<xs.length) cs wr,I k wr->xk 0 wr cs xs[k]->Calls Tryz.prog 147 #[.pointer (some ⟨pb,0,none⟩),am8 cs] wr fun e w'=>e=.returned (.bool (q k))/\(q k=true->I (k+1) w')/\(q k=false->J w')) (h0:I 0 w) :
  Calls Tryz.prog 146 #[v,.func (.func 147) #[.pointer (some ⟨pb,0,none⟩)] #[]] w fun e w'=>e=.returned (.bool ((List.range xs.length).all q))/\((List.range xs.length).all q=true->I xs.length w')/\((List.range xs.length).all q=false->J w'):=by
 obtain⟨a,cap,rfl⟩:=(hS 0 w h0).shape;have hn:=(hS 0 w h0).Ob;have HS:=ak hS;have HI:=ak hI;have Rq:=ak hf;have H0:=ak h0;clear hS hI hf h0;go_enter Tryz.func146,Tryz.ntmps146;go_wp2
 go_loopg [6,9] xs.length (fun g x i wr=>∃(k:Nat),k<=xs.length/\g=xs.length-k/\i=.int .i64 k/\I k wr/\∀j,j<k->q j=true)
 case atStart=>exact⟨0,jg _,by omega,rfl,uh H0,fun j h=>absurd h (yu _)⟩
 case round =>
  obtain⟨k,hk,hg,rfl,hbl,hall⟩:=hrel;have HG:=ak hg;have HA:=ak hall;have Ae:=ak hbl;clear hg hall hbl
  by_cases hlt:k<xs.length
  ·obtain⟨_,_,Ja,_,_,Fh⟩:=uh HS k wr (uh Ae)
   simp only[qw] at Ja;obtain⟨rfl,_,rfl⟩:=Ja;obtain⟨b,o,cs,rfl,_,hb,hcs,hc,hR⟩:=Fh k hlt;clear Fh;have hcall:=uh Rq k hlt cs wr (uh Ae) hR;obtain⟨rfl,hsn⟩:=hR;have c0:=hc 0 (by simp);simp only[jr,ji,og,ou] at c0;simp only[am8,List.headD_cons] at hcall;have HC:=ak hcall;clear hc hcs hcall
   cases hp:q k
   ·have HF:Hid ((List.range xs.length).all q=false):=by
     refine ak ?_;rw[List.all_eq_false];exact⟨k,uz.2 hlt,by rw[hp];decide⟩
    go_wp2_with fail;refine(uh HC).mono ?_;rintro e w1 ⟨rfl,-,hb1⟩;have HB1:=ak (hb1 hp);rw[hp];clear hb1;go_wp2;go_ret;exact⟨zl (uh HF).symm,fun h=>absurd h (by rw[uh HF];decide),fun _=>uh HB1⟩
   ·have A':∀j,j<k+1->q j=true:=by
     intro j h1
     by_cases e:j=k
     ·subst e;exact hp
     ·exact uh HA j (by omega)
    have HA':=ak A';clear A';go_wp2_with fail;refine(uh HC).mono ?_;rintro e w1 ⟨rfl,hb1,-⟩;have HB1:=ak (hb1 hp);rw[hp];clear hb1;go_wp2
    go_roundg (xs.length-(k+1))
    case measure=>have:=uh HG;omega
    case rel=>exact⟨k+1,by omega,rfl,by go_num,uh HB1,uh HA'⟩
  ·have e:k=xs.length:=by omega
   have HT:Hid ((List.range xs.length).all q=true):=by
    refine ak ?_;rw[yc];intro x hx;exact uh HA x (by have:=uz.1 hx;omega)
   have HE:=ak (e▸uh Ae);go_wp2;go_ret;exact⟨zl (uh HT).symm,fun _=>uh HE,fun h=>absurd h (by rw[uh HT];decide)⟩
theorem ar8 (pb:Nat) (I:Nat->cu->Prop) (J:cu->Prop) (q:Nat->Bool) (xs:List l9) (v:Value) (w:cu) (hS:∀k wr,I k wr->jc 3 32 Gg 0 wr v xs) (hI:∀k w1 w2,I k w1->Below w1.heap.size w1 w2->I k w2)
  (hf:∀k (hk:k<xs.length) cs wr,I k wr->Gg 0 wr cs xs[k]->Calls Tryz.prog 190 #[.pointer (some ⟨pb,0,none⟩),aln cs] wr fun e w'=>e=.returned (.bool (q k))/\(q k=true->I (k+1) w')/\(q k=false->J w')) (h0:I 0 w) :
  Calls Tryz.prog 189 #[v,.func (.func 190) #[.pointer (some ⟨pb,0,none⟩)] #[]] w fun e w'=>e=.returned (.bool ((List.range xs.length).all q))/\((List.range xs.length).all q=true->I xs.length w')/\((List.range xs.length).all q=false->J w'):=by
 obtain⟨a,cap,rfl⟩:=(hS 0 w h0).shape;have hn:=(hS 0 w h0).Ob;have HS:=ak hS;have HI:=ak hI;have Rq:=ak hf;have H0:=ak h0;clear hS hI hf h0;go_enter Tryz.func189,Tryz.ntmps189;go_wp2
 go_loopg [6,9] xs.length (fun g x i wr=>∃(k:Nat),k<=xs.length/\g=xs.length-k/\i=.int .i64 k/\I k wr/\∀j,j<k->q j=true)
 case atStart=>exact⟨0,jg _,by omega,rfl,uh H0,fun j h=>absurd h (yu _)⟩
 case round =>
  obtain⟨k,hk,hg,rfl,hbl,hall⟩:=hrel;have HG:=ak hg;have HA:=ak hall;have Ae:=ak hbl;clear hg hall hbl
  by_cases hlt:k<xs.length
  ·obtain⟨_,_,Ja,_,_,Fh⟩:=uh HS k wr (uh Ae)
   simp only[qw] at Ja;obtain⟨rfl,_,rfl⟩:=Ja;obtain⟨b,o,cs,rfl,_,hb,hcs,hc,hR⟩:=Fh k hlt;clear Fh;have hcall:=fun ob=>uh Rq k hlt cs (wr.alloc ob) (uh HI k wr _ (uh Ae) ((iq _ _).alloc (gu _) ob)) (Ad.stays _ _ _ _ _ ((iq _ _).alloc (gu _) ob) hR)
   obtain⟨rfl,hsn,ho,hv⟩:=hR;have c0:=hc 0 (by simp);have c1:=hc 1 (by simp);have c2:=hc 2 (by simp);simp only[jr,ji,og,ou] at c0 c1 c2;simp only[aln,List.headD_cons] at hcall;have HC:=ak hcall;clear hc hcs hcall
   cases hp:q k
   ·have HF:Hid ((List.range xs.length).all q=false):=by
     refine ak ?_;rw[List.all_eq_false];exact⟨k,uz.2 hlt,by rw[hp];decide⟩
    go_wp2_with fail;refine(uh HC _).mono ?_;rintro e w1 ⟨rfl,-,hb1⟩;have HB1:=ak (hb1 hp);rw[hp];clear hb1;go_wp2;go_ret;exact⟨zl (uh HF).symm,fun h=>absurd h (by rw[uh HF];decide),fun _=>uh HB1⟩
   ·have A':∀j,j<k+1->q j=true:=by
     intro j h1
     by_cases e:j=k
     ·subst e;exact hp
     ·exact uh HA j (by omega)
    have HA':=ak A';clear A';go_wp2_with fail;refine(uh HC _).mono ?_;rintro e w1 ⟨rfl,hb1,-⟩;have HB1:=ak (hb1 hp);rw[hp];clear hb1;go_wp2
    go_roundg (xs.length-(k+1))
    case measure=>have:=uh HG;omega
    case rel=>exact⟨k+1,by omega,rfl,by go_num,uh HB1,uh HA'⟩
  ·have e:k=xs.length:=by omega
   have HT:Hid ((List.range xs.length).all q=true):=by
    refine ak ?_;rw[yc];intro x hx;exact uh HA x (by have:=uz.1 hx;omega)
   have HE:=ak (e▸uh Ae);go_wp2;go_ret;exact⟨zl (uh HT).symm,fun _=>uh HE,fun h=>absurd h (by rw[uh HT];decide)⟩
theorem ar9 (pb:Nat) (I:Nat->cu->Prop) (J:cu->Prop) (q:Nat->Bool) (xs:List (List l9)) (v:Value) (w:cu) (hS:∀k wr,I k wr->jc 1 24 Ih 0 wr v xs) (hI:∀k w1 w2,I k w1->Below w1.heap.size w1 w2->I k w2)
  (hf:∀k (hk:k<xs.length) cs wr,I k wr->Ih 0 wr cs xs[k]->Calls Tryz.prog 186 #[.pointer (some ⟨pb,0,none⟩),ai8 cs] wr fun e w'=>e=.returned (.bool (q k))/\(q k=true->I (k+1) w')/\(q k=false->J w')) (h0:I 0 w) :
  Calls Tryz.prog 187 #[v,.func (.func 186) #[.pointer (some ⟨pb,0,none⟩)] #[]] w fun e w'=>e=.returned (.bool ((List.range xs.length).all q))/\((List.range xs.length).all q=true->I xs.length w')/\((List.range xs.length).all q=false->J w'):=by
 obtain⟨a,cap,rfl⟩:=(hS 0 w h0).shape;have hn:=(hS 0 w h0).Ob;have HS:=ak hS;have HI:=ak hI;have Rq:=ak hf;have H0:=ak h0;clear hS hI hf h0;go_enter Tryz.func187,Tryz.ntmps187;go_wp2
 go_loopg [6,9] xs.length (fun g x i wr=>∃(k:Nat),k<=xs.length/\g=xs.length-k/\i=.int .i64 k/\I k wr/\∀j,j<k->q j=true)
 case atStart=>exact⟨0,jg _,by omega,rfl,uh H0,fun j h=>absurd h (yu _)⟩
 case round =>
  obtain⟨k,hk,hg,rfl,hbl,hall⟩:=hrel;have HG:=ak hg;have HA:=ak hall;have Ae:=ak hbl;clear hg hall hbl
  by_cases hlt:k<xs.length
  ·obtain⟨_,_,Ja,_,_,Fh⟩:=uh HS k wr (uh Ae)
   simp only[qw] at Ja;obtain⟨rfl,_,rfl⟩:=Ja;obtain⟨b,o,cs,rfl,_,hb,hcs,hc,hR⟩:=Fh k hlt;clear Fh;have hcall:=uh Rq k hlt cs wr (uh Ae) hR;obtain⟨vl,rfl,hcl⟩:=hR;obtain⟨aa1,ca1,rfl⟩:=hcl.shape;clear hcl;have c0:=hc 0 (by simp);simp only[jr,ji,og,ou] at c0;simp only[ai8,List.headD_cons] at hcall;have HC:=ak hcall;clear hc hcs hcall
   cases hp:q k
   ·have HF:Hid ((List.range xs.length).all q=false):=by
     refine ak ?_;rw[List.all_eq_false];exact⟨k,uz.2 hlt,by rw[hp];decide⟩
    go_wp2_with fail;refine(uh HC).mono ?_;rintro e w1 ⟨rfl,-,hb1⟩;have HB1:=ak (hb1 hp);rw[hp];clear hb1;go_wp2;go_ret;exact⟨zl (uh HF).symm,fun h=>absurd h (by rw[uh HF];decide),fun _=>uh HB1⟩
   ·have A':∀j,j<k+1->q j=true:=by
     intro j h1
     by_cases e:j=k
     ·subst e;exact hp
     ·exact uh HA j (by omega)
    have HA':=ak A';clear A';go_wp2_with fail;refine(uh HC).mono ?_;rintro e w1 ⟨rfl,hb1,-⟩;have HB1:=ak (hb1 hp);rw[hp];clear hb1;go_wp2
    go_roundg (xs.length-(k+1))
    case measure=>have:=uh HG;omega
    case rel=>exact⟨k+1,by omega,rfl,by go_num,uh HB1,uh HA'⟩
  ·have e:k=xs.length:=by omega
   have HT:Hid ((List.range xs.length).all q=true):=by
    refine ak ?_;rw[yc];intro x hx;exact uh HA x (by have:=uz.1 hx;omega)
   have HE:=ak (e▸uh Ae);go_wp2;go_ret;exact⟨zl (uh HT).symm,fun _=>uh HE,fun h=>absurd h (by rw[uh HT];decide)⟩
theorem au9  (I:Nat->cu->Prop) (J:cu->Prop) (q:Nat->Bool) (xs:List Int) (v:Value) (w:cu) (hS:∀k wr,I k wr->jc 1 8 Jv 0 wr v xs) (hI:∀k w1 w2,I k w1->Below w1.heap.size w1 w2->I k w2)
  (hf:∀k (hk:k<xs.length) cs wr,I k wr->Jv 0 wr cs xs[k]->Calls Tryz.prog 149 #[am9 cs] wr fun e w'=>e=.returned (.bool (q k))/\(q k=true->I (k+1) w')/\(q k=false->J w')) (h0:I 0 w) :
  Calls Tryz.prog 148 #[v,.func (.func 149) #[] #[]] w fun e w'=>e=.returned (.bool ((List.range xs.length).all q))/\((List.range xs.length).all q=true->I xs.length w')/\((List.range xs.length).all q=false->J w'):=by
 obtain⟨a,cap,rfl⟩:=(hS 0 w h0).shape;have hn:=(hS 0 w h0).Ob;have HS:=ak hS;have HI:=ak hI;have Rq:=ak hf;have H0:=ak h0;clear hS hI hf h0;go_enter Tryz.func148,Tryz.ntmps148;go_wp2
 go_loopg [6,9] xs.length (fun g x i wr=>∃(k:Nat),k<=xs.length/\g=xs.length-k/\i=.int .i64 k/\I k wr/\∀j,j<k->q j=true)
 case atStart=>exact⟨0,jg _,by omega,rfl,uh H0,fun j h=>absurd h (yu _)⟩
 case round =>
  obtain⟨k,hk,hg,rfl,hbl,hall⟩:=hrel;have HG:=ak hg;have HA:=ak hall;have Ae:=ak hbl;clear hg hall hbl
  by_cases hlt:k<xs.length
  ·obtain⟨_,_,Ja,_,_,Fh⟩:=uh HS k wr (uh Ae)
   simp only[qw] at Ja;obtain⟨rfl,_,rfl⟩:=Ja;obtain⟨b,o,cs,rfl,_,hb,hcs,hc,hR⟩:=Fh k hlt;clear Fh;have hcall:=uh Rq k hlt cs wr (uh Ae) hR;obtain⟨rfl,hv⟩:=hR;have c0:=hc 0 (by simp);simp only[jr,ji,og,ou] at c0;simp only[am9,List.headD_cons] at hcall;have HC:=ak hcall;clear hc hcs hcall
   cases hp:q k
   ·have HF:Hid ((List.range xs.length).all q=false):=by
     refine ak ?_;rw[List.all_eq_false];exact⟨k,uz.2 hlt,by rw[hp];decide⟩
    go_wp2_with fail;refine(uh HC).mono ?_;rintro e w1 ⟨rfl,-,hb1⟩;have HB1:=ak (hb1 hp);rw[hp];clear hb1;go_wp2;go_ret;exact⟨zl (uh HF).symm,fun h=>absurd h (by rw[uh HF];decide),fun _=>uh HB1⟩
   ·have A':∀j,j<k+1->q j=true:=by
     intro j h1
     by_cases e:j=k
     ·subst e;exact hp
     ·exact uh HA j (by omega)
    have HA':=ak A';clear A';go_wp2_with fail;refine(uh HC).mono ?_;rintro e w1 ⟨rfl,hb1,-⟩;have HB1:=ak (hb1 hp);rw[hp];clear hb1;go_wp2
    go_roundg (xs.length-(k+1))
    case measure=>have:=uh HG;omega
    case rel=>exact⟨k+1,by omega,rfl,by go_num,uh HB1,uh HA'⟩
  ·have e:k=xs.length:=by omega
   have HT:Hid ((List.range xs.length).all q=true):=by
    refine ak ?_;rw[yc];intro x hx;exact uh HA x (by have:=uz.1 hx;omega)
   have HE:=ak (e▸uh Ae);go_wp2;go_ret;exact⟨zl (uh HT).symm,fun _=>uh HE,fun h=>absurd h (by rw[uh HT];decide)⟩
def Qq (v:Int):Bool:=decide (-2147483648<=v/\v<=2147483647)
theorem asa (v:Int) (w:cu):Calls Tryz.prog 149 #[.int .i64 v] w (fun e w'=>e=.returned (.bool (Qq v))/\w'=w):=by
 by_cases h1 : -2147483648<=v
 ·by_cases h2:v<=2147483647
  ·have e:Qq v=true:=by simp[Qq];omega
   rw[e];go_enter Tryz.func149,Tryz.ntmps149;go_wp2;go_ret;exact⟨rfl,rfl⟩
  ·have e:Qq v=false:=by simp[Qq];omega
   rw[e];go_enter Tryz.func149,Tryz.ntmps149;go_wp2;go_ret;exact⟨rfl,rfl⟩
 ·have e:Qq v=false:=by simp[Qq];omega
  rw[e];go_enter Tryz.func149,Tryz.ntmps149;go_wp2;go_ret;exact⟨rfl,rfl⟩
def setB (k:dw) (x:dh):Bool:=decide ((k.ins.length:Int)<=je (varsOf k) x)
structure Ot (w:cu) (k:dw) (a1 a2 a3 a4 a5 a6:Value):Prop where
 ins:jc 2 24 Oq 0 w a1 k.ins
 au:jc 2 24 Oq 0 w a2 k.au
 iw:jc 1 16 xk 0 w a3 k.iw
 gq:jc 1 8 Jv 0 w a4 k.gq
 ay:jc 1 8 Jv 0 w a5 k.ay
 body:jc 6 104 Zq 0 w a6 k.body
 name:Len k.name.size
 sum:k.ins.length+k.au.length+k.iw.length<=1048576
theorem Ot.stays {w w':cu} {k:dw} {a1 a2 a3 a4 a5 a6:Value} (h:Ot w k a1 a2 a3 a4 a5 a6) (hb:Below w.heap.size w w'):Ot w' k a1 a2 a3 a4 a5 a6 :=
 ⟨h.ins.stays Ii hb,h.au.stays Ii hb,h.iw.stays zk hb,h.gq.stays E8 hb,h.ay.stays E8 hb,h.body.stays Px hb,h.name,h.sum⟩
theorem O4 (k:dw) (x:dh) (a1 a2 a3 a4 a5 a6:Value) (w:cu) (h:Ot w k a1 a2 a3 a4 a5 a6) :
  Calls Tryz.prog 110 #[.agg #[.string k.name,a1,a2,a3,a4,a5,a6],.string x] w (Ans (.bool (setB k x)) w):=by
 have HI:=ak h;obtain⟨b1,c1,rfl⟩:=h.ins.shape;have hl:k.ins.length<=1048576:=by have:=h.sum;omega
 obtain⟨b2,c2,rfl⟩:=h.au.shape;obtain⟨b3,c3,rfl⟩:=h.iw.shape;obtain⟨b4,c4,rfl⟩:=h.gq.shape;obtain⟨b5,c5,rfl⟩:=h.ay.shape;obtain⟨b6,c6,rfl⟩:=h.body.shape;clear h;have B0:=ak ((iq w.heap.size w).alloc (gu _) (.cells #[.string k.name,.slice b1 k.ins.length c1,.slice b2 k.au.length c2,.slice b3 k.iw.length c3,.slice b4 k.gq.length c4,.slice b5 k.ay.length c5,.slice b6 k.body.length c6] 50));have HS:Hid (setB k x=decide ((k.ins.length:Int)<=je (varsOf k) x)):=rfl;have HV:=ak (fun w' (hb:Below w.heap.size w w')=>Py k _ _ _ (.slice b4 k.gq.length c4) (.slice b5 k.ay.length c5) (.slice b6 k.body.length c6) w' ((uh HI).stays hb).ins ((uh HI).stays hb).au ((uh HI).stays hb).iw (uh HI).sum);have hpb:=Xw (varsOf k) x;generalize setB k x=sb at *;generalize k.name=s at *;generalize k.ins.length=n1 at *;generalize k.au.length=n2 at *;generalize k.iw.length=n3 at *;generalize k.gq.length=n4 at *;generalize k.ay.length=n5 at *;generalize k.body.length=n6 at *;go_enter Tryz.func110,Tryz.ntmps110;go_wp2_with fail;have B0d:Hid (Below w.heap.size w (w.alloc (.cells #[.string s,.slice b1 n1 c1,.slice b2 n2 c2,.slice b3 n3 c3,.slice b4 n4 c4,.slice b5 n5 c5,.slice b6 n6 c6] 50)).drew):=(uh B0).drew;have HCV:=ak (uh HV _ (uh B0d))
 go_region_with (first|(go_at_call 81;refine(uh HCV).mono ?_;rintro e w1 ⟨vv,rfl,hVS,hb1⟩;have k1:w1.cell? ⟨w.heap.size,1,none⟩=some (.slice b1 n1 c1):=(hb1.cell (p:=⟨w.heap.size,1,none⟩) (by simp)).trans (by simp[zu]);have HB1:=ak ((uh B0d).trans (hb1.mono (uh B0d).size));have Fa:=ak (D6 (varsOf k) _ x w1 hVS);clear hVS hb1)|(go_at_call 20;refine(uh Fa).mono ?_;rintro e w2 ⟨rfl,rfl⟩))
 all_goals
  go_wp2;go_ret;refine⟨zl ?_,uh HB1⟩;rw[uh HS]
structure But (S:List Nat) (w w':cu):Prop where
 os:w'.os=w.os
 tape:w'.tape=w.tape
 output:w'.output=w.output
 size:w.heap.size<=w'.heap.size
 block:∀k,k<w.heap.size->k∉S->w'.heap[k]?=w.heap[k]?
theorem But.refl (S:List Nat) (w:cu):But S w w:=⟨rfl,rfl,rfl,gu _,fun _ _ _=>rfl⟩
theorem But.trans {S:List Nat} {a b c:cu} (h:But S a b) (k:But S b c):But S a c :=
 ⟨k.os.trans h.os,k.tape.trans h.tape,k.output.trans h.output,ku h.size k.size,fun i hi hs=>(k.block i (qg hi h.size) hs).trans (h.block i hi hs)⟩
theorem But.of_below {S:List Nat} {w w':cu} (h:Below w.heap.size w w'):But S w w':=⟨h.os,h.tape,h.output,h.size,fun k hk _=>h.block k hk⟩
theorem But.below {S:List Nat} {w w':cu} (h:But S w w') (B:Nat) (hB:B<=w.heap.size) (hs:∀k,k∈S->B<=k):Below B w w' :=
 ⟨h.os,h.tape,h.output,h.size,fun k hk=>h.block k (by omega) (fun e=>by have:=hs k e;omega)⟩
theorem But.mono {S T:List Nat} {w w':cu} (h:But S w w') (hs:∀k,k∈S->k∈T\/w.heap.size<=k):But T w w' :=
 ⟨h.os,h.tape,h.output,h.size,fun k hk hn=>h.block k hk (fun e=>by rcases hs k e with h1|h1;exact hn h1;omega)⟩
theorem But.grown {S:List Nat} {w w':cu} {g:Nat} (h:w.grownBy w' (some g)) (hg:g∈S\/w.heap.size<=g):But S w w' :=
 ⟨h.os,h.tape,h.output,h.size,fun k hk hn=>h.block k hk (fun e=>by simp only[uw] at e;subst e;rcases hg with h1|h1;exact hn h1;omega)⟩
theorem But.setCell {S:List Nat} (w:cu) {p:Addr} (hp:p.block∈S) (u:Value):But S w (w.setCell p u) :=
 ⟨rfl,rfl,rfl,by simp[World.setCell],fun k hk hn=>zf _ _ _ _ (fun e=>hn (e▸hp))⟩
theorem But.drew {S:List Nat} {a w:cu} (h:But S a w):But S a w.drew:=⟨h.os,h.tape,h.output,h.size,h.block⟩
theorem But.cell {S:List Nat} {w w':cu} (h:But S w w') {p:Addr} (hp:p.block<w.heap.size) (hn:p.block∉S):w'.cell? p=w.cell? p:=World.cell?_of_block (w:=w) (h.block p.block hp hn)
theorem But.blk {S:List Nat} {w w':cu} (h:But S w w') {g:Nat} {e:TypeId} {cs:Array Value} (hb:jd w g e cs) (hn:g∉S):jd w' g e cs:=(h.block g hb.lt hn).trans hb
theorem But.map {S:List Nat} {w w':cu} (h:But S w w') {P:Program} {k:TypeId} {b n:Nat} {f:dh->Option Value} (hm:Jk P k w b n f) (hn:b∉S):Jk P k w' b n f:=hm.block (h.block b hm.lt hn)
def acz (f:dh->Option Value) (s:dh) (v:Value):dh->Option Value:=fun x=>if x=s then some v else f x
theorem agw (f:dh->Option Value) (s:dh) (v:Value):acz f s v s=some v:=gy rfl
theorem aef (f:dh->Option Value) (s:dh) (v:Value) (x:dh) (h:x≠s):acz f s v x=f x:=bf h
def aeg (f:dh->Option Value) (s:dh):Bool:=(f s).isNone&&nameB s
abbrev Iu (w:cu) (b n:Nat) (f:dh->Option Value):Prop:=Jk Tryz.prog 9 w b n f
theorem Yb (w:cu):(zeroValue 3).run Tryz.prog w=.ok (.int .i64 0) w:=by kernel_rfl
theorem asb (pb mb n:Nat) (f:dh->Option Value) (s:dh) (w:cu) (hs:Len s.size) (hn:n<=2000) (hc:w.cell? ⟨pb,1,none⟩=some (.map (some mb))) (hM:Iu w mb n f) :
  Calls Tryz.prog 147 #[.pointer (some ⟨pb,0,none⟩),.string s] w fun e w'=>e=.returned (.bool (aeg f s))/\(aeg f s=true->Iu w' mb (n+1) (acz f s (.int .i64 n))/\But [mb] w w')/\(aeg f s=false->Below w.heap.size w w'):=by
 have hs':s.size<=maxLen:=by unfold Len at hs;unfold maxLen;omega
 have HM:=ak hM;have HNM:=ak (afo s w hs)
 cases hf:f s with
 | some v =>
  rw[show aeg f s=false by unfold aeg;rw[hf];rfl];have hlk:=hM.hit Tryz.underlying9 Tryz.underlying33 (Yb w) hs' hf;clear hM hf;go_enter Tryz.func147,Tryz.ntmps147;go_wp2;go_ret;exact⟨rfl,(fun h=>by cases h),fun _=>iq _ _⟩
 | none =>
  have hlk:=hM.miss Tryz.underlying9 Tryz.underlying33 (Yb w) hs' hf;rw[show aeg f s=nameB s by unfold aeg;rw[hf];rfl];have Rq:=ak hf;clear hM hf;generalize nameB s=nb at *
  cases nb
  ·go_enter Tryz.func147,Tryz.ntmps147
   go_wp2_with fail;refine(uh HNM).mono ?_;rintro e w1 ⟨rfl,hb1⟩;have HB1:=ak hb1;clear hb1;go_wp2;go_ret;exact⟨rfl,(fun h=>by cases h),fun _=>uh HB1⟩
  ·go_enter Tryz.func147,Tryz.ntmps147
   go_wp2_with fail;refine(uh HNM).mono ?_;rintro e w1 ⟨rfl,hb1⟩;have c1:w1.cell? ⟨pb,1,none⟩=some (.map (some mb)):=by rw[hb1.cell (p:=⟨pb,1,none⟩) (Jh w _ hc)];exact hc
   have hM1:Iu w1.drew mb n f:=((uh HM).below hb1 (uh HM).lt).block rfl;obtain⟨w2,hst,hM2,hg⟩:=hM1.store Tryz.underlying9 Tryz.underlying33 (by unfold maxLen;omega) hs' (uh Rq) (.int .i64 (n:Int));have hln:∀ty,(Builtin.len_ #[33] ty #[.map (some mb)]).run Tryz.prog w1.drew=.ok (.int .i64 (n:Int)) w1.drew:=fun ty=>hM1.len Tryz.underlying33 ty
   have HP:Hid (Iu w2 mb (n+1) (acz f s (.int .i64 n))/\But [mb] w w2):=⟨hM2 _ (agw _ _ _) (fun x hx=>aef _ _ _ x hx),(But.of_below hb1).drew.trans (But.grown hg (Or.inl (yt.2 rfl)))⟩;clear hb1 hM1 hM2 hg hc hlk;go_wp2_with fail;go_region;go_wp2;go_ret;exact⟨rfl,(fun _=>uh HP),fun h=>by cases h⟩
theorem zi {x s:dh}:(x.toList==s.toList)=decide (x=s):=by
 rw[Oa,Ey,D8,ByteArray.toList_eq,ByteArray.toList_eq];exact⟨fun h=>bytes_eq h,fun h=>by rw[h]⟩
theorem ach (l:List dh) (s:dh):je l s<0↔∀x,x∈l->x≠s:=by
 unfold je
 cases h:l.findIdx? (fun x=>x.toList==s.toList) with
 | none =>
  rw[List.findIdx?_eq_none_iff] at h;simp only[zi,Nh] at h;exact⟨fun _=>h,fun _=>by simp⟩
 | some i =>
  obtain⟨hi,h1,_⟩:=List.findIdx?_eq_some_iff_getElem.1 h;rw[zi,D8] at h1;exact⟨fun h2=>absurd h2 (by simp),fun h2=>absurd h1 (h2 _ (o7 hi))⟩
theorem asc (l:List dh) (s x:dh) (h:je l s<0):je (l++[s]) x=if x=s then (l.length:Int) else je l x:=by
 by_cases e:x=s
 ·subst e
  rw[gy rfl];refine aci (l++[x]) l.length x (by simp) (by simp) (fun j hj hjk=>?_);rw[Qx hjk,zi,Nh];exact(ach l x).1 h _ (o7 hjk)
 ·rw[bf e]
  unfold je;rw[List.findIdx?_append]
  have:[s].findIdx? (fun y=>y.toList==x.toList)=none:=by
   rw[List.findIdx?_eq_none_iff];intro y hy;rw[yt] at hy;subst hy;rw[zi,Nh];exact fun h=>e h.symm
  rw[this];simp
def Ce (l:List dh):dh->Option Value:=fun s=>if 0<=je l s then some (.int .i64 (je l s)) else none
theorem ase (l:List dh) (s:dh) (h:je l s<0):acz (Ce l) s (.int .i64 l.length)=Ce (l++[s]):=by
 funext x;unfold Ce acz;rw[asc l s x h]
 by_cases e:x=s
 ·rw[gy e,gy e,gy (by omega)]
 ·rw[bf e,bf e]
theorem asf (l:List dh) (s:dh):aeg (Ce l) s=(decide (je l s<0)&&nameB s):=by
 unfold aeg Ce
 split
 ·rw[iy (by omega)];rfl
 ·rw[jf (by omega)];rfl
theorem aeh (l:List dh) (s:dh) (h:0<=je l s):Ce l s=some (.int .i64 (je l s)):=gy h
theorem ac0 (l:List dh) (s:dh) (h:je l s<0):Ce l s=none:=bf (by omega)
def Ry (l:List dh) (s:dh):Bool:=decide (je l s<0)&&nameB s
def aei (l:List dh) (t:jw):Bool:=decide (t.type=1\/t.type=2)&&Ry l t.name
def aqt (ok:Bool) (l:List dh) (s:dh) (mb:Nat) (w:cu) (e:Ending) (w':cu):Prop :=
 e=.returned (.bool ok)/\(ok=true->Iu w' mb (l.length+1) (Ce (l++[s]))/\But [mb] w w')/\(ok=false->Below w.heap.size w w')
theorem Nq {a b:Bool} (h:a=b):Ending.returned (Value.bool a)=.returned (.bool b):=by rw[h]
theorem ai9 (pb mb:Nat) (l:List dh) (s:dh) (w:cu) (hs:Len s.size) (hn:l.length<=2000) (hc:w.cell? ⟨pb,1,none⟩=some (.map (some mb))) (hM:Iu w mb l.length (Ce l)) :
  Calls Tryz.prog 147 #[.pointer (some ⟨pb,0,none⟩),.string s] w (aqt (Ry l s) l s mb w):=by
 refine(asb pb mb l.length (Ce l) s w hs hn hc hM).mono ?_;rintro e w' ⟨rfl,h1,h2⟩;rw[asf] at h1 h2 ⊢;refine⟨rfl,fun h=>?_,h2⟩;obtain⟨g1,g2⟩:=h1 h
 have:je l s<0:=by
  unfold Ry at h;rw[uy] at h;exact xw h.1
 rw[ase l s this] at g1;exact⟨g1,g2⟩
theorem asg (pb mb:Nat) (l:List dh) (t:jw) (w:cu) (hs:Len t.name.size) (hn:l.length<=2000) (hc:w.cell? ⟨pb,1,none⟩=some (.map (some mb))) (hM:Iu w mb l.length (Ce l)) :
  Calls Tryz.prog 145 #[.pointer (some ⟨pb,0,none⟩),.agg #[.string t.name,.int .i64 t.type]] w (aqt (aei l t) l t.name mb w):=by
 have hA:Below w.heap.size w (w.alloc (.cells #[.string t.name,.int .i64 t.type] 54)):=(iq _ _).alloc (gu _) _;have c1:(w.alloc (.cells #[.string t.name,.int .i64 t.type] 54)).cell? ⟨pb,1,none⟩=some (.map (some mb)):=by rw[hA.cell (p:=⟨pb,1,none⟩) (Jh w _ hc)];exact hc
 have HN:=ak (ai9 pb mb l t.name _ hs hn c1 (hM.below hA hM.lt));have HT:=ak (fun w=>au8 t.type w);have HA:=ak hA;have HS:Hid (aei l t=(decide (t.type=1\/t.type=2)&&Ry l t.name)):=rfl;clear c1 hA hM;generalize aei l t=R at *;generalize Ry l t.name=nb at *;generalize decide (t.type=1\/t.type=2)=tb at *;obtain⟨nm,ty⟩:=t;simp only at *
 cases tb
 ·have e:R=false:=(uh HS).trans (Aw _)
  subst e;go_enter Tryz.func145,Tryz.ntmps145;go_wp2_with fail;refine(uh HT _).mono ?_;rintro e w1 ⟨rfl,rfl⟩;go_wp2;go_ret;exact⟨rfl,(fun h=>by cases h),fun _=>uh HA⟩
 ·have e:R=nb:=(uh HS).trans (Ak _)
  subst e;go_enter Tryz.func145,Tryz.ntmps145;go_wp2_with fail;refine(uh HT _).mono ?_;rintro e w1 ⟨rfl,rfl⟩;go_wp2_with fail;refine(uh HN).mono ?_;rintro e w1 ⟨rfl,h1,h2⟩;have H1:=ak h1;have H2:=ak h2;clear h1 h2;go_wp2;go_ret;refine⟨rfl,fun h=>?_,fun h=>(uh HA).trans ((uh H2 h).mono (uh HA).size)⟩;obtain⟨g1,g2⟩:=uh H1 h;exact⟨g1,(But.of_below (uh HA)).trans g2⟩
structure CA (w:cu) (cb co:Nat) (k:dw) (a1 a2 a3 a4 a5 a6:Value):Prop where
 lt:cb<w.heap.size
 c0:w.cell? ⟨cb,co,none⟩=some (.string k.name)
 c1:w.cell? ⟨cb,co+1,none⟩=some a1
 c2:w.cell? ⟨cb,co+2,none⟩=some a2
 c3:w.cell? ⟨cb,co+3,none⟩=some a3
 c4:w.cell? ⟨cb,co+4,none⟩=some a4
 c5:w.cell? ⟨cb,co+5,none⟩=some a5
 c6:w.cell? ⟨cb,co+6,none⟩=some a6
 name:Len k.name.size
 ins:jc 2 24 Oq 0 w a1 k.ins
 au:jc 2 24 Oq 0 w a2 k.au
 iw:jc 1 16 xk 0 w a3 k.iw
 gq:jc 1 8 Jv 0 w a4 k.gq
 ay:jc 1 8 Jv 0 w a5 k.ay
 body:jc 6 104 Zq 0 w a6 k.body
theorem CA.stays {w w':cu} {cb co:Nat} {k:dw} {a1 a2 a3 a4 a5 a6:Value} (h:CA w cb co k a1 a2 a3 a4 a5 a6) (hb:Below w.heap.size w w'):CA w' cb co k a1 a2 a3 a4 a5 a6:=by
 have hc:∀j,w'.cell? ⟨cb,j,none⟩=w.cell? ⟨cb,j,none⟩:=fun j=>hb.cell (p:=⟨cb,j,none⟩) h.lt
 exact⟨qg h.lt hb.size,(hc _).trans h.c0,(hc _).trans h.c1,(hc _).trans h.c2,(hc _).trans h.c3,(hc _).trans h.c4,(hc _).trans h.c5,(hc _).trans h.c6,h.name,h.ins.stays Ii hb,h.au.stays Ii hb,h.iw.stays zk hb,h.gq.stays E8 hb,h.ay.stays E8 hb,h.body.stays Px hb⟩
def Pj (pre:List dh) (xs:List jw) (j:Nat):Bool:=match xs[j]? with|some t=>aei (pre++(xs.take j).map jw.name) t|none=>false
def U0 (pre:List dh) (xs:List dh) (j:Nat):Bool:=match xs[j]? with|some s=>Ry (pre++xs.take j) s|none=>false
theorem ana (pb mb:Nat) (pre:List dh) (xs:List jw) (v:Value) (W0 w:cu) (hv:jc 2 24 Oq 0 W0 v xs) (hW:Below W0.heap.size W0 w) (hmb:W0.heap.size<=mb) (hpb:pb≠mb) (hn:pre.length+xs.length<=2000) (hc:w.cell? ⟨pb,1,none⟩=some (.map (some mb))) (hM:Iu w mb pre.length (Ce pre)) :
  Calls Tryz.prog 144 #[v,.func (.func 145) #[.pointer (some ⟨pb,0,none⟩)] #[]] w fun e w'=>e=.returned (.bool ((List.range xs.length).all (Pj pre xs)))/\((List.range xs.length).all (Pj pre xs)=true->Iu w' mb (pre.length+xs.length) (Ce (pre++xs.map jw.name)))/\But [mb] w w':=by
 have hpl:pb<w.heap.size:=Jh w _ hc;refine(ar6 pb (fun k wr=>Iu wr mb (pre.length+min k xs.length) (Ce (pre++(xs.take k).map jw.name))/\But [mb] w wr) (fun wr=>But [mb] w wr) (Pj pre xs) xs v w ?_ ?_ ?_ ?_).mono ?_
 ·rintro k wr ⟨_,hb⟩
  exact hv.stays Ii (hW.trans (hb.below _ hW.size (fun q hq=>by rw[yt] at hq;omega)))
 ·rintro k w1 w2 ⟨h1,h2⟩ hb
  exact⟨h1.below hb h1.lt,h2.trans (But.of_below hb)⟩
 ·rintro k hk cs wr ⟨h1,h2⟩ hR
  have hc':wr.cell? ⟨pb,1,none⟩=some (.map (some mb)):=by rw[h2.cell (p:=⟨pb,1,none⟩) hpl (by simpa using hpb)];exact hc
  obtain⟨rfl,hs,_⟩:=hR;have hl:(pre++(xs.take k).map jw.name).length=pre.length+min k xs.length:=by simp
  have:=asg pb mb (pre++(xs.take k).map jw.name) xs[k] wr hs (by rw[hl];omega) hc' (by rw[hl];exact h1);refine this.mono ?_;rintro e w' ⟨rfl,g1,g2⟩;have hq:Pj pre xs k=aei (pre++(xs.take k).map jw.name) xs[k]:=by unfold Pj;rw[jy hk]
  rw[hq];refine⟨rfl,fun h=>?_,fun h=>h2.trans (But.of_below (g2 h))⟩;obtain⟨r1,r2⟩:=g1 h;refine⟨?_,h2.trans r2⟩;rw[hl] at r1;have e1:pre.length+min k xs.length+1=pre.length+min (k+1) xs.length:=by omega
  rw[e1] at r1
  have e2:pre++List.map jw.name (List.take k xs)++[xs[k].name]=pre++List.map jw.name (List.take (k+1) xs):=by
   rw[Eu hk,Ig,Gl];rfl
  rw[e2] at r1;exact r1
 ·simpa using ⟨hM,But.refl _ _⟩
 ·rintro e w' ⟨rfl,h1,h2⟩
  refine⟨rfl,fun h=>?_,?_⟩
  ·have:=(h1 h).1
   simpa using this
  ·cases hh:(List.range xs.length).all (Pj pre xs)
   ·exact h2 hh
   ·exact(h1 hh).2
theorem ayg (pb mb:Nat) (pre:List dh) (xs:List dh) (v:Value) (W0 w:cu) (hv:jc 1 16 xk 0 W0 v xs) (hW:Below W0.heap.size W0 w) (hmb:W0.heap.size<=mb) (hpb:pb≠mb) (hn:pre.length+xs.length<=2000) (hc:w.cell? ⟨pb,1,none⟩=some (.map (some mb))) (hM:Iu w mb pre.length (Ce pre)) :
  Calls Tryz.prog 146 #[v,.func (.func 147) #[.pointer (some ⟨pb,0,none⟩)] #[]] w fun e w'=>e=.returned (.bool ((List.range xs.length).all (U0 pre xs)))/\((List.range xs.length).all (U0 pre xs)=true->Iu w' mb (pre.length+xs.length) (Ce (pre++xs)))/\But [mb] w w':=by
 have hpl:pb<w.heap.size:=Jh w _ hc;refine(ar7 pb (fun k wr=>Iu wr mb (pre.length+min k xs.length) (Ce (pre++xs.take k))/\But [mb] w wr) (fun wr=>But [mb] w wr) (U0 pre xs) xs v w ?_ ?_ ?_ ?_).mono ?_
 ·rintro k wr ⟨_,hb⟩
  exact hv.stays zk (hW.trans (hb.below _ hW.size (fun q hq=>by rw[yt] at hq;omega)))
 ·rintro k w1 w2 ⟨h1,h2⟩ hb
  exact⟨h1.below hb h1.lt,h2.trans (But.of_below hb)⟩
 ·rintro k hk cs wr ⟨h1,h2⟩ hR
  have hc':wr.cell? ⟨pb,1,none⟩=some (.map (some mb)):=by rw[h2.cell (p:=⟨pb,1,none⟩) hpl (by simpa using hpb)];exact hc
  obtain⟨rfl,hs⟩:=hR;have hl:(pre++xs.take k).length=pre.length+min k xs.length:=by simp
  have:=ai9 pb mb (pre++xs.take k) xs[k] wr hs (by rw[hl];omega) hc' (by rw[hl];exact h1);refine this.mono ?_;rintro e w' ⟨rfl,g1,g2⟩;have hq:U0 pre xs k=Ry (pre++xs.take k) xs[k]:=by unfold U0;rw[jy hk]
  rw[hq];refine⟨rfl,fun h=>?_,fun h=>h2.trans (But.of_below (g2 h))⟩;obtain⟨r1,r2⟩:=g1 h;refine⟨?_,h2.trans r2⟩;rw[hl] at r1;have e1:pre.length+min k xs.length+1=pre.length+min (k+1) xs.length:=by omega
  rw[e1] at r1
  have e2:pre++List.take k xs++[xs[k]]=pre++List.take (k+1) xs:=by
   rw[Eu hk];simp
  rw[e2] at r1;exact r1
 ·simpa using ⟨hM,But.refl _ _⟩
 ·rintro e w' ⟨rfl,h1,h2⟩
  refine⟨rfl,fun h=>?_,?_⟩
  ·have:=(h1 h).1
   simpa using this
  ·cases hh:(List.range xs.length).all (U0 pre xs)
   ·exact h2 hh
   ·exact(h1 hh).2
end Go.Proofs.YtfeejeflmcapoaaGreatDoor
