import Derived.Test.YtflcnhfakcgkeaaGreatMapF
import Derived.Lib.ConvBytes
namespace Go.Proofs.YtflcnhfakcgkeaaGreat
open Go.RowKit
set_option linter.unusedSimpArgs false
set_option linter.unusedVariables false
def Xc (_:Nat) (_:World) (cs:List Value) (x:Int):Prop:=cs=[.int .u8 x]∧0<=x∧x<=255
theorem aee:Gm Xc:=fun _ _ _ _ _ _ h=>h
def Ql (cs:List Value):Value:=cs.headD (.bool false)
def ac0 (cs:List Value):Value:=cs.headD (.bool false)
def Yy (cs:List Value):Value:=cs.headD (.bool false)
def aah (cs:List Value):Value:=.agg cs.toArray
def aax (cs:List Value):Value:=.agg cs.toArray
def Sm (cs:List Value):Value:=.agg cs.toArray
def ae9 (cs:List Value):Value:=.agg cs.toArray
def aag (cs:List Value):Value:=.agg cs.toArray
set_option maxHeartbeats 400000 in
theorem Ws (p:Int->Bool) (hf:∀(x:Int) cs w,Xc 0 w cs x->Calls Tryz.prog 144 #[Ql cs] w (Ans (.bool (p x)) w)) (xs:List Int) (v:Value) (w:World) (hv:bf 1 1 Xc 0 w v xs) :
  Calls Tryz.prog 143 #[v,.func (.func 144) #[] #[]] w (Ans (.bool (xs.all p)) w):=by
 obtain⟨a,cap,rfl,_,hn,hx⟩:=hv
 unfold Len at hn
 have HX:=hide hx
 have Ht:=hide hf
 clear hx hf
 go_enter Tryz.func143,Tryz.ntmps143
 go_wp2
 go_loopg [6,9] xs.length (fun g x i wr=>∃(k:Nat),k<=xs.length∧g=xs.length-k∧i=.int .i64 k∧Below w.heap.size w wr∧∀j (h:j<xs.length),j<k->p xs[j]=true)
 case atStart=>exact⟨0,Nat.zero_le _,by omega,rfl,Below.refl _ _,fun j _ h=>absurd h (Nat.not_lt_zero _)⟩
 case round =>
  obtain⟨k,hk,hg,rfl,hbl,hall⟩:=hrel
  have HG:=hide hg
  have HA:=hide hall
  clear hg hall
  by_cases hlt:k<xs.length
  ·obtain⟨b,o,cs,rfl,_,hb,hcs,hc,hR⟩:=uh HX k hlt
   have hR:=aee.stays _ _ _ _ _ hbl hR
   have hc:∀j (hj:j<cs.length),wr.cell? ⟨b,o+k*1+j,none⟩=some cs[j]:=fun j hj=>by rw[hbl.cell (p:=⟨b,_,none⟩) hb];exact hc j hj
   have hcall:=uh Ht xs[k] cs wr hR
   obtain⟨rfl,hx0,hx1⟩:=hR
   have c0:=hc 0 (by simp)
   simp only[Nat.mul_one,Nat.add_zero,List.getElem_cons_zero,List.getElem_cons_succ] at c0
   simp only[Ql,List.headD_cons] at hcall
   have HC:=hide hcall
   clear hc hcs hcall
   cases hp:p xs[k]
   ·have F:xs.all p=false:=by
     rw[List.all_eq_false]
     exact⟨xs[k],List.getElem_mem hlt,by rw[hp];decide⟩
    have HF:=hide F
    clear F
    go_wp2_with fail
    refine(uh HC).mono ?_
    rintro e w1 ⟨rfl,hb1⟩
    rw[hp]
    go_wp2
    go_ret
    exact⟨gu (uh HF).symm,hbl.trans (hb1.mono hbl.size)⟩
   ·have A':∀j (h:j<xs.length),j<k+1->p xs[j]=true:=by
     intro j h h1
     by_cases e:j=k
     ·subst e;exact hp
     ·exact uh HA j h (by omega)
    have HA':=hide A'
    clear A'
    go_wp2_with fail
    refine(uh HC).mono ?_
    rintro e w1 ⟨rfl,hb1⟩
    rw[hp]
    go_wp2
    go_roundg (xs.length-(k+1))
    case measure=>have:=uh HG;omega
    case rel=>exact⟨k+1,by omega,rfl,by go_num,hbl.trans (hb1.mono hbl.size),uh HA'⟩
  ·have e:k=xs.length:=by omega
   have T:xs.all p=true:=by
    rw[List.all_eq_true]
    intro x hx
    obtain⟨j,hj,rfl⟩:=List.getElem_of_mem hx
    exact uh HA j hj (by omega)
   have HT:=hide T
   clear T
   go_wp2
   go_ret
   exact⟨gu (uh HT).symm,hbl⟩
set_option maxHeartbeats 400000 in
theorem Za (p:Int->Bool) (hf:∀(x:Int) cs w,Xc 0 w cs x->Calls Tryz.prog 146 #[Ql cs] w (Ans (.bool (p x)) w)) (xs:List Int) (v:Value) (w:World) (hv:bf 1 1 Xc 0 w v xs) :
  Calls Tryz.prog 143 #[v,.func (.func 146) #[] #[]] w (Ans (.bool (xs.all p)) w):=by
 obtain⟨a,cap,rfl,_,hn,hx⟩:=hv
 unfold Len at hn
 have HX:=hide hx
 have Ht:=hide hf
 clear hx hf
 go_enter Tryz.func143,Tryz.ntmps143
 go_wp2
 go_loopg [6,9] xs.length (fun g x i wr=>∃(k:Nat),k<=xs.length∧g=xs.length-k∧i=.int .i64 k∧Below w.heap.size w wr∧∀j (h:j<xs.length),j<k->p xs[j]=true)
 case atStart=>exact⟨0,Nat.zero_le _,by omega,rfl,Below.refl _ _,fun j _ h=>absurd h (Nat.not_lt_zero _)⟩
 case round =>
  obtain⟨k,hk,hg,rfl,hbl,hall⟩:=hrel
  have HG:=hide hg
  have HA:=hide hall
  clear hg hall
  by_cases hlt:k<xs.length
  ·obtain⟨b,o,cs,rfl,_,hb,hcs,hc,hR⟩:=uh HX k hlt
   have hR:=aee.stays _ _ _ _ _ hbl hR
   have hc:∀j (hj:j<cs.length),wr.cell? ⟨b,o+k*1+j,none⟩=some cs[j]:=fun j hj=>by rw[hbl.cell (p:=⟨b,_,none⟩) hb];exact hc j hj
   have hcall:=uh Ht xs[k] cs wr hR
   obtain⟨rfl,hx0,hx1⟩:=hR
   have c0:=hc 0 (by simp)
   simp only[Nat.mul_one,Nat.add_zero,List.getElem_cons_zero,List.getElem_cons_succ] at c0
   simp only[Ql,List.headD_cons] at hcall
   have HC:=hide hcall
   clear hc hcs hcall
   cases hp:p xs[k]
   ·have F:xs.all p=false:=by
     rw[List.all_eq_false]
     exact⟨xs[k],List.getElem_mem hlt,by rw[hp];decide⟩
    have HF:=hide F
    clear F
    go_wp2_with fail
    refine(uh HC).mono ?_
    rintro e w1 ⟨rfl,hb1⟩
    rw[hp]
    go_wp2
    go_ret
    exact⟨gu (uh HF).symm,hbl.trans (hb1.mono hbl.size)⟩
   ·have A':∀j (h:j<xs.length),j<k+1->p xs[j]=true:=by
     intro j h h1
     by_cases e:j=k
     ·subst e;exact hp
     ·exact uh HA j h (by omega)
    have HA':=hide A'
    clear A'
    go_wp2_with fail
    refine(uh HC).mono ?_
    rintro e w1 ⟨rfl,hb1⟩
    rw[hp]
    go_wp2
    go_roundg (xs.length-(k+1))
    case measure=>have:=uh HG;omega
    case rel=>exact⟨k+1,by omega,rfl,by go_num,hbl.trans (hb1.mono hbl.size),uh HA'⟩
  ·have e:k=xs.length:=by omega
   have T:xs.all p=true:=by
    rw[List.all_eq_true]
    intro x hx
    obtain⟨j,hj,rfl⟩:=List.getElem_of_mem hx
    exact uh HA j hj (by omega)
   have HT:=hide T
   clear T
   go_wp2
   go_ret
   exact⟨gu (uh HT).symm,hbl⟩
set_option maxHeartbeats 400000 in
theorem aay (p:ByteArray->Bool) (hf:∀(x:ByteArray) cs w,Cc 0 w cs x->Calls Tryz.prog 102 #[ac0 cs] w (Ans (.bool (p x)) w)) (xs:List ByteArray) (v:Value) (w:World) (hv:bf 1 16 Cc 0 w v xs) :
  Calls Tryz.prog 131 #[v,.func (.func 102) #[] #[]] w (Ans (.bool (xs.all p)) w):=by
 obtain⟨a,cap,rfl,_,hn,hx⟩:=hv
 unfold Len at hn
 have HX:=hide hx
 have Ht:=hide hf
 clear hx hf
 go_enter Tryz.func131,Tryz.ntmps131
 go_wp2
 go_loopg [6,9] xs.length (fun g x i wr=>∃(k:Nat),k<=xs.length∧g=xs.length-k∧i=.int .i64 k∧Below w.heap.size w wr∧∀j (h:j<xs.length),j<k->p xs[j]=true)
 case atStart=>exact⟨0,Nat.zero_le _,by omega,rfl,Below.refl _ _,fun j _ h=>absurd h (Nat.not_lt_zero _)⟩
 case round =>
  obtain⟨k,hk,hg,rfl,hbl,hall⟩:=hrel
  have HG:=hide hg
  have HA:=hide hall
  clear hg hall
  by_cases hlt:k<xs.length
  ·obtain⟨b,o,cs,rfl,_,hb,hcs,hc,hR⟩:=uh HX k hlt
   have hR:=uw.stays _ _ _ _ _ hbl hR
   have hc:∀j (hj:j<cs.length),wr.cell? ⟨b,o+k*1+j,none⟩=some cs[j]:=fun j hj=>by rw[hbl.cell (p:=⟨b,_,none⟩) hb];exact hc j hj
   have hcall:=uh Ht xs[k] cs wr hR
   obtain⟨rfl,hsn⟩:=hR
   have c0:=hc 0 (by simp)
   simp only[Nat.mul_one,Nat.add_zero,List.getElem_cons_zero,List.getElem_cons_succ] at c0
   simp only[ac0,List.headD_cons] at hcall
   have HC:=hide hcall
   clear hc hcs hcall
   cases hp:p xs[k]
   ·have F:xs.all p=false:=by
     rw[List.all_eq_false]
     exact⟨xs[k],List.getElem_mem hlt,by rw[hp];decide⟩
    have HF:=hide F
    clear F
    go_wp2_with fail
    refine(uh HC).mono ?_
    rintro e w1 ⟨rfl,hb1⟩
    rw[hp]
    go_wp2
    go_ret
    exact⟨gu (uh HF).symm,hbl.trans (hb1.mono hbl.size)⟩
   ·have A':∀j (h:j<xs.length),j<k+1->p xs[j]=true:=by
     intro j h h1
     by_cases e:j=k
     ·subst e;exact hp
     ·exact uh HA j h (by omega)
    have HA':=hide A'
    clear A'
    go_wp2_with fail
    refine(uh HC).mono ?_
    rintro e w1 ⟨rfl,hb1⟩
    rw[hp]
    go_wp2
    go_roundg (xs.length-(k+1))
    case measure=>have:=uh HG;omega
    case rel=>exact⟨k+1,by omega,rfl,by go_num,hbl.trans (hb1.mono hbl.size),uh HA'⟩
  ·have e:k=xs.length:=by omega
   have T:xs.all p=true:=by
    rw[List.all_eq_true]
    intro x hx
    obtain⟨j,hj,rfl⟩:=List.getElem_of_mem hx
    exact uh HA j hj (by omega)
   have HT:=hide T
   clear T
   go_wp2
   go_ret
   exact⟨gu (uh HT).symm,hbl⟩
set_option maxHeartbeats 400000 in
theorem Z8 (p:cu->Bool) (hf:∀(x:cu) cs w,jm 0 w cs x->Calls Tryz.prog 130 #[aah cs] w (Ans (.bool (p x)) w)) (xs:List cu) (v:Value) (w:World) (hv:bf 2 24 jm 0 w v xs) :
  Calls Tryz.prog 129 #[v,.func (.func 130) #[] #[]] w (Ans (.bool (xs.all p)) w):=by
 obtain⟨a,cap,rfl,_,hn,hx⟩:=hv
 unfold Len at hn
 have HX:=hide hx
 have Ht:=hide hf
 clear hx hf
 go_enter Tryz.func129,Tryz.ntmps129
 go_wp2
 go_loopg [6,9] xs.length (fun g x i wr=>∃(k:Nat),k<=xs.length∧g=xs.length-k∧i=.int .i64 k∧Below w.heap.size w wr∧∀j (h:j<xs.length),j<k->p xs[j]=true)
 case atStart=>exact⟨0,Nat.zero_le _,by omega,rfl,Below.refl _ _,fun j _ h=>absurd h (Nat.not_lt_zero _)⟩
 case round =>
  obtain⟨k,hk,hg,rfl,hbl,hall⟩:=hrel
  have HG:=hide hg
  have HA:=hide hall
  clear hg hall
  by_cases hlt:k<xs.length
  ·obtain⟨b,o,cs,rfl,_,hb,hcs,hc,hR⟩:=uh HX k hlt
   have hR:=lg.stays _ _ _ _ _ hbl hR
   have hc:∀j (hj:j<cs.length),wr.cell? ⟨b,o+k*2+j,none⟩=some cs[j]:=fun j hj=>by rw[hbl.cell (p:=⟨b,_,none⟩) hb];exact hc j hj
   have hcall:=fun ob=>uh Ht xs[k] cs (wr.alloc ob) (lg.stays _ _ _ _ _ ((Below.refl _ _).alloc (Nat.le_refl _) ob) hR)
   obtain⟨rfl,hsn⟩:=hR
   have c0:=hc 0 (by simp)
   have c1:=hc 1 (by simp)
   simp only[Nat.mul_one,Nat.add_zero,List.getElem_cons_zero,List.getElem_cons_succ] at c0 c1
   simp only[aah,List.headD_cons] at hcall
   have HC:=hide hcall
   clear hc hcs hcall
   cases hp:p xs[k]
   ·have F:xs.all p=false:=by
     rw[List.all_eq_false]
     exact⟨xs[k],List.getElem_mem hlt,by rw[hp];decide⟩
    have HF:=hide F
    clear F
    go_wp2_with fail
    refine(uh HC _).mono ?_
    rintro e w1 ⟨rfl,hb1⟩
    rw[hp]
    go_wp2
    go_ret
    exact⟨gu (uh HF).symm,hbl.trans (((Below.refl _ _).alloc hbl.size _).trans (hb1.mono (Nat.le_trans hbl.size (by simp))))⟩
   ·have A':∀j (h:j<xs.length),j<k+1->p xs[j]=true:=by
     intro j h h1
     by_cases e:j=k
     ·subst e;exact hp
     ·exact uh HA j h (by omega)
    have HA':=hide A'
    clear A'
    go_wp2_with fail
    refine(uh HC _).mono ?_
    rintro e w1 ⟨rfl,hb1⟩
    rw[hp]
    go_wp2
    go_roundg (xs.length-(k+1))
    case measure=>have:=uh HG;omega
    case rel=>exact⟨k+1,by omega,rfl,by go_num,hbl.trans (((Below.refl _ _).alloc hbl.size _).trans (hb1.mono (Nat.le_trans hbl.size (by simp)))),uh HA'⟩
  ·have e:k=xs.length:=by omega
   have T:xs.all p=true:=by
    rw[List.all_eq_true]
    intro x hx
    obtain⟨j,hj,rfl⟩:=List.getElem_of_mem hx
    exact uh HA j hj (by omega)
   have HT:=hide T
   clear T
   go_wp2
   go_ret
   exact⟨gu (uh HT).symm,hbl⟩
set_option maxHeartbeats 400000 in
theorem Rx (p:eu->Bool) (hf:∀(x:eu) cs w,jw 0 w cs x->Calls Tryz.prog 148 #[aax cs] w (Ans (.bool (p x)) w)) (xs:List eu) (v:Value) (w:World) (hv:bf 3 32 jw 0 w v xs) :
  Calls Tryz.prog 147 #[v,.func (.func 148) #[] #[]] w (Ans (.bool (xs.all p)) w):=by
 obtain⟨a,cap,rfl,_,hn,hx⟩:=hv
 unfold Len at hn
 have HX:=hide hx
 have Ht:=hide hf
 clear hx hf
 go_enter Tryz.func147,Tryz.ntmps147
 go_wp2
 go_loopg [6,9] xs.length (fun g x i wr=>∃(k:Nat),k<=xs.length∧g=xs.length-k∧i=.int .i64 k∧Below w.heap.size w wr∧∀j (h:j<xs.length),j<k->p xs[j]=true)
 case atStart=>exact⟨0,Nat.zero_le _,by omega,rfl,Below.refl _ _,fun j _ h=>absurd h (Nat.not_lt_zero _)⟩
 case round =>
  obtain⟨k,hk,hg,rfl,hbl,hall⟩:=hrel
  have HG:=hide hg
  have HA:=hide hall
  clear hg hall
  by_cases hlt:k<xs.length
  ·obtain⟨b,o,cs,rfl,_,hb,hcs,hc,hR⟩:=uh HX k hlt
   have hR:=je.stays _ _ _ _ _ hbl hR
   have hc:∀j (hj:j<cs.length),wr.cell? ⟨b,o+k*3+j,none⟩=some cs[j]:=fun j hj=>by rw[hbl.cell (p:=⟨b,_,none⟩) hb];exact hc j hj
   have hcall:=fun ob=>uh Ht xs[k] cs (wr.alloc ob) (je.stays _ _ _ _ _ ((Below.refl _ _).alloc (Nat.le_refl _) ob) hR)
   obtain⟨rfl,hsn,ho,hv⟩:=hR
   have c0:=hc 0 (by simp)
   have c1:=hc 1 (by simp)
   have c2:=hc 2 (by simp)
   simp only[Nat.mul_one,Nat.add_zero,List.getElem_cons_zero,List.getElem_cons_succ] at c0 c1 c2
   simp only[aax,List.headD_cons] at hcall
   have HC:=hide hcall
   clear hc hcs hcall
   cases hp:p xs[k]
   ·have F:xs.all p=false:=by
     rw[List.all_eq_false]
     exact⟨xs[k],List.getElem_mem hlt,by rw[hp];decide⟩
    have HF:=hide F
    clear F
    go_wp2_with fail
    refine(uh HC _).mono ?_
    rintro e w1 ⟨rfl,hb1⟩
    rw[hp]
    go_wp2
    go_ret
    exact⟨gu (uh HF).symm,hbl.trans (((Below.refl _ _).alloc hbl.size _).trans (hb1.mono (Nat.le_trans hbl.size (by simp))))⟩
   ·have A':∀j (h:j<xs.length),j<k+1->p xs[j]=true:=by
     intro j h h1
     by_cases e:j=k
     ·subst e;exact hp
     ·exact uh HA j h (by omega)
    have HA':=hide A'
    clear A'
    go_wp2_with fail
    refine(uh HC _).mono ?_
    rintro e w1 ⟨rfl,hb1⟩
    rw[hp]
    go_wp2
    go_roundg (xs.length-(k+1))
    case measure=>have:=uh HG;omega
    case rel=>exact⟨k+1,by omega,rfl,by go_num,hbl.trans (((Below.refl _ _).alloc hbl.size _).trans (hb1.mono (Nat.le_trans hbl.size (by simp)))),uh HA'⟩
  ·have e:k=xs.length:=by omega
   have T:xs.all p=true:=by
    rw[List.all_eq_true]
    intro x hx
    obtain⟨j,hj,rfl⟩:=List.getElem_of_mem hx
    exact uh HA j hj (by omega)
   have HT:=hide T
   clear T
   go_wp2
   go_ret
   exact⟨gu (uh HT).symm,hbl⟩
set_option maxHeartbeats 400000 in
theorem Zb (p:(List eu)->Bool) (hf:∀(x:(List eu)) cs w,yu 0 w cs x->Calls Tryz.prog 132 #[Yy cs] w (Ans (.bool (p x)) w)) (xs:List (List eu)) (v:Value) (w:World) (hv:bf 1 24 yu 0 w v xs) :
  Calls Tryz.prog 133 #[v,.func (.func 132) #[] #[]] w (Ans (.bool (xs.all p)) w):=by
 obtain⟨a,cap,rfl,_,hn,hx⟩:=hv
 unfold Len at hn
 have HX:=hide hx
 have Ht:=hide hf
 clear hx hf
 go_enter Tryz.func133,Tryz.ntmps133
 go_wp2
 go_loopg [6,9] xs.length (fun g x i wr=>∃(k:Nat),k<=xs.length∧g=xs.length-k∧i=.int .i64 k∧Below w.heap.size w wr∧∀j (h:j<xs.length),j<k->p xs[j]=true)
 case atStart=>exact⟨0,Nat.zero_le _,by omega,rfl,Below.refl _ _,fun j _ h=>absurd h (Nat.not_lt_zero _)⟩
 case round =>
  obtain⟨k,hk,hg,rfl,hbl,hall⟩:=hrel
  have HG:=hide hg
  have HA:=hide hall
  clear hg hall
  by_cases hlt:k<xs.length
  ·obtain⟨b,o,cs,rfl,_,hb,hcs,hc,hR⟩:=uh HX k hlt
   have hR:=lq.stays _ _ _ _ _ hbl hR
   have hc:∀j (hj:j<cs.length),wr.cell? ⟨b,o+k*1+j,none⟩=some cs[j]:=fun j hj=>by rw[hbl.cell (p:=⟨b,_,none⟩) hb];exact hc j hj
   have hcall:=uh Ht xs[k] cs wr hR
   obtain⟨vl,rfl,hcl⟩:=hR
   obtain⟨aa1,ca1,rfl⟩:=hcl.shape
   clear hcl
   have c0:=hc 0 (by simp)
   simp only[Nat.mul_one,Nat.add_zero,List.getElem_cons_zero,List.getElem_cons_succ] at c0
   simp only[Yy,List.headD_cons] at hcall
   have HC:=hide hcall
   clear hc hcs hcall
   cases hp:p xs[k]
   ·have F:xs.all p=false:=by
     rw[List.all_eq_false]
     exact⟨xs[k],List.getElem_mem hlt,by rw[hp];decide⟩
    have HF:=hide F
    clear F
    go_wp2_with fail
    refine(uh HC).mono ?_
    rintro e w1 ⟨rfl,hb1⟩
    rw[hp]
    go_wp2
    go_ret
    exact⟨gu (uh HF).symm,hbl.trans (hb1.mono hbl.size)⟩
   ·have A':∀j (h:j<xs.length),j<k+1->p xs[j]=true:=by
     intro j h h1
     by_cases e:j=k
     ·subst e;exact hp
     ·exact uh HA j h (by omega)
    have HA':=hide A'
    clear A'
    go_wp2_with fail
    refine(uh HC).mono ?_
    rintro e w1 ⟨rfl,hb1⟩
    rw[hp]
    go_wp2
    go_roundg (xs.length-(k+1))
    case measure=>have:=uh HG;omega
    case rel=>exact⟨k+1,by omega,rfl,by go_num,hbl.trans (hb1.mono hbl.size),uh HA'⟩
  ·have e:k=xs.length:=by omega
   have T:xs.all p=true:=by
    rw[List.all_eq_true]
    intro x hx
    obtain⟨j,hj,rfl⟩:=List.getElem_of_mem hx
    exact uh HA j hj (by omega)
   have HT:=hide T
   clear T
   go_wp2
   go_ret
   exact⟨gu (uh HT).symm,hbl⟩
def Ry (s:ByteArray):List Int:=s.data.toList.map (fun b=>(b.toNat:Int))
theorem Vk (s:ByteArray):(Ry s).length=s.size:=by simp[Ry]
theorem Yf (s:ByteArray) (i:Nat) (h:i<(Ry s).length):(Ry s)[i]=oz s i:=by
 have h':i<s.size:=by rw[Vk] at h;exact h
 rw[G7 h']
 simp[Ry]
 rfl
theorem bytes_at (w:World) (e:TypeId) (s:ByteArray) (cap:Nat) (hs:Len s.size) (hcap:s.size<=cap) :
  bf 1 1 Xc 0 (Lib.bytesWorld w e s) (.slice (some ⟨w.heap.size,0,none⟩) s.size cap) (Ry s):=by
 have hl:=Vk s
 refine⟨_,cap,by rw[hl],⟨by rw[hl,Nat.mul_one];exact hs,by rw[hl];exact hcap⟩,by rw[hl];exact hs,fun i hi=>?_⟩
 have hi':i<s.size:=by omega
 refine⟨_,0,[.int .u8 (Ry s)[i]],rfl,Nat.zero_le _,by rw[Lib.bytesWorld_size];omega,rfl,fun j hj=>?_,rfl,?_,?_⟩
 ·have hj0:j=0:=by simpa using hj
  subst hj0
  simp only[Nat.zero_add,Nat.mul_one,Nat.add_zero,List.getElem_cons_zero]
  rw[Lib.bytesWorld_cell w e s i hi',Yf,G7 hi']
  simp[List.getD,hi']
  rfl
 ·rw[Yf,G7 hi'];exact(abt _).1
 ·rw[Yf,G7 hi'];exact(abt _).2
theorem Uf (w:World) (e:TypeId) (s:ByteArray):Below w.heap.size w (Lib.bytesWorld w e s):=by
 refine⟨?_,?_,?_,by rw[Lib.bytesWorld_size];omega,fun k hk=>Lib.bytesWorld_at_old w e s k hk⟩
 all_goals simp[Lib.bytesWorld,World.freeze,World.alloc,World.drew,-World.alloc_eq,-World.drew_eq]
theorem ame (p:Int->Bool) (s:ByteArray):(Ry s).all p=allB (fun i=>p (oz s i)) 0 s.size:=by
 rw[Bool.eq_iff_iff,List.all_eq_true]
 constructor
 ·intro h
  refine aaz fun j hj _=>?_
  have hj':j<(Ry s).length:=by rw[Vk];exact hj
  rw[←Yf s j hj']
  exact h _ (List.getElem_mem hj')
 ·intro h x hx
  obtain⟨j,hj,rfl⟩:=List.getElem_of_mem hx
  rw[Yf]
  have h':=h
  unfold allB at h'
  rw[decide_eq_true_iff] at h'
  exact h' j (by rw[Vk] at hj;exact hj) (Nat.zero_le _)
theorem a1d (x:Int) (cs:List Value) (w:World) (h:Xc 0 w cs x):Calls Tryz.prog 144 #[Ql cs] w (Ans (.bool (Ph x)) w):=by
 obtain⟨rfl,h0,h1⟩:=h
 refine(ag3 x w h0 h1).mono ?_
 rintro e w' ⟨rfl,rfl⟩
 exact⟨rfl,Below.refl _ _⟩
theorem azk (x:Int) (cs:List Value) (w:World) (h:Xc 0 w cs x):Calls Tryz.prog 146 #[Ql cs] w (Ans (.bool (F9 x)) w):=by
 obtain⟨rfl,h0,h1⟩:=h
 refine(aef x w h0 h1).mono ?_
 rintro e w' ⟨rfl,rfl⟩
 exact⟨rfl,Below.refl _ _⟩
theorem Aa (s:ByteArray) (h:s.size=0):(s.toList == [])=true:=by
 have e:s.data.toList=[]:=List.eq_nil_of_length_eq_zero (by rw[Array.length_toList];exact h)
 rw[ByteArray.toList_eq,e]
 rfl
theorem Ae (s:ByteArray) (h:s.size≠0):(s.toList == [])=false:=by
 rw[beq_eq_false_iff_ne,ByteArray.toList_eq]
 intro hh
 have:=congrArg List.length hh
 rw[Array.length_toList] at this
 exact h this
set_option maxHeartbeats 400000 in
theorem ags (s:ByteArray) (w:World) (hs:Len s.size) :
  Calls Tryz.prog 126 #[.string s] w (Ans (.bool (yt s)) w):=by
 have HS:=hide hs
 unfold Len at hs
 by_cases h1:s.size<1
 ·have e:yt s=false:=by simp[yt];omega
  rw[e]
  have d1:(s.toList == [])=true:=Aa s (by omega)
  clear e
  go_enter Tryz.func126,Tryz.ntmps126
  go_wp2
  go_ret
  exact⟨rfl,Below.refl _ _⟩
 have d1:(s.toList == [])=false:=Ae s (by omega)
 by_cases h2:40<s.size
 ·have e:yt s=false:=by simp[yt];omega
  rw[e]
  have d2:decide (40<(s.size:Int))=true:=by simp;omega
  clear e
  go_enter Tryz.func126,Tryz.ntmps126
  go_wp2
  go_ret
  exact⟨rfl,Below.refl _ _⟩
 have d2:decide (40<(s.size:Int))=false:=by simp;omega
 have g0:0<s.size:=by omega
 have b0:=G7 g0
 have hb0:=abt s[0]
 cases hl:Wh (s[0].toNat:Int)
 ·have e:yt s=false:=by simp[yt,b0,hl]
  rw[e]
  clear e b0
  go_enter Tryz.func126,Tryz.ntmps126
  go_wp2_with (go_at_call 141;refine(Ug _ _ (by omega) (by omega)).mono ?_;rintro e w' ⟨rfl,rfl⟩;rw[hl])
  go_ret
  exact⟨rfl,Below.refl _ _⟩
 cases hkw:kwB s
 ·have e:yt s=(Ry s).all Ph:=by
   rw[ame]
   have:1<=s.size∧s.size<=40:=by omega
   simp[yt,b0,hl,hkw,this]
  rw[e]
  clear e b0
  have hcv:=fun w=>Lib.run_convert_string_bytes (P:=Tryz.prog) w 9 120 5 s Tryz.underlying9 Tryz.underlying120 Tryz.underlying5
  go_enter Tryz.func126,Tryz.ntmps126
  go_wp2_with fail
  refine(Ug _ _ (by omega) (by omega)).mono ?_
  rintro e w' ⟨rfl,rfl⟩
  rw[hl]
  go_wp2_with fail
  refine(aa0 _ _).mono ?_
  rintro e w' ⟨rfl,rfl⟩
  rw[hkw]
  go_wp2_with fail
  refine(Ws Ph a1d (Ry s) _ _ (bytes_at _ _ s _ (uh HS) (grownCap_ge _ _ _ _))).mono ?_
  rintro e w1 ⟨rfl,hb⟩
  go_wp2
  go_ret
  exact⟨rfl,(Uf _ _ _).trans (hb.mono (Uf _ _ _).size)⟩
 ·have e:yt s=false:=by simp[yt,hkw]
  rw[e]
  clear e b0
  go_enter Tryz.func126,Tryz.ntmps126
  go_wp2_with fail
  refine(Ug _ _ (by omega) (by omega)).mono ?_
  rintro e w' ⟨rfl,rfl⟩
  rw[hl]
  go_wp2_with fail
  refine(aa0 _ _).mono ?_
  rintro e w' ⟨rfl,rfl⟩
  rw[hkw]
  go_wp2
  go_ret
  exact⟨rfl,Below.refl _ _⟩
theorem azl (a b:UInt8):((a.toNat:Int) == (b.toNat:Int))=(a == b):=by
 rw[Bool.eq_iff_iff,beq_iff_eq,beq_iff_eq,Int.ofNat_inj,UInt8.toNat_inj]
theorem atv (s:ByteArray) (h:1<=s.size):((s.extract 0 1).toList == [36])=(oz s 0 == 36):=by
 rw[G7 (show 0<s.size from h),ByteArray.toList_eq]
 have e:(s.extract 0 1).data.toList=[s[0]'h]:=by
  match s,h with
  | ⟨⟨a::t⟩⟩,_=>simp;rfl
 rw[e]
 have:=azl (s[0]'h) 36
 rw[show ((36:UInt8).toNat:Int)=36 from rfl] at this
 rw[this,Bool.eq_iff_iff,beq_iff_eq,beq_iff_eq,List.cons.injEq]
 simp
def tl (s:ByteArray):ByteArray:=s.extract 1 s.size
theorem afj (s:ByteArray):(tl s).size=s.size-1:=by simp[tl]
theorem aju (s:ByteArray) (i:Nat) (h:i<s.size-1):oz (tl s) i=oz s (i+1):=by
 have h1:i<(tl s).size:=by rw[afj];exact h
 rw[G7 h1,G7 (show i+1<s.size by omega)]
 congr 2
 simp only[tl,ByteArray.getElem_eq_getElem_data,ByteArray.data_extract,Array.getElem_extract,Nat.add_comm]
def Ep (s:ByteArray):Bool:=decide (1<=s.size)&&(oz s 0 == 36)
set_option maxHeartbeats 400000 in
theorem aa5 (s:ByteArray) (w:World) (hs:Len s.size) :
  Calls Tryz.prog 158 #[.string s,.string ⟨#[36]⟩] w fun e w'=>e=.returned (.bool (Ep s))∧w'=w:=by
 unfold Len at hs
 by_cases h1:1<=s.size
 ·have e:Ep s=((s.extract 0 1).toList == [36]):=by rw[atv s h1];simp[Ep,h1]
  rw[e]
  clear e
  go_enter Tryz.func158,Tryz.ntmps158
  go_wp2
  go_ret
  exact⟨rfl,rfl⟩
 ·have e:Ep s=false:=by simp[Ep,h1]
  rw[e]
  clear e
  go_enter Tryz.func158,Tryz.ntmps158
  go_wp2
  go_ret
  exact⟨rfl,rfl⟩
set_option maxHeartbeats 400000 in
theorem aeg (s:ByteArray) (w:World) (hs:Len s.size) :
  Calls Tryz.prog 152 #[.string s,.string ⟨#[36]⟩] w fun e w'=>e=.returned (.tuple #[.string (if Ep s=true then tl s else s),.bool (Ep s)])∧w'=w:=by
 have HS:=hide hs
 unfold Len at hs
 cases hst:Ep s
 ·rw[if_neg (by decide)]
  go_enter Tryz.func152,Tryz.ntmps152
  go_wp2_with (go_at_call 158;refine(aa5 s _ (uh HS)).mono ?_;rintro e w' ⟨rfl,rfl⟩;rw[hst])
  go_ret2
  exact⟨rfl,rfl⟩
 ·rw[if_pos rfl]
  have h1:1<=s.size:=by
   simp[Ep] at hst
   have:=hst.1
   omega
  have h1':(1:Int)<=(s.size:Int):=by omega
  have HT:Hid (tl s=s.extract 1 s.size):=rfl
  go_enter Tryz.func152,Tryz.ntmps152
  go_wp2_with (go_at_call 158;refine(aa5 s _ (uh HS)).mono ?_;rintro e w' ⟨rfl,rfl⟩;rw[hst])
  go_ret2
  exact⟨rfl,rfl⟩
set_option maxHeartbeats 400000 in
theorem Nu (s:ByteArray) (w:World) (hs:Len s.size) :
  Calls Tryz.prog 145 #[.string s,.string ⟨#[36]⟩] w fun e w'=>e=.returned (.tuple #[.string (if Ep s=true then tl s else s),.bool (Ep s)])∧w'=w:=by
 cases hst:Ep s
 ·rw[if_neg (by decide)]
  go_enter Tryz.func145,Tryz.ntmps145
  go_wp2_with (go_at_call 152;refine(aeg s _ hs).mono ?_;rintro e w' ⟨rfl,rfl⟩;rw[hst,if_neg (by decide)])
  go_ret2
  exact⟨rfl,rfl⟩
 ·rw[if_pos rfl]
  go_enter Tryz.func145,Tryz.ntmps145
  go_wp2_with (go_at_call 152;refine(aeg s _ hs).mono ?_;rintro e w' ⟨rfl,rfl⟩;rw[hst,if_pos rfl])
  go_ret2
  exact⟨rfl,rfl⟩
theorem aqg (s:ByteArray) (h:Ep s=true):Ad s=(decide (1<=(tl s).size∧(tl s).size<=9)&&!decide (oz (tl s) 0=48)&&(Ry (tl s)).all F9):=by
 have hs1:1<=s.size:=by simp[Ep] at h;have:=h.1;omega
 have hb0:oz s 0=36:=by simp[Ep] at h;exact h.2
 rw[ame,afj]
 by_cases h2:2<=s.size
 ·have e1:oz (tl s) 0=oz s 1:=aju s 0 (by omega)
  have e2:allB (fun i=>F9 (oz (tl s) i)) 0 (s.size-1)=allB (fun i=>F9 (oz s i)) 1 s.size:=by
   unfold allB
   rw[decide_eq_decide]
   constructor
   ·intro hh j hj h1j
    have:=hh (j-1) (by omega) (Nat.zero_le _)
    simp only at this
    rw[aju s (j-1) (by omega),show j-1+1=j from by omega] at this
    exact this
   ·intro hh j hj _
    simp only
    rw[aju s j hj]
    exact hh (j+1) (by omega) (by omega)
  have e3:decide (2<=s.size∧s.size<=10)=decide (1<=s.size-1∧s.size-1<=9):=by rw[decide_eq_decide];omega
  rw[e1,e2]
  simp only[Ad,hb0,e3]
  simp
 ·have e3:decide (2<=s.size∧s.size<=10)=false:=by rw[decide_eq_false_iff_not];omega
  have e4:decide (1<=s.size-1∧s.size-1<=9)=false:=by rw[decide_eq_false_iff_not];omega
  simp only[Ad,e3,e4,Bool.false_and]
theorem aqh (s:ByteArray) (h:Ep s=false):Ad s=false:=by
 unfold Ep at h
 unfold Ad
 by_cases h1:1<=s.size
 ·simp only[h1,decide_true,Bool.true_and] at h
  have:¬oz s 0=36:=by intro hh;rw[hh] at h;exact absurd h (by decide)
  simp[this]
 ·have:decide (2<=s.size∧s.size<=10)=false:=by rw[decide_eq_false_iff_not];omega
  rw[this]
  simp
set_option maxHeartbeats 400000 in
theorem aog (s:ByteArray) (w:World) (hs:Len s.size) :
  Calls Tryz.prog 127 #[.string s] w (Ans (.bool (Ad s)) w):=by
 cases hst:Ep s
 ·rw[aqh s hst]
  go_enter Tryz.func127,Tryz.ntmps127
  go_wp2_with (go_at_call 145;refine(Nu s _ hs).mono ?_;rintro e w' ⟨rfl,rfl⟩;rw[hst,if_neg (by decide)])
  go_ret
  exact⟨rfl,Below.refl _ _⟩
 rw[aqg s hst]
 have hls:Len (tl s).size:=by unfold Len at *;rw[afj];omega
 generalize htl:tl s=d at *
 have HT:=hide htl
 have HL:=hide hls
 clear htl
 unfold Len at hls
 by_cases h1:d.size<1
 ·have e:(decide (1<=d.size∧d.size<=9)&&!decide (oz d 0=48)&&(Ry d).all F9)=false:=by
   have:decide (1<=d.size∧d.size<=9)=false:=by rw[decide_eq_false_iff_not];omega
   simp only[this,Bool.false_and]
  rw[e]
  have d1:decide ((d.size:Int)<1)=true:=by simp;omega
  clear e
  go_enter Tryz.func127,Tryz.ntmps127
  go_wp2_with (go_at_call 145;refine(Nu s _ hs).mono ?_;rintro e w' ⟨rfl,rfl⟩;rw[hst,if_pos rfl,uh HT])
  go_ret
  exact⟨rfl,Below.refl _ _⟩
 have d1:decide ((d.size:Int)<1)=false:=by simp;omega
 by_cases h2:9<d.size
 ·have e:(decide (1<=d.size∧d.size<=9)&&!decide (oz d 0=48)&&(Ry d).all F9)=false:=by
   have:decide (1<=d.size∧d.size<=9)=false:=by rw[decide_eq_false_iff_not];omega
   simp only[this,Bool.false_and]
  rw[e]
  have d2:decide (9<(d.size:Int))=true:=by simp;omega
  clear e
  go_enter Tryz.func127,Tryz.ntmps127
  go_wp2_with (go_at_call 145;refine(Nu s _ hs).mono ?_;rintro e w' ⟨rfl,rfl⟩;rw[hst,if_pos rfl,uh HT])
  go_ret
  exact⟨rfl,Below.refl _ _⟩
 have d2:decide (9<(d.size:Int))=false:=by simp;omega
 have g0:0<d.size:=by omega
 have b0:=G7 g0
 by_cases h3:(d[0].toNat:Int)=48
 ·have e:(decide (1<=d.size∧d.size<=9)&&!decide (oz d 0=48)&&(Ry d).all F9)=false:=by simp[b0,h3]
  rw[e]
  have d3:((d[0].toNat:Int) == 48)=true:=by rw[beq_iff_eq];exact h3
  clear e b0 h3
  go_enter Tryz.func127,Tryz.ntmps127
  go_wp2_with (go_at_call 145;refine(Nu s _ hs).mono ?_;rintro e w' ⟨rfl,rfl⟩;rw[hst,if_pos rfl,uh HT])
  go_ret
  exact⟨rfl,Below.refl _ _⟩
 have d3:((d[0].toNat:Int) == 48)=false:=by rw[beq_eq_false_iff_ne];exact h3
 have e:(decide (1<=d.size∧d.size<=9)&&!decide (oz d 0=48)&&(Ry d).all F9)=(Ry d).all F9:=by
  have:1<=d.size∧d.size<=9:=by omega
  simp[b0,h3,this]
 rw[e]
 clear e b0 h3
 have hcv:=fun w=>Lib.run_convert_string_bytes (P:=Tryz.prog) w 9 120 5 d Tryz.underlying9 Tryz.underlying120 Tryz.underlying5
 go_enter Tryz.func127,Tryz.ntmps127
 go_wp2_with fail
 refine(Nu s _ hs).mono ?_
 rintro e w' ⟨rfl,rfl⟩
 rw[hst,if_pos rfl,uh HT]
 go_wp2_with fail
 refine(Za F9 azk (Ry d) _ _ (bytes_at _ _ d _ (uh HL) (grownCap_ge _ _ _ _))).mono ?_
 rintro e w1 ⟨rfl,hb⟩
 go_wp2
 go_ret
 exact⟨rfl,(Uf _ _ _).trans (hb.mono (Uf _ _ _).size)⟩
set_option maxHeartbeats 400000 in
theorem Fg (s:ByteArray) (w:World) (hs:Len s.size) :
  Calls Tryz.prog 102 #[.string s] w (Ans (.bool (nameB s)) w):=by
 cases hp:yt s
 ·have e:nameB s=Ad s:=by simp[nameB,hp]
  rw[e]
  clear e
  go_enter Tryz.func102,Tryz.ntmps102
  go_wp2_with fail
  refine(ags s _ hs).mono ?_
  rintro e w1 ⟨rfl,hb⟩
  rw[hp]
  go_wp2_with fail
  refine(aog s _ hs).mono ?_
  rintro e w2 ⟨rfl,hb2⟩
  go_wp2
  go_ret
  exact⟨rfl,hb.trans (hb2.mono hb.size)⟩
 ·have e:nameB s=true:=by simp[nameB,hp]
  rw[e]
  clear e
  go_enter Tryz.func102,Tryz.ntmps102
  go_wp2_with fail
  refine(ags s _ hs).mono ?_
  rintro e w1 ⟨rfl,hb⟩
  rw[hp]
  go_wp2
  go_ret
  exact⟨rfl,hb⟩
def Bo (op:Int):Int:=if (1<=op∧op<=3)∨op=25 then 0 else if op=4∨op=5∨op=21∨op=22∨op=23 then 1 else if (6<=op∧op<=19)∨op=24 then 2 else if op=20 then 3 else -1
def G5 (op:Int):Int:=if op=1∨op=2∨op=3∨op=25 then 0 else if op=4∨op=5∨op=21∨op=22∨op=23 then 1 else if op=20 then 3 else 2
def loI (op:Int):Int:=if op=21 then -2147483647 else 0
def Yb (op:Int):Int:=if op=1∨op=21 then 2147483647 else if op=2∨op=22∨op=23 then 1 else 0
theorem yx {a b:Int} (h:a=b):Ending.returned (.int .i64 a)=.returned (.int .i64 b):=by rw[h]
theorem atw {a b c d:Int} (h:a=b) (g:c=d):Ending.returned (.tuple #[.int .i64 a,.int .i64 c])=.returned (.tuple #[.int .i64 b,.int .i64 d]):=by rw[h,g]
theorem aqi (op:Int) : -1<=Bo op∧Bo op<=3:=by unfold Bo;split<;>(try split)<;>(try split)<;>(try split)<;>omega
theorem Gh (op:Int):0<=G5 op∧G5 op<=3:=by unfold G5;split<;>(try split)<;>(try split)<;>omega
set_option maxHeartbeats 1000000 in
theorem Ew (op:Int) (w:World) (h:I64 op) :
  Calls Tryz.prog 72 #[.int .i64 op] w fun e w'=>e=.returned (.int .i64 (Bo op))∧w'=w:=by
 unfold I64 at h
 go_enter Tryz.func72,Tryz.ntmps72
 go_wp2
 all_goals
  go_ret
  refine⟨yx ?_,rfl⟩
  simp_all [Bo]
  try omega
set_option maxHeartbeats 1000000 in
theorem Ll (op:Int) (w:World) :
  Calls Tryz.prog 112 #[.int .i64 op] w fun e w'=>e=.returned (.int .i64 (G5 op))∧w'=w:=by
 go_enter Tryz.func112,Tryz.ntmps112
 go_wp2
 all_goals
  go_ret
  refine⟨yx ?_,rfl⟩
  simp_all [G5]
  try omega
set_option maxHeartbeats 1000000 in
theorem ag4 (op:Int) (w:World) :
  Calls Tryz.prog 153 #[.int .i64 op] w fun e w'=>e=.returned (.tuple #[.int .i64 (loI op),.int .i64 (Yb op)])∧w'=w:=by
 go_enter Tryz.func153,Tryz.ntmps153
 go_wp2
 all_goals
  go_ret2
  refine⟨atw ?_ ?_,rfl⟩
  all_goals
   simp_all [loI,Yb]
   try omega
end Go.Proofs.YtflcnhfakcgkeaaGreat
