import Derived.Test.YtflcnhfakcgkeaaGreatEvery
namespace Go.Proofs.YtflcnhfakcgkeaaGreat
open Go.RowKit
set_option linter.unusedSimpArgs false
set_option linter.unusedVariables false
def Lc (t:eu):Bool:=if t.op=3∨t.op=23∨t.op=24 then nameB t.name else decide (t.name.size=0)
def rgB (t:eu):Bool:=decide (loI t.op<=t.val∧t.val<=Yb t.op)
def Pz (t:eu):Bool:=Lc t&&(decide (t.op=25)||rgB t)
def Ir (t:eu):Bool:=decide (1<=t.op∧t.op<=24)&&rgB t&&Lc t
theorem ab6 (s:ByteArray) (h:s.size=0):nameB s=false:=by
 simp[nameB,yt,Ad,h]
theorem xg (s:ByteArray) (h:s.size=0):s.toList.isEmpty=true:=by
 have e:s.data.toList=[]:=List.eq_nil_of_length_eq_zero (by rw[Array.length_toList];exact h)
 rw[ByteArray.toList_eq,e]
 rfl
theorem vk (s:ByteArray) (h:s.size≠0):s.toList.isEmpty=false:=by
 cases hh:s.toList.isEmpty with
 | false=>rfl
 | true =>
  rw[List.isEmpty_iff,ByteArray.toList_eq] at hh
  have:=congrArg List.length hh
  rw[Array.length_toList] at this
  exact absurd this h
set_option maxHeartbeats 1000000 in
theorem ag8 (t:eu) (w:World) (hs:Len t.name.size) :
  Calls Tryz.prog 154 #[.agg #[.int .i64 t.op,.int .i64 t.val,.string t.name]] w (Ans (.bool (Lc t)) w):=by
 obtain⟨op,val,s⟩:=t
 simp only at hs
 by_cases hn:op=3∨op=23∨op=24
 ·have e:Lc ⟨op,val,s⟩=nameB s:=by simp only[Lc];rw[if_pos hn]
  rw[e]
  clear e
  rcases hn with rfl|rfl|rfl
  all_goals
   go_enter Tryz.func154,Tryz.ntmps154
   go_wp2_with fail
   refine(Fg s _ hs).mono ?_
   rintro e w1 ⟨rfl,hb⟩
   go_wp2
   go_ret
   exact⟨rfl,((Below.refl _ _).alloc (Nat.le_refl _) _).trans (hb.mono (by simp))⟩
 ·have e:Lc ⟨op,val,s⟩=s.toList.isEmpty:=by
   simp only[Lc]
   rw[if_neg hn]
   by_cases h0:s.size=0
   ·rw[xg s h0];simpa using h0
   ·rw[vk s h0];simpa using h0
  rw[e]
  clear e
  have d1:(op == 3)=false:=by rw[beq_eq_false_iff_ne];omega
  have d2:(op == 23)=false:=by rw[beq_eq_false_iff_ne];omega
  have d3:(op == 24)=false:=by rw[beq_eq_false_iff_ne];omega
  clear hn
  go_enter Tryz.func154,Tryz.ntmps154
  go_wp2
  go_ret
  exact⟨rfl,(Below.refl _ _).alloc (Nat.le_refl _) _⟩
set_option maxHeartbeats 1000000 in
theorem aqo (t:eu) (w:World) (hs:Len t.name.size) :
  Calls Tryz.prog 148 #[.agg #[.int .i64 t.op,.int .i64 t.val,.string t.name]] w (Ans (.bool (Ir t)) w):=by
 have HI:=hide (fun w=>ag8 t w hs)
 have HE:Hid (Ir t=(decide (1<=t.op∧t.op<=24)&&rgB t&&Lc t)):=rfl
 have HR:Hid (rgB t=decide (loI t.op<=t.val∧t.val<=Yb t.op)):=rfl
 generalize Ir t=res at *
 generalize Lc t=nm at *
 generalize rgB t=rg at *
 obtain⟨op,val,s⟩:=t
 simp only at hs
 by_cases h1:op<1
 ·have d1:decide (op<1)=true:=by simpa using h1
  have e:res=false:=by rw[uh HE];simp;intro;omega
  subst e
  go_enter Tryz.func148,Tryz.ntmps148
  go_wp2
  go_ret
  exact⟨rfl,(Below.refl _ _).alloc (Nat.le_refl _) _⟩
 have d1:decide (op<1)=false:=by simpa using h1
 by_cases h2:24<op
 ·have d2:decide (24<op)=true:=by simpa using h2
  have e:res=false:=by rw[uh HE];simp;intro;omega
  subst e
  go_enter Tryz.func148,Tryz.ntmps148
  go_wp2
  go_ret
  exact⟨rfl,(Below.refl _ _).alloc (Nat.le_refl _) _⟩
 have d2:decide (24<op)=false:=by simpa using h2
 have e:res=(rg&&nm):=by
  have hh:decide (1<=op∧op<=24)=true:=by simp;omega
  rw[uh HE]
  simp only[hh,Bool.true_and]
 subst e
 have hr:=uh HR
 simp only at hr
 have HV:=hide (fun w=>ag4 op w)
 generalize loI op=lo at *
 generalize Yb op=hi at *
 by_cases h3:lo<=val∧val<=hi
 ·have e:rg=true:=by rw[hr];simpa using h3
  subst e
  obtain⟨h3,h4⟩:=h3
  have d3:decide (lo<=val)=true:=by simpa using h3
  have d4:decide (val<=hi)=true:=by simpa using h4
  clear hr
  go_enter Tryz.func148,Tryz.ntmps148
  go_wp2_with fail
  refine(uh HV _).mono ?_
  rintro e w1 ⟨rfl,rfl⟩
  go_wp2_with fail
  refine(uh HI _).mono ?_
  rintro e w2 ⟨rfl,hb⟩
  go_wp2
  go_ret
  exact⟨gu (by simp),((Below.refl _ _).alloc (Nat.le_refl _) _).trans (hb.mono (by simp))⟩
 ·have e:rg=false:=by rw[hr];simpa using h3
  subst e
  clear hr
  by_cases h4:lo<=val
  ·have h5:¬val<=hi:=fun h=>h3 ⟨h4,h⟩
   have d3:decide (lo<=val)=true:=by simpa using h4
   have d4:decide (val<=hi)=false:=by simpa using h5
   clear h3
   go_enter Tryz.func148,Tryz.ntmps148
   go_wp2_with fail
   refine(uh HV _).mono ?_
   rintro e w1 ⟨rfl,rfl⟩
   go_wp2
   go_ret
   exact⟨gu (by simp),(Below.refl _ _).alloc (Nat.le_refl _) _⟩
  ·have d3:decide (lo<=val)=false:=by simpa using h4
   clear h3
   go_enter Tryz.func148,Tryz.ntmps148
   go_wp2_with fail
   refine(uh HV _).mono ?_
   rintro e w1 ⟨rfl,rfl⟩
   go_wp2
   go_ret
   exact⟨gu (by simp),(Below.refl _ _).alloc (Nat.le_refl _) _⟩
set_option maxHeartbeats 1000000 in
theorem ali (t:eu) (w:World) (hs:Len t.name.size) :
  Calls Tryz.prog 122 #[.agg #[.int .i64 t.op,.int .i64 t.val,.string t.name]] w (Ans (.bool (Pz t)) w):=by
 obtain⟨op,val,s⟩:=t
 simp only at hs
 by_cases hn:op=3∨op=23∨op=24
 ·have e:Pz ⟨op,val,s⟩=(nameB s&&decide (loI op<=val∧val<=Yb op)):=by
   have h25:¬op=25:=by omega
   simp only[Pz,Lc,rgB,h25,decide_false,Bool.false_or]
   rw[if_pos hn]
  rw[e]
  clear e
  by_cases h0:s.size=0
  ·have d0:=Aa s h0
   have d0':=xg s h0
   rw[ab6 s h0]
   rcases hn with rfl|rfl|rfl
   all_goals
    go_enter Tryz.func122,Tryz.ntmps122
    go_wp2
    go_ret
    exact⟨rfl,(Below.refl _ _).alloc (Nat.le_refl _) _⟩
  ·have d0:=Ae s h0
   have d0':=vk s h0
   cases hnm:nameB s
   ·rcases hn with rfl|rfl|rfl
    all_goals
     go_enter Tryz.func122,Tryz.ntmps122
     go_wp2_with fail
     refine(Ah s _ hs).mono ?_
     rintro e w1 ⟨rfl,hb⟩
     rw[hnm]
     go_wp2
     go_ret
     exact⟨rfl,((Below.refl _ _).alloc (Nat.le_refl _) _).trans (hb.mono (by simp))⟩
   ·rcases hn with rfl|rfl|rfl
    all_goals
     simp only[loI,Yb]
     go_enter Tryz.func122,Tryz.ntmps122
     go_wp2_with fail
     refine(Ah s _ hs).mono ?_
     rintro e w1 ⟨rfl,hb⟩
     rw[hnm]
     obtain⟨hc1,hf1⟩:=pq hb
     have hz:=hb.size
     simp only[World.size_alloc] at hz hc1 hf1
     have hza:w.heap.size<w1.heap.size:=by omega
     have HB:=hide (((Below.refl w.heap.size w).alloc (Nat.le_refl _) _).trans (hb.mono (by simp)))
     clear hb hz
     go_wp2
     all_goals
      go_ret
      refine⟨gu ?_,uh HB⟩
      simp_all
      try omega
 ·have d1:(op == 3)=false:=by rw[beq_eq_false_iff_ne];omega
  have d2:(op == 23)=false:=by rw[beq_eq_false_iff_ne];omega
  have d3:(op == 24)=false:=by rw[beq_eq_false_iff_ne];omega
  have e:Pz ⟨op,val,s⟩=(decide (s.size=0)&&(decide (op=25)||decide (loI op<=val∧val<=Yb op))):=by
   simp only[Pz,Lc,rgB]
   rw[if_neg hn]
  rw[e]
  clear e
  by_cases h0:s.size=0
  ·have d0:=Aa s h0
   have d0':=xg s h0
   have e:decide (s.size=0)=true:=by simpa using h0
   rw[e]
   clear e h0
   go_enter Tryz.func122,Tryz.ntmps122
   go_wp2
   all_goals
    go_ret
    refine⟨gu ?_,(Below.refl _ _).alloc (Nat.le_refl _) _⟩
    simp_all [loI,Yb]
    try omega
  ·have d0:=Ae s h0
   have d0':=vk s h0
   have e:decide (s.size=0)=false:=by simpa using h0
   rw[e]
   clear e h0
   go_enter Tryz.func122,Tryz.ntmps122
   go_wp2
   go_ret
   exact⟨rfl,(Below.refl _ _).alloc (Nat.le_refl _) _⟩
def wk:List eu->Int->Bool
 | [],r=>r == 1
 | t::ts,r=>if r<G5 t.op then false else wk ts (r+(1-G5 t.op))
def bk:List eu->Nat->Option Nat
 | ts,0=>some ts.length
 | [],_+1=>none
 | t::ts,n+1=>if Bo t.op<0 then none else bk ts (n+(Bo t.op).toNat)
def Gz (code:List eu):Int:=match bk code.reverse 1 with
 | none => -1
 | some m=>m
set_option maxHeartbeats 400000 in
theorem alj (xs:List eu) (v:Value) (w:World) (hv:bf 3 32 jw 0 w v xs) :
  Calls Tryz.prog 149 #[v] w (Ans (.bool (wk xs 0)) w):=by
 obtain⟨a,cap,rfl,_,hn,hx⟩:=hv
 unfold Len at hn
 have HX:=hide hx
 clear hx
 go_enter Tryz.func149,Tryz.ntmps149
 go_wp2
 go_loopg [3,9] xs.length (fun g l i wr=>∃(k:Nat) (r:Int),k<=xs.length∧g=xs.length-k∧i=.int .i64 k∧l=.int .i64 r∧0<=r∧r<=k∧wk xs 0=wk (xs.drop k) r∧Below w.heap.size w wr)
 case atStart=>exact⟨0,0,Nat.zero_le _,by omega,rfl,rfl,by omega,by omega,by simp,Below.refl _ _⟩
 case round =>
  obtain⟨k,r,hk,hg,rfl,rfl,hr0,hr1,hwk,hbl⟩:=hrel
  have HG:=hide hg
  have HW:=hide hwk
  clear hg hwk
  by_cases hlt:k<xs.length
  ·obtain⟨b,o,cs,rfl,_,hb,hcs,hc,hR⟩:=uh HX k hlt
   have hc:∀j (hj:j<cs.length),wr.cell? ⟨b,o+k*3+j,none⟩=some cs[j]:=fun j hj=>by rw[hbl.cell (p:=⟨b,_,none⟩) hb];exact hc j hj
   obtain⟨rfl,hsn,ho,hvl⟩:=hR
   have c0:=hc 0 (by simp)
   have c1:=hc 1 (by simp)
   have c2:=hc 2 (by simp)
   simp only[Nat.mul_one,Nat.add_zero,List.getElem_cons_zero,List.getElem_cons_succ] at c0 c1 c2
   have hd:xs.drop k=xs[k]::xs.drop (k+1):=List.drop_eq_getElem_cons hlt
   have hbd:=Gh xs[k].op
   have Jh:=hide (fun w=>Ll xs[k].op w)
   by_cases hneg:r<G5 xs[k].op
   ·have F:wk xs 0=false:=by rw[uh HW,hd];simp only[wk];rw[if_pos hneg]
    have HF:=hide F
    clear F hd hc hcs ho hvl hsn
    generalize xs[k].op=op at *
    generalize G5 op=oc at *
    go_wp2_with fail
    refine(uh Jh _).mono ?_
    rintro e w1 ⟨rfl,rfl⟩
    go_wp2
    go_ret
    exact⟨gu (uh HF).symm,hbl.trans ((Below.refl _ _).alloc hbl.size _)⟩
   ·have F:wk xs 0=wk (xs.drop (k+1)) (r+(1-G5 xs[k].op)):=by
     rw[uh HW,hd]
     simp only[wk]
     rw[if_neg hneg]
    have HF:=hide F
    clear F hd hc hcs ho hvl hsn
    generalize xs[k].op=op at *
    generalize G5 op=oc at *
    go_wp2_with fail
    refine(uh Jh _).mono ?_
    rintro e w1 ⟨rfl,rfl⟩
    go_wp2
    go_roundg (xs.length-(k+1))
    case measure=>have:=uh HG;omega
    case rel=>exact⟨k+1,r+(1-oc),by omega,rfl,by go_num,rfl,by omega,by omega,uh HF,hbl.trans ((Below.refl _ _).alloc hbl.size _)⟩
  ·have e:k=xs.length:=by omega
   have F:wk xs 0=(r == 1):=by rw[uh HW,e,List.drop_length];rfl
   have HF:=hide F
   clear F
   go_wp2
   go_ret
   exact⟨gu (uh HF).symm,hbl⟩
theorem int_eq {a b:Int} (h:a=b):Value.int .i64 a=.int .i64 b:=by rw[h]
theorem abv (ts:List eu):bk ts 0=some ts.length:=by cases ts<;>rfl
theorem adn (xs:List eu) (a:Nat) (h:a<xs.length):(xs.take (a+1)).reverse=xs[a]::(xs.take a).reverse:=by
 rw[List.take_succ_eq_append_getElem h,List.reverse_append]
 rfl
set_option maxHeartbeats 400000 in
theorem aej (xs:List eu) (v:Value) (w:World) (hv:bf 3 32 jw 0 w v xs) :
  Calls Tryz.prog 42 #[v,.int .i64 xs.length] w fun e w'=>e=.returned (.int .i64 (Gz xs))∧w'=w:=by
 obtain⟨a,cap,rfl,_,hn,hx⟩:=hv
 unfold Len at hn
 have HX:=hide hx
 clear hx
 go_enter Tryz.func42,Tryz.ntmps42
 go_wp2
 go_loopg [5,6] (xs.length) (fun g l i wr=>∃(m n:Nat),m<=xs.length∧g=m∧l=.int .i64 m∧i=.int .i64 n∧n+3*m<=3*xs.length+1∧bk xs.reverse 1=bk (xs.take m).reverse n∧wr=w)
 case atStart=>exact⟨xs.length,1,Nat.le_refl _,rfl,rfl,rfl,by omega,by rw[List.take_length],rfl⟩
 case round =>
  obtain⟨m,n,hm,hg,rfl,rfl,hn3,hbk,rfl⟩:=hrel
  have HG:=hide hg
  have HB:=hide hbk
  clear hg hbk
  match n with
  | 0 =>
   have F:Gz xs=m:=by
    unfold Gz
    rw[uh HB,abv]
    simp
    omega
   have HF:=hide F
   clear F
   go_wp2
   go_ret
   exact⟨yx (uh HF).symm,rfl⟩
  | n+1 =>
   match m with
   | 0 =>
    have F:Gz xs = -1:=by
     unfold Gz
     rw[uh HB]
     rfl
    have HF:=hide F
    clear F
    go_wp2
    go_ret
    exact⟨yx (uh HF).symm,rfl⟩
   | m+1 =>
    have hlt:m<xs.length:=by omega
    obtain⟨b,o,cs,rfl,_,hb,hcs,hc,hR⟩:=uh HX m hlt
    obtain⟨rfl,hsn,ho,hvl⟩:=hR
    have c0:=hc 0 (by simp)
    simp only[Nat.mul_one,Nat.add_zero,List.getElem_cons_zero,List.getElem_cons_succ] at c0
    have hbd:=aqi xs[m].op
    have La:=hide (fun w=>Ew xs[m].op w ho)
    have hd:=uh HB
    rw[adn xs m hlt] at hd
    simp only[bk] at hd
    by_cases hneg:Bo xs[m].op<0
    ·have F:Gz xs = -1:=by
      unfold Gz
      rw[hd,if_pos hneg]
     have HF:=hide F
     clear F hd hc hcs ho hvl hsn
     generalize xs[m].op=op at *
     generalize Bo op=ar at *
     go_wp2_with fail
     refine(uh La _).mono ?_
     rintro e w1 ⟨rfl,rfl⟩
     go_wp2
     go_ret
     exact⟨yx (uh HF).symm,rfl⟩
    ·rw[if_neg hneg] at hd
     have HF:=hide hd
     clear hd hc hcs ho hvl hsn
     generalize xs[m].op=op at *
     generalize Bo op=ar at *
     go_wp2_with fail
     refine(uh La _).mono ?_
     rintro e w1 ⟨rfl,rfl⟩
     go_wp2_with fail
     refine(uh La _).mono ?_
     rintro e w1 ⟨rfl,rfl⟩
     go_wp2
     go_roundg m
     case measure=>have:=uh HG;omega
     case rel=>exact⟨m,n+ar.toNat,by omega,rfl,by go_num,int_eq (by omega),by omega,uh HF,rfl⟩
def Df (code:List eu):Bool:=decide (code.length<=3000)&&code.all Ir&&wk code 0
def scB (code:List eu):Bool:=decide (1<=code.length∧code.length<=3000)&&Gz code == 0&&code.all Pz
def scM (most:Int) (code:List eu):Bool:=decide (1<=code.length∧(code.length:Int)<=most)&&Gz code == 0&&code.all Pz
theorem at6 (code:List eu):scM 3000 code=scB code:=by
 unfold scM scB
 have:decide (1<=code.length∧(code.length:Int)<=3000)=decide (1<=code.length∧code.length<=3000):=by rw[decide_eq_decide];omega
 rw[this]
theorem av6 (x:eu) (cs:List Value) (w:World) (h:jw 0 w cs x):Calls Tryz.prog 148 #[aax cs] w (Ans (.bool (Ir x)) w):=by
 obtain⟨rfl,h0,_,_⟩:=h
 exact aqo x w h0
set_option maxHeartbeats 400000 in
theorem agd (xs:List eu) (v:Value) (w:World) (hv:bf 3 32 jw 0 w v xs) :
  Calls Tryz.prog 132 #[v] w (Ans (.bool (Df xs)) w):=by
 have HV:=hide hv
 obtain⟨a,cap,rfl,_,hn,hx⟩:=hv
 clear hx
 unfold Len at hn
 by_cases h1:xs.length<=3000
 ·have d1:decide ((xs.length:Int)<=3000)=true:=by simp;omega
  cases ha:xs.all Ir
  ·have e:Df xs=false:=by simp only[Df,ha];simp
   rw[e]
   clear e
   have HA:=hide ha
   clear ha
   go_enter Tryz.func132,Tryz.ntmps132
   go_wp2_with fail
   refine(Rx Ir av6 xs _ _ (uh HV)).mono ?_
   rintro e w1 ⟨rfl,hb⟩
   rw[uh HA]
   go_wp2
   go_ret
   exact⟨rfl,hb⟩
  ·have e:Df xs=wk xs 0:=by simp only[Df,ha];simp;omega
   rw[e]
   clear e
   have HA:=hide ha
   clear ha
   go_enter Tryz.func132,Tryz.ntmps132
   go_wp2_with fail
   refine(Rx Ir av6 xs _ _ (uh HV)).mono ?_
   rintro e w1 ⟨rfl,hb⟩
   rw[uh HA]
   go_wp2_with fail
   refine(alj xs _ _ ((uh HV).stays je hb)).mono ?_
   rintro e w2 ⟨rfl,hb2⟩
   go_wp2
   go_ret
   exact⟨rfl,hb.trans (hb2.mono hb.size)⟩
 ·have d1:decide ((xs.length:Int)<=3000)=false:=by simp;omega
  have e:Df xs=false:=by simp[Df];intro;omega
  rw[e]
  clear e
  go_enter Tryz.func132,Tryz.ntmps132
  go_wp2
  go_ret
  exact⟨rfl,Below.refl _ _⟩
set_option maxHeartbeats 400000 in
theorem ajz (most:Int) (xs:List eu) (v:Value) (w:World) (hv:bf 3 32 jw 0 w v xs) :
  Calls Tryz.prog 95 #[v,.int .i64 most] w (Ans (.bool (scM most xs)) w):=by
 have HV:=hide hv
 obtain⟨a,cap,rfl,_,hn,hx⟩:=hv
 have HX:=hide hx
 clear hx
 unfold Len at hn
 by_cases h1:xs.length<1
 ·have d1:decide ((xs.length:Int)<1)=true:=by simp;omega
  have e:scM most xs=false:=by
   have:decide (1<=xs.length∧(xs.length:Int)<=most)=false:=by rw[decide_eq_false_iff_not];omega
   simp only[scM,this,Bool.false_and]
  rw[e]
  clear e
  go_enter Tryz.func95,Tryz.ntmps95
  go_wp2
  go_ret
  exact⟨rfl,Below.refl _ _⟩
 have d1:decide ((xs.length:Int)<1)=false:=by simp;omega
 by_cases h2:most<(xs.length:Int)
 ·have d2:decide (most<(xs.length:Int))=true:=by simp;omega
  have e:scM most xs=false:=by
   have:decide (1<=xs.length∧(xs.length:Int)<=most)=false:=by rw[decide_eq_false_iff_not];omega
   simp only[scM,this,Bool.false_and]
  rw[e]
  clear e
  go_enter Tryz.func95,Tryz.ntmps95
  go_wp2
  go_ret
  exact⟨rfl,Below.refl _ _⟩
 have d2:decide (most<(xs.length:Int))=false:=by simp;omega
 have hlen:decide (1<=xs.length∧(xs.length:Int)<=most)=true:=by simp;omega
 cases h3:(Gz xs == 0)
 ·have e:scM most xs=false:=by simp only[scM,h3];simp
  rw[e]
  clear e
  have d3:(Gz xs != 0)=true:=by rw[bne,h3];rfl
  have Kz:=hide (aej xs _ w (uh HV))
  generalize Gz xs=bg at *
  clear hlen
  go_enter Tryz.func95,Tryz.ntmps95
  go_wp2_with fail
  refine(uh Kz).mono ?_
  rintro e w1 ⟨rfl,rfl⟩
  go_wp2
  go_ret
  exact⟨rfl,Below.refl _ _⟩
 ·have e:scM most xs=xs.all Pz:=by simp only[scM,h3,hlen];simp
  rw[e]
  clear e
  have d3:(Gz xs != 0)=false:=by rw[bne,h3];rfl
  have Kz:=hide (aej xs _ w (uh HV))
  generalize Gz xs=bg at *
  clear hlen
  go_enter Tryz.func95,Tryz.ntmps95
  go_wp2_with fail
  refine(uh Kz).mono ?_
  rintro e w ⟨rfl,rfl⟩
  go_wp2
  go_loopg [25] xs.length (fun g i wr=>∃(k:Nat),k<=xs.length∧g=xs.length-k∧i=.int .i64 k∧Below w.heap.size w wr∧∀j (h:j<xs.length),j<k->Pz xs[j]=true)
  case atStart=>exact⟨0,Nat.zero_le _,by omega,rfl,Below.refl _ _,fun j _ h=>absurd h (Nat.not_lt_zero _)⟩
  case round =>
   obtain⟨k,hk,hg,rfl,hbl,hall⟩:=hrel
   have HG:=hide hg
   have HA:=hide hall
   clear hg hall
   by_cases hlt:k<xs.length
   ·obtain⟨b,o,cs,rfl,_,hb,hcs,hc,hR⟩:=uh HX k hlt
    have hc:∀j (hj:j<cs.length),wr.cell? ⟨b,o+k*3+j,none⟩=some cs[j]:=fun j hj=>by rw[hbl.cell (p:=⟨b,_,none⟩) hb];exact hc j hj
    obtain⟨rfl,hsn,ho,hvl⟩:=hR
    have c0:=hc 0 (by simp)
    have c1:=hc 1 (by simp)
    have c2:=hc 2 (by simp)
    simp only[Nat.mul_one,Nat.add_zero,List.getElem_cons_zero,List.getElem_cons_succ] at c0 c1 c2
    have HC:=hide (fun w=>ali xs[k] w hsn)
    clear hc hcs hsn ho hvl
    cases hp:Pz xs[k]
    ·have F:xs.all Pz=false:=by
      rw[List.all_eq_false]
      exact⟨xs[k],List.getElem_mem hlt,by rw[hp];decide⟩
     have HF:=hide F
     clear F
     go_wp2_with fail
     refine(uh HC _).mono ?_
     rintro e w1 ⟨rfl,hb1⟩
     rw[hp]
     go_wp2
     go_ret
     exact⟨gu (uh HF).symm,hbl.trans (((Below.refl _ _).alloc hbl.size _).trans (hb1.mono (Nat.le_trans hbl.size (by simp))))⟩
    ·have A':∀j (h:j<xs.length),j<k+1->Pz xs[j]=true:=by
      intro j h h1
      by_cases e:j=k
      ·subst e;exact hp
      ·exact uh HA j h (by omega)
     have HA':=hide A'
     clear A'
     go_wp2_with fail
     refine(uh HC _).mono ?_
     rintro e w1 ⟨rfl,hb1⟩
     rw[hp]
     go_wp2
     go_roundg (xs.length-(k+1))
     case measure=>have:=uh HG;omega
     case rel=>exact⟨k+1,by omega,rfl,by go_num,hbl.trans (((Below.refl _ _).alloc hbl.size _).trans (hb1.mono (Nat.le_trans hbl.size (by simp)))),uh HA'⟩
   ·have e:k=xs.length:=by omega
    have T:xs.all Pz=true:=by
     rw[List.all_eq_true]
     intro x hx
     obtain⟨j,hj,rfl⟩:=List.getElem_of_mem hx
     exact uh HA j hj (by omega)
    have HT:=hide T
    clear T
    go_wp2
    go_ret
    exact⟨gu (uh HT).symm,hbl⟩
theorem Uh (xs:List eu) (v:Value) (w:World) (hv:bf 3 32 jw 0 w v xs) :
  Calls Tryz.prog 95 #[v,.int .i64 3000] w (Ans (.bool (scB xs)) w):=by
 rw[←at6]
 exact ajz 3000 xs v w hv
def fw:List eu->Int->Option Int
 | [],r=>some r
 | t::ts,r=>if r<Bo t.op then none else fw ts (r+(1-Bo t.op))
theorem aqp (xs:List eu) (t:eu) (r:Int):fw (xs++[t]) r=(fw xs r).bind (fun q=>if q<Bo t.op then none else some (q+(1-Bo t.op))):=by
 induction xs generalizing r with
 | nil=>simp[fw]
 | cons x xs ih =>
  simp only[List.cons_append,fw]
  split
  ·rfl
  ·exact ih _
theorem a1f (rev:List eu) (n:Nat):bk rev n=some 0↔(∀t,t∈rev->0<=Bo t.op)∧fw rev.reverse 0=some (n:Int):=by
 induction rev generalizing n with
 | nil =>
  cases n with
  | zero=>simp[bk,fw]
  | succ n =>
   simp[bk,fw]
   omega
 | cons t ts ih =>
  rw[List.reverse_cons,aqp]
  cases n with
  | zero =>
   rw[abv]
   constructor
   ·intro h;simp at h
   ·rintro⟨h1,h2⟩
    cases hq:fw ts.reverse 0 with
    | none=>rw[hq] at h2;simp at h2
    | some q =>
     rw[hq] at h2
     simp at h2
     omega
  | succ n =>
   simp only[bk]
   by_cases hneg:Bo t.op<0
   ·rw[if_pos hneg]
    constructor
    ·intro h;cases h
    ·rintro⟨h1,_⟩
     have:=h1 t (List.mem_cons_self ..)
     omega
   ·rw[if_neg hneg,ih]
    constructor
    ·rintro⟨h1,h2⟩
     refine⟨fun x hx=>?_,?_⟩
     ·rcases List.mem_cons.1 hx with rfl|hx
      ·omega
      ·exact h1 x hx
     ·rw[h2]
      simp
      omega
    ·rintro⟨h1,h2⟩
     refine⟨fun x hx=>h1 x (List.mem_cons_of_mem _ hx),?_⟩
     cases hq:fw ts.reverse 0 with
     | none=>rw[hq] at h2;simp at h2
     | some q =>
      rw[hq] at h2
      simp at h2
      rw[Option.some.injEq]
      omega
theorem av7 (xs:List eu) (r:Int) (h:∀t,t∈xs->G5 t.op=Bo t.op):wk xs r=true↔fw xs r=some 1:=by
 induction xs generalizing r with
 | nil =>
  simp only[wk,fw]
  simp
 | cons t ts ih =>
  simp only[wk,fw]
  rw[h t (List.mem_cons_self ..)]
  by_cases hneg:r<Bo t.op
  ·rw[if_pos hneg,if_pos hneg];simp
  ·rw[if_neg hneg,if_neg hneg]
   exact ih _ (fun x hx=>h x (List.mem_cons_of_mem _ hx))
theorem Qr (op:Int) (h:0<=Bo op):G5 op=Bo op:=by
 unfold Bo at *
 unfold G5
 by_cases h1:(1<=op∧op<=3)∨op=25
 ·rw[if_pos h1,if_pos (by omega)]
 ·rw[if_neg h1] at h
  rw[if_neg h1,if_neg (by omega)]
  by_cases h2:op=4∨op=5∨op=21∨op=22∨op=23
  ·rw[if_pos h2,if_pos h2]
  ·rw[if_neg h2] at h
   rw[if_neg h2,if_neg h2]
   by_cases h3:(6<=op∧op<=19)∨op=24
   ·rw[if_pos h3,if_neg (by omega)]
   ·rw[if_neg h3] at h
    rw[if_neg h3]
    by_cases h4:op=20
    ·rw[if_pos h4,if_pos h4]
    ·rw[if_neg h4] at h
     omega
theorem Mc (op:Int):0<=Bo op↔1<=op∧op<=25:=by
 unfold Bo
 by_cases h1:(1<=op∧op<=3)∨op=25
 ·rw[if_pos h1];omega
 ·rw[if_neg h1]
  by_cases h2:op=4∨op=5∨op=21∨op=22∨op=23
  ·rw[if_pos h2];omega
  ·rw[if_neg h2]
   by_cases h3:(6<=op∧op<=19)∨op=24
   ·rw[if_pos h3];omega
   ·rw[if_neg h3]
    by_cases h4:op=20
    ·rw[if_pos h4];omega
    ·rw[if_neg h4];omega
theorem axa (xs:List eu):(Gz xs == 0)=true↔bk xs.reverse 1=some 0:=by
 unfold Gz
 rw[beq_iff_eq]
 cases h:bk xs.reverse 1 with
 | none=>simp
 | some m=>simp
theorem zo (t:eu):Ir t=true↔(1<=t.op∧t.op<=24)∧rgB t=true∧Lc t=true:=by
 simp[Ir,and_assoc]
theorem amg (t:eu):Pz t=true↔Lc t=true∧(t.op=25∨rgB t=true):=by
 simp[Pz]
theorem Qm (xs:List eu):(scB xs&&xs.all (fun t=>!(t.op == 25)))=Df xs:=by
 rw[Bool.eq_iff_iff]
 simp only[scB,Df,Bool.and_eq_true,decide_eq_true_iff,List.all_eq_true,axa,a1f,List.reverse_reverse,List.mem_reverse]
 constructor
 ·rintro⟨⟨⟨⟨h1,h2⟩,h3,h4⟩,h5⟩,h6⟩
  refine⟨⟨h2,fun t ht=>?_⟩,?_⟩
  ·rw[zo]
   have a:=(Mc t.op).1 (h3 t ht)
   have b:=(amg t).1 (h5 t ht)
   have c:¬t.op=25:=by have:=h6 t ht;simpa using this
   exact⟨by omega,b.2.resolve_left c,b.1⟩
  ·exact(av7 xs 0 (fun t ht=>Qr _ (h3 t ht))).2 (by simpa using h4)
 ·rintro⟨⟨h2,h3⟩,h4⟩
  have har:∀t,t∈xs->0<=Bo t.op:=fun t ht=>(Mc t.op).2 (by have:=((zo t).1 (h3 t ht)).1;omega)
  have h5:fw xs 0=some 1:=(av7 xs 0 (fun t ht=>Qr _ (har t ht))).1 h4
  refine⟨⟨⟨⟨?_,h2⟩,har,by simpa using h5⟩,fun t ht=>?_⟩,fun t ht=>?_⟩
  ·cases xs with
   | nil=>simp[fw] at h5
   | cons t ts=>simp
  ·have:=(zo t).1 (h3 t ht)
   exact(amg t).2 ⟨this.2.2,Or.inr this.2.1⟩
  ·have:=(zo t).1 (h3 t ht)
   have c:¬t.op=25:=by omega
   simpa using c
def Lh (c:cu):Bool:=nameB c.name
def Nh (v:gy):Bool:=nameB v.name&&decide (v.type=1∨v.type=2)&&decide (v.clock.length<=8)&&v.clock.all Lh
def Ip (v:gy):Bool:=decide (v.clock.length=0)&&Nh v
def Eb (e:qg):Bool:=decide (1<=e.lhs.length∧e.lhs.length<=500∧e.args.length<=500)&&e.lhs.all nameB&&(if e.call.size=0 then decide (e.lhs.length=1∧e.args.length=0)&&Df e.code else nameB e.call&&decide (e.code.length=0)&&e.args.all Df)
def qw (n:ay):Bool:=decide (1<=n.outs.length∧n.ins.length+n.outs.length+n.vars.length<=500∧1<=n.eqs.length∧n.eqs.length<=500)&&nameB n.name&&n.ins.all Ip&&n.outs.all Ip&&n.vars.all Nh&&n.eqs.all Eb
def Ar (ns:List ay):Bool:=decide (1<=ns.length∧ns.length<=200)&&ns.all qw
end Go.Proofs.YtflcnhfakcgkeaaGreat
