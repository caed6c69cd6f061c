import Derived.Test.YtflcnhfakcgkeaaGreatOwn
import Derived.Deep.RegionHeld3
import Derived.Deep.QuietTactic
import Derived.BigQuiet
import Derived.Test.YtflcnhfakcgkeaaGreatItemsB
namespace Go.Proofs.YtflcnhfakcgkeaaGreat
open Go.RowKit
set_option linter.unusedSimpArgs false
set_option linter.unusedVariables false
def At {α:Type} (sz:Nat) (R:Nat->World->List Value->α->Prop) (w:World) (b o:Nat) (x:α):Prop :=
 b<w.heap.size∧∃cs,cs.length=sz∧(∀j (hj:j<cs.length),w.cell? ⟨b,o+j,none⟩=some cs[j])∧R 0 w cs x
theorem At.stays {α:Type} {sz:Nat} {R:Nat->World->List Value->α->Prop} (hR:Gm R) {w w':World} {b o:Nat} {x:α} (hb:Below w.heap.size w w') (h:At sz R w b o x):At sz R w' b o x:=by
 obtain⟨h1,cs,h2,h3,h4⟩:=h
 exact⟨Nat.lt_of_lt_of_le h1 hb.size,cs,h2,fun j hj=>by rw[hb.cell (p:=⟨b,_,none⟩) h1];exact h3 j hj,hR.stays _ _ _ _ _ hb h4⟩
theorem bf.at' {α:Type} {sz oz:Nat} {R:Nat->World->List Value->α->Prop} {w:World} {v:Value} {xs:List α} (h:bf sz oz R 0 w v xs) (i:Nat) (hi:i<xs.length) :
  ∃b o cap,v=.slice (some ⟨b,o,none⟩) xs.length cap∧At sz R w b (o+i*sz) xs[i]:=by
 obtain⟨a,cap,rfl,_,_,hx⟩:=h
 obtain⟨b,o,cs,rfl,_,hb,hl,hc,hr⟩:=hx i hi
 exact⟨b,o,cap,rfl,hb,cs,hl,hc,hr⟩
def Vp (code:List eu):Bool:=match code[code.length-1]? with|some t=>F8 t.op|none=>false
theorem avc (code:List eu) (k:Nat) (hk:k<code.length):yh true code k=yh false code k:=by
 induction k with
 | zero=>rfl
 | succ k ih =>
  unfold yh
  rw[ih (by omega)]
  have e:Wq true code k=Wq false code k:=by
   unfold Wq
   have:(k+1 == code.length)=false:=by rw[beq_eq_false_iff_ne];omega
   rw[this]
   simp
  rw[e]
theorem ape (code:List eu) (hn:0<code.length):yh false code code.length=yh true code code.length+(if Vp code then 1 else 0):=by
 obtain⟨n,hl⟩:∃n,code.length=n+1:=⟨code.length-1,by omega⟩
 have e2:=avc code n (by omega)
 unfold Vp
 rw[hl]
 unfold yh
 rw[e2]
 unfold Wq
 rw[hl]
 have e3:code[n]?=some code[n]:=List.getElem?_eq_getElem (by omega)
 simp[e3]
theorem alx (x:qg) (h:x.call.size≠0):yc x=zf false (dw x) (dw x).length:=by
 unfold yc
 rw[decide_eq_false h]
theorem aly (x:qg) (h:x.call.size=0) (hn:0<x.code.length):zf false (dw x) (dw x).length=yc x+(if Vp x.code then 1 else 0):=by
 unfold yc dw
 rw[decide_eq_true h,if_pos h]
 show 0+yh false x.code x.code.length=0+yh true x.code x.code.length+_
 rw[ape x.code hn]
 omega
theorem Y1 (op val:Int) (nm:ByteArray) (w:World) :
  Calls Tryz.prog 86 #[.agg #[.int .i64 op,.int .i64 val,.string nm]] w (Ans (.bool (F8 op)) w):=by
 have B0:=hide ((Below.refl w.heap.size w).alloc (Nat.le_refl _) (.cells #[.int .i64 op,.int .i64 val,.string nm] 97))
 cases h1:(op == 21)<;>cases h2:(op == 22)
 all_goals
  have e:F8 op=(op == 21||op == 22):=rfl
  rw[h1,h2] at e
  rw[e]
  clear e
  go_enter Tryz.func86,Tryz.ntmps86
  go_wp2
  go_ret
  exact⟨rfl,uh B0⟩
set_option maxHeartbeats 400000 in
theorem Ym (x:qg) (b o:Nat) (w:World) (h:At 4 Dt w b o x) :
  Calls Tryz.prog 52 #[.pointer (some ⟨b,o,none⟩)] w fun e w'=>∃v,e=.returned v∧bf 1 24 yu 0 w' v (dw x)∧Below w.heap.size w w':=by
 obtain⟨lhs,code,s,args⟩:=x
 obtain⟨hbl,cs,hl,hc,a1,a2,a3,rfl,hs,h1,h2,h3⟩:=h
 simp only[dw] at *
 obtain⟨b2,c2,rfl⟩:=h2.shape
 obtain⟨b3,c3,rfl⟩:=h3.shape
 have k1:=hc 1 (by simp)
 have k2:=hc 2 (by simp)
 have k3:=hc 3 (by simp)
 simp only[List.getElem_cons_zero,List.getElem_cons_succ] at k1 k2 k3
 have H2:=hide h2
 have H3:=hide h3
 clear h1 h2 h3 hc hs hl
 by_cases g:s.size=0
 ·rw[if_pos g]
  have d4:=Aa s g
  have Ij:=xg s g
  have HO:=hide (aq6 45 (uh H2))
  clear g
  go_enter Tryz.func52,Tryz.ntmps52
  go_wp2
  go_ret
  exact⟨_,rfl,by simpa using uh HO,(Below.refl _ _).alloc (Nat.le_refl _) _⟩
 ·rw[if_neg g]
  have d4:=Ae s g
  have Ij:=vk s g
  clear g
  go_enter Tryz.func52,Tryz.ntmps52
  go_wp2
  go_ret
  exact⟨_,rfl,uh H3,Below.refl _ _⟩
def aky (x:qg):Bool:=decide (x.call.size=0)&&Vp x.code
set_option maxHeartbeats 2000000 in
theorem akz (x:qg) (b o:Nat) (w:World) (h:At 4 Dt w b o x) (hne:x.call.size=0->0<x.code.length) :
  Calls Tryz.prog 138 #[.pointer (some ⟨b,o,none⟩)] w (Ans (.bool (aky x)) w):=by
 obtain⟨lhs,code,s,args⟩:=x
 obtain⟨hbl,cs,hl,hc,a1,a2,a3,rfl,hs,h1,h2,h3⟩:=h
 simp only[aky] at *
 obtain⟨b2,c2,rfl⟩:=h2.shape
 have k1:=hc 1 (by simp)
 have k2:=hc 2 (by simp)
 simp only[List.getElem_cons_zero,List.getElem_cons_succ] at k1 k2
 have H2:=hide h2
 have n2:=h2.len'
 clear h1 h2 h3 hc hs hl
 by_cases g:s.size=0
 ·rw[decide_eq_true g,Bool.true_and]
  have hn0:=hne g
  obtain⟨bb,oo,cs,jr,_,hb,hcs,hcc,hR⟩:=(show ∃b' o' cs',b2=some ⟨b',o',none⟩∧0<=b'∧b'<w.heap.size∧cs'.length=3∧(∀j (hj:j<cs'.length),w.cell? ⟨b',o'+(code.length-1)*3+j,none⟩=some cs'[j])∧jw 0 w cs' code[code.length-1] from by
   obtain⟨a,cap,hv,_,_,hx⟩:=uh H2
   simp only[Value.slice.injEq] at hv
   obtain⟨rfl,_,_⟩:=hv
   exact hx (code.length-1) (by omega))
  subst jr
  obtain⟨rfl,hsn,ho,hvl⟩:=hR
  have hcc:∀j (hj:j<3),w.cell? ⟨bb,oo+(code.length-1)*3+j,none⟩=some _:=fun j hj=>by rw[(Below.refl w.heap.size w).cell (p:=⟨bb,_,none⟩) hb];exact hcc j hj
  have e0:=hcc 0 (by simp)
  have e1:=hcc 1 (by simp)
  have e2:=hcc 2 (by simp)
  simp only[Nat.mul_one,Nat.add_zero,List.getElem_cons_zero,List.getElem_cons_succ] at e0 e1 e2
  have hlf:Vp code=F8 code[code.length-1].op:=by
   unfold Vp
   rw[List.getElem?_eq_getElem (by omega)]
  rw[hlf]
  have d4:=Aa s g
  have Ij:=xg s g
  obtain⟨li,V3⟩:∃li,code.length=li+1:=⟨code.length-1,by omega⟩
  have hii:code.length-1=li:=by omega
  generalize code[code.length-1]=it at *
  rw[hii] at e0 e1 e2
  rw[V3] at k1
  have a6p:li+1<=140737488355328:=by omega
  have hw1:IntKind.i64.wrap (li:Int)=(li:Int):=by rw[IntKind.wrap_i64];omega
  have hw2:IntKind.i64.wrap ((li:Int)+1-1)=(li:Int):=by rw[IntKind.wrap_i64];omega
  have hw3:(li:Int)<(li:Int)+1:=by omega
  have hw4:(0:Int)<=(li:Int):=by omega
  have hw5:li<li+1:=by omega
  have HC:Hid (Calls Tryz.prog 86 #[.agg #[.int .i64 it.op,.int .i64 it.val,.string it.name]] w.drew fun e w'=>e=.returned (.bool (F8 it.op))∧Hid (Below w.heap.size w w')∧w'.cell? ⟨b,o+1,none⟩=some (.slice (some ⟨bb,oo,none⟩) (li+1) c2)∧w'.cell? ⟨b,o+2,none⟩=some (.string s)∧w'.cell? ⟨bb,oo+li*3,none⟩=some (.int .i64 it.op)∧w'.cell? ⟨bb,oo+li*3+1,none⟩=some (.int .i64 it.val)∧w'.cell? ⟨bb,oo+li*3+2,none⟩=some (.string it.name)):=by
   refine(Y1 it.op it.val it.name w.drew).mono ?_
   rintro e w' ⟨rfl,h4⟩
   have h5:Below w.heap.size w w':=((Below.refl _ w).drew).trans h4
   have hbv:b<w.heap.size:=Nat.lt_of_lt_of_le hbl (Below.refl w.heap.size w).size
   have avd:bb<w.heap.size:=Nat.lt_of_lt_of_le hb (Below.refl w.heap.size w).size
   exact⟨rfl,(Below.refl w.heap.size w).trans (h5.mono (Below.refl w.heap.size w).size),by rw[h5.cell (p:=⟨b,_,none⟩) hbv];exact k1,by rw[h5.cell (p:=⟨b,_,none⟩) hbv];exact k2,by rw[h5.cell (p:=⟨bb,_,none⟩) avd];exact e0,by rw[h5.cell (p:=⟨bb,_,none⟩) avd];exact e1,by rw[h5.cell (p:=⟨bb,_,none⟩) avd];exact e2⟩
  clear H2 hcc hcs hsn ho hvl hlf g Ij hne n2 hn0 V3 hii
  go_enter Tryz.func138,Tryz.ntmps138
  go_wp2_with fail
  go_region_held3 (fun w'=>w'.cell? ⟨b,o+1,none⟩=some (.slice (some ⟨bb,oo,none⟩) (li+1) c2)∧w'.cell? ⟨b,o+2,none⟩=some (.string s)∧w'.cell? ⟨bb,oo+li*3,none⟩=some (.int .i64 it.op)∧w'.cell? ⟨bb,oo+li*3+1,none⟩=some (.int .i64 it.val)∧w'.cell? ⟨bb,oo+li*3+2,none⟩=some (.string it.name)) (go_keep) (first|(go_at_call 86;refine(uh HC).mono ?_;rintro e w6 ⟨rfl,X3,q1,q2,q3,q4,q5⟩))
  all_goals
   go_wp2
   go_ret
   exact⟨rfl,uh X3⟩
 ·rw[decide_eq_false g,Bool.false_and]
  have d4:=Ae s g
  have Ij:=vk s g
  have HBn:Hid (∀n,Below w.heap.size w (w.drewN n)):=fun n=>⟨rfl,rfl,rfl,Nat.le_refl _,fun _ _=>rfl⟩
  clear H2 hne g
  go_enter Tryz.func138,Tryz.ntmps138
  go_wp2_with fail
  go_quiet ((fail))
  go_wp2
  go_ret
  exact⟨rfl,uh HBn _⟩
set_option maxHeartbeats 2000000 in
theorem aaq (x:qg) (b o:Nat) (w:World) (h:At 4 Dt w b o x) (hcl:∀c,c∈dw x->c.length<=3000) (hcn:(dw x).length<=500) (hne:x.call.size=0->0<x.code.length) :
  Calls Tryz.prog 111 #[.pointer (some ⟨b,o,none⟩)] w (Ans (.int .i64 (yc x)) w):=by
 have HA:=hide h
 have EF:=hide (fun h=>alx x h)
 have EC:=hide (fun h h'=>aly x h h')
 obtain⟨lhs,code,s,args⟩:=x
 obtain⟨hbl,cs,hl,hc,a1,a2,a3,rfl,hs,h1,h2,h3⟩:=h
 simp only at *
 obtain⟨b2,c2,rfl⟩:=h2.shape
 have k1:=hc 1 (by simp)
 have k2:=hc 2 (by simp)
 simp only[List.getElem_cons_zero,List.getElem_cons_succ] at k1 k2
 have K1:=hide k1
 have K2:=hide k2
 have H2:=hide h2
 have n2:=h2.len'
 clear h1 h2 h3 hc hs hl k1 k2
 go_enter Tryz.func111,Tryz.ntmps111
 go_wp2_with fail
 refine(Ym ⟨lhs,code,s,args⟩ b o w (uh HA)).mono ?_
 rintro e w1 ⟨vc,rfl,Xg,hb1⟩
 have B1:Hid (Below w.heap.size w w1):=hb1
 generalize dw ⟨lhs,code,s,args⟩=iy at *
 obtain⟨bv,cv,rfl⟩:=Xg.shape
 obtain⟨_,_,hvv,_,hvn,Gw⟩:=Xg
 simp only[Value.slice.injEq] at hvv
 obtain⟨rfl,_,rfl⟩:=hvv
 unfold Len at hvn
 have Jf:=hide Gw
 clear Gw hb1
 go_wp2
 go_loopg [3,11] iy.length (fun g n i wr=>∃(m:Nat),m<=iy.length∧g=iy.length-m∧i=.int .i64 m∧n=.int .i64 (zf false iy m)∧Below w1.heap.size w1 wr)
 case atStart=>exact⟨0,Nat.zero_le _,by omega,rfl,rfl,Below.refl _ _⟩
 case round =>
  obtain⟨m,hm,hgm,rfl,rfl,Hg⟩:=hrel
  rename World=>wv
  have Hy:=hide hgm
  have Az:=hide Hg
  have BV:Hid (Below w.heap.size w wv):=(uh B1).trans (Hg.mono (uh B1).size)
  clear hgm Hg
  by_cases Aj:m<iy.length
  ·obtain⟨ba,oa,Le,jr,_,hba,Gx,hca,Oy⟩:=uh Jf m Aj
   subst jr
   have hca:∀j (hj:j<Le.length),wv.cell? ⟨ba,oa+m*1+j,none⟩=some Le[j]:=fun j hj=>by rw[(uh Az).cell (p:=⟨ba,_,none⟩) hba];exact hca j hj
   have Oy:=lq.stays _ _ _ _ _ (uh Az) Oy
   obtain⟨va,rfl,hE⟩:=Oy
   obtain⟨be,ce,rfl⟩:=hE.shape
   have r0:=hca 0 (by simp)
   simp only[Nat.mul_one,Nat.add_zero,List.getElem_cons_zero,List.getElem_cons_succ] at r0
   obtain⟨_,_,I8,_,hne2,hex⟩:=hE
   simp only[Value.slice.injEq] at I8
   obtain⟨rfl,_,rfl⟩:=I8
   unfold Len at hne2
   have HEX:=hide hex
   have SM:zf false iy (m+1)=zf false iy m+yh false iy[m] iy[m].length:=by
    rw[zf,List.getElem?_eq_getElem Aj]
   have adt:=Ez false iy m
   have adu:=Ed iy 3000 hcl m
   have hle:=hcl iy[m] (List.getElem_mem Aj)
   have Uw:=hide SM
   clear SM hex hca Gx
   generalize iy[m]=el at *
   generalize zf false iy m=n0 at *
   have hn0:n0<=3000*iy.length:=by
    have:m*3000<=iy.length*3000:=Nat.mul_le_mul_right _ hm
    omega
   clear adt adu
   go_wp2
   go_loopg [3,17] el.length (fun g n i wr=>∃(q:Nat),q<=el.length∧g=el.length-q∧i=.int .i64 q∧n=.int .i64 ((n0+yh false el q:Nat):Int)∧Below wv.heap.size wv wr)
   case atStart=>exact⟨0,Nat.zero_le _,by omega,rfl,rfl,Below.refl _ _⟩
   case round =>
    obtain⟨q,hq,hg3,rfl,rfl,Ci⟩:=hrel
    have Jg:=hide hg3
    have HB3:=hide Ci
    have hib:=Zj false el q
    clear hg3 Ci
    by_cases hlt3:q<el.length
    ·obtain⟨b,o,cs,jr,_,hb,hcs,hc,hR⟩:=uh HEX q hlt3
     subst jr
     have hc:∀j (hj:j<cs.length),wr.cell? ⟨b,o+q*3+j,none⟩=some cs[j]:=fun j hj=>by rw[(uh HB3).cell (p:=⟨b,_,none⟩) hb];exact hc j hj
     obtain⟨rfl,hsn,ho,hvl⟩:=hR
     have e0:=hc 0 (by simp)
     have e1:=hc 1 (by simp)
     have e2:=hc 2 (by simp)
     simp only[Nat.mul_one,Nat.add_zero,List.getElem_cons_zero,List.getElem_cons_succ] at e0 e1 e2
     clear hc hcs hsn ho hvl
     have B4:=hide ((Below.refl wr.heap.size wr).alloc (Nat.le_refl _) (.cells #[.int .i64 el[q].op,.int .i64 el[q].val,.string el[q].name] 97))
     have S:yh false el (q+1)=yh false el q+(if F8 el[q].op then 1 else 0):=by
      rw[yh,Wq,List.getElem?_eq_getElem hlt3]
      simp
     cases hf:F8 el[q].op
     ·rw[hf] at S
      have HS:=hide S
      clear S
      go_wp2_with fail
      refine(Y1 _ _ _ _).mono ?_
      rintro e w4 ⟨rfl,hb4⟩
      have B5:Hid (Below wr.heap.size wr w4):=(uh B4).trans (hb4.mono (uh B4).size)
      rw[hf]
      clear hb4
      go_wp2
      go_roundg (el.length-(q+1))
      case measure=>have:=uh Jg;omega
      case rel=>exact⟨q+1,by omega,rfl,by go_num,int_eq (by have h:=uh HS;simp at h;omega),(uh HB3).trans ((uh B5).mono (uh HB3).size)⟩
     ·rw[hf] at S
      have HS:=hide S
      clear S
      go_wp2_with fail
      refine(Y1 _ _ _ _).mono ?_
      rintro e w4 ⟨rfl,hb4⟩
      have B5:Hid (Below wr.heap.size wr w4):=(uh B4).trans (hb4.mono (uh B4).size)
      rw[hf]
      clear hb4
      go_wp2
      go_roundg (el.length-(q+1))
      case measure=>have:=uh Jg;omega
      case rel=>exact⟨q+1,by omega,rfl,by go_num,int_eq (by have h:=uh HS;simp at h;omega),(uh HB3).trans ((uh B5).mono (uh HB3).size)⟩
    ·have e:q=el.length:=by omega
     subst e
     have HE:Hid (n0+yh false el el.length=zf false iy (m+1)):=(uh Uw).symm
     go_wp2
     go_roundg (iy.length-(m+1))
     case measure=>have:=uh Hy;omega
     case rel=>exact⟨m+1,by omega,rfl,by go_num,int_eq (by have:=uh HE;omega),(uh Az).trans ((uh HB3).mono (uh Az).size)⟩
  ·have e:m=iy.length:=by omega
   subst e
   have k1:wv.cell? ⟨b,o+1,none⟩=some (.slice b2 code.length c2):=by rw[(uh BV).cell (p:=⟨b,o+1,none⟩) hbl];exact uh K1
   have k2:wv.cell? ⟨b,o+2,none⟩=some (.string s):=by rw[(uh BV).cell (p:=⟨b,o+2,none⟩) hbl];exact uh K2
   clear K1 K2
   have adt:=Ez false iy iy.length
   have adu:=Ed iy 3000 hcl iy.length
   have hbd:zf false iy iy.length<=1500000:=by
    have:iy.length*3000<=500*3000:=Nat.mul_le_mul_right _ hcn
    omega
   clear adt adu hcl hcn Jf Hy Az
   have HEF:=hide (akz ⟨lhs,code,s,args⟩ b o wv ((uh HA).stays xq (uh BV)) hne)
   have HIN:Hid ((if aky ⟨lhs,code,s,args⟩ then 1 else 0)+yc ⟨lhs,code,s,args⟩=zf false iy iy.length):=by
    refine hide ?_
    unfold aky
    by_cases g:s.size=0
    ·have E:=uh EC g (hne g)
     rw[E]
     simp only[g,decide_true,Bool.true_and]
     omega
    ·have E:=uh EF g
     rw[E]
     simp[g]
   clear k1 k2 EC EF HA H2 hne
   generalize yc ⟨lhs,code,s,args⟩=inn at *
   generalize aky ⟨lhs,code,s,args⟩=eb at *
   generalize zf false iy iy.length=tot at *
   have HB0:=hide (uh BV)
   cases eb
   ·go_wp2_with fail
    refine(uh HEF).mono ?_
    rintro e w6 ⟨rfl,hb6⟩
    have X3:=hide ((uh BV).trans (hb6.mono (uh BV).size))
    clear hb6
    go_wp2
    go_ret
    exact⟨yx (by have h:=uh HIN;simp at h;omega),uh X3⟩
   ·go_wp2_with fail
    refine(uh HEF).mono ?_
    rintro e w6 ⟨rfl,hb6⟩
    have X3:=hide ((uh BV).trans (hb6.mono (uh BV).size))
    clear hb6
    go_wp2
    go_ret
    exact⟨yx (by have h:=uh HIN;simp at h;omega),uh X3⟩
def jh (ns:List ay) (n:Nat) (s:ByteArray):Int:=match (ns.take n).findIdx? (fun x=>x.name.toList == s.toList) with
 | some i=>i
 | none => -1
theorem ave (ns:List ay) (n k:Nat) (s:ByteArray) (hk:k<n) (hn:k<ns.length) (h:(ns[k].name.toList == s.toList)=true) (hb:∀j (hj:j<ns.length),j<k->(ns[j].name.toList == s.toList)=false):jh ns n s=k:=by
 unfold jh
 have:(ns.take n).findIdx? (fun x=>x.name.toList == s.toList)=some k:=by
  rw[List.findIdx?_eq_some_iff_getElem]
  refine⟨by rw[List.length_take];omega,by rw[List.getElem_take];exact h,fun j hj=>?_⟩
  rw[List.getElem_take]
  simp[hb j (by omega) hj]
 rw[this]
theorem agu (ns:List ay) (n:Nat) (s:ByteArray) (hb:∀j (hj:j<ns.length),j<n->(ns[j].name.toList == s.toList)=false):jh ns n s = -1:=by
 unfold jh
 have:(ns.take n).findIdx? (fun x=>x.name.toList == s.toList)=none:=by
  rw[List.findIdx?_eq_none_iff]
  intro x hx
  obtain⟨j,hj,rfl⟩:=List.getElem_of_mem hx
  rw[List.getElem_take]
  rw[List.length_take] at hj
  exact hb j (by omega) (by omega)
 rw[this]
theorem J7 (ns:List ay) (n:Nat) (s:ByteArray) : -1<=jh ns n s∧jh ns n s<n:=by
 unfold jh
 cases h:(ns.take n).findIdx? (fun x=>x.name.toList == s.toList) with
 | none=>simp only;omega
 | some i =>
  rw[List.findIdx?_eq_some_iff_getElem] at h
  obtain⟨hi,_⟩:=h
  rw[List.length_take] at hi
  simp only
  omega
set_option maxHeartbeats 400000 in
theorem aae (ns:List ay) (v:Value) (n:Nat) (s:ByteArray) (w:World) (h1:bf 5 112 o7 0 w v ns) (hn:n<=ns.length) :
  Calls Tryz.prog 65 #[.agg #[v],.int .i64 n,.string s] w (Ans (.int .i64 (jh ns n s)) w):=by
 obtain⟨a,cap,rfl,_,hl,hx⟩:=h1
 unfold Len at hl
 have HX:=hide hx
 clear hx
 have B0:=hide ((Below.refl w.heap.size w).alloc (Nat.le_refl _) (.cells #[.slice a ns.length cap] 30))
 go_enter Tryz.func65,Tryz.ntmps65
 go_wp2
 go_loopg [7] n (fun g i wr=>∃(k:Nat),k<=n∧g=n-k∧i=.int .i64 k∧wr=w.alloc (.cells #[.slice a ns.length cap] 30)∧∀j (hj:j<ns.length),j<k->(ns[j].name.toList == s.toList)=false)
 case atStart=>exact⟨0,Nat.zero_le _,by omega,rfl,rfl,fun j _ h=>absurd h (Nat.not_lt_zero _)⟩
 case round =>
  obtain⟨k,hk,hg,rfl,hwr,hall⟩:=hrel
  subst hwr
  have HG:=hide hg
  have HA:=hide hall
  clear hg hall
  by_cases hlt:k<n
  ·obtain⟨b,o,cs,jr,_,hb,hcs,hc,hR⟩:=uh HX k (by omega)
   subst jr
   obtain⟨ni,no,nv,ne,rfl,hsn,_⟩:=hR
   have c0:=hc 0 (by simp)
   simp only[Nat.mul_one,Nat.add_zero,List.getElem_cons_zero,List.getElem_cons_succ] at c0
   have hki:(k:Int)<(ns.length:Int):=by omega
   clear hc hcs
   cases he:(ns[k].name.toList == s.toList)
   ·have A':∀j (hj:j<ns.length),j<k+1->(ns[j].name.toList == s.toList)=false:=by
     intro j h h1
     by_cases e:j=k
     ·subst e;exact he
     ·exact uh HA j h (by omega)
    have HA':=hide A'
    clear A'
    go_wp2
    go_roundg (n-(k+1))
    case measure=>have:=uh HG;omega
    case rel=>exact⟨k+1,by omega,rfl,by go_num,rfl,uh HA'⟩
   ·have F:=ave ns n k s hlt (by omega) he (uh HA)
    have HF:=hide F
    clear F
    go_wp2
    go_ret
    exact⟨yx (uh HF).symm,uh B0⟩
  ·have e:k=n:=by omega
   have F:=agu ns n s (by have:=uh HA;rw[e] at this;exact this)
   have HF:=hide F
   clear F
   go_wp2
   go_ret
   exact⟨yx (uh HF).symm,uh B0⟩
def U2 (m i:Nat) (v:gy):Bool:=if i<m then Ip v else Nh v
theorem yg (n:ay):qw n=true↔(1<=n.outs.length∧n.ins.length+n.outs.length+n.vars.length<=500∧1<=n.eqs.length∧n.eqs.length<=500)∧nameB n.name=true∧n.ins.all Ip=true∧n.outs.all Ip=true∧n.vars.all Nh=true∧n.eqs.all Eb=true:=by
 unfold qw
 simp only[Bool.and_eq_true,decide_eq_true_iff,and_assoc]
theorem O9 {b:Bool} (h:¬b=true):b=false:=by cases b;rfl;exact absurd rfl h
theorem akv (n:ay) (h:nameB n.name=false):qw n=false:=O9 fun hh=>by
 have:=((yg n).1 hh).2.1
 rw[h] at this
 cases this
theorem Uk (n:ay) (h:¬(1<=n.outs.length∧n.ins.length+n.outs.length+n.vars.length<=500∧1<=n.eqs.length∧n.eqs.length<=500)):qw n=false:=O9 fun hh=>h ((yg n).1 hh).1
theorem apa (n:ay) (h:n.eqs.all Eb=false):qw n=false:=O9 fun hh=>by
 have:=((yg n).1 hh).2.2.2.2.2
 rw[h] at this
 cases this
theorem arh (ins outs vars:List gy):(∀i (h:i<(ins++outs++vars).length),U2 (ins.length+outs.length) i (ins++outs++vars)[i]=true)↔ins.all Ip=true∧outs.all Ip=true∧vars.all Nh=true:=by
 simp only[List.all_eq_true]
 constructor
 ·intro h
  refine⟨fun x hx=>?_,fun x hx=>?_,fun x hx=>?_⟩
  ·obtain⟨j,hj,rfl⟩:=List.getElem_of_mem hx
   have:=h j (by simp only[List.length_append];omega)
   rw[List.getElem_append_left (by simp only[List.length_append];omega),List.getElem_append_left hj] at this
   unfold U2 at this
   rw[if_pos (by omega)] at this
   exact this
  ·obtain⟨j,hj,rfl⟩:=List.getElem_of_mem hx
   have:=h (ins.length+j) (by simp only[List.length_append];omega)
   rw[List.getElem_append_left (by simp only[List.length_append];omega),List.getElem_append_right (by omega)] at this
   unfold U2 at this
   rw[if_pos (by omega)] at this
   simpa using this
  ·obtain⟨j,hj,rfl⟩:=List.getElem_of_mem hx
   have:=h (ins.length+outs.length+j) (by simp only[List.length_append];omega)
   rw[List.getElem_append_right (by simp only[List.length_append];omega)] at this
   unfold U2 at this
   rw[if_neg (by omega)] at this
   simpa using this
 ·rintro⟨h1,h2,h3⟩ i hi
  simp only[List.length_append] at hi
  unfold U2
  by_cases c1:i<ins.length
  ·rw[if_pos (by omega),List.getElem_append_left (by simp only[List.length_append];omega),List.getElem_append_left c1]
   exact h1 _ (List.getElem_mem c1)
  ·by_cases c2:i<ins.length+outs.length
   ·rw[if_pos c2,List.getElem_append_left (by simp only[List.length_append];omega),List.getElem_append_right (by omega)]
    exact h2 _ (List.getElem_mem (by omega))
   ·rw[if_neg c2,List.getElem_append_right (by simp only[List.length_append];omega)]
    exact h3 _ (List.getElem_mem (by simp only[List.length_append];omega))
theorem alu (n:ay) (vs:List gy) (e:n.ins++n.outs++n.vars=vs) (i:Nat) (hi:i<vs.length) (h:U2 (n.ins.length+n.outs.length) i vs[i]=false):qw n=false:=O9 fun hh=>by
 have hn:=(yg n).1 hh
 subst e
 have:=(arh n.ins n.outs n.vars).2 ⟨hn.2.2.1,hn.2.2.2.1,hn.2.2.2.2.1⟩ i hi
 rw[h] at this
 cases this
theorem ava (n:ay) (vs:List gy) (e:n.ins++n.outs++n.vars=vs) (h0:1<=n.outs.length∧n.ins.length+n.outs.length+n.vars.length<=500∧1<=n.eqs.length∧n.eqs.length<=500) (h1:nameB n.name=true)
  (h2:∀i (h:i<vs.length),U2 (n.ins.length+n.outs.length) i vs[i]=true) (h3:n.eqs.all Eb=true):qw n=true:=by
 subst e
 have:=(arh n.ins n.outs n.vars).1 h2
 exact(yg n).2 ⟨h0,h1,this.1,this.2.1,this.2.2,h3⟩
theorem S9 (v:gy):Nh v=true↔nameB v.name=true∧(v.type=1∨v.type=2)∧v.clock.length<=8∧v.clock.all Lh=true:=by
 unfold Nh
 simp only[Bool.and_eq_true,decide_eq_true_iff,and_assoc]
theorem Y3 (v:gy):Ip v=true↔v.clock.length=0∧Nh v=true:=by
 unfold Ip
 simp only[Bool.and_eq_true,decide_eq_true_iff]
theorem aq8 (m i:Nat) (v:gy):U2 m i v=true↔nameB v.name=true∧(v.type=1∨v.type=2)∧v.clock.length<=8∧v.clock.all Lh=true∧(i<m->v.clock.length=0):=by
 unfold U2
 by_cases h:i<m
 ·rw[if_pos h,Y3,S9]
  constructor
  ·rintro⟨a,b,c,d,e⟩;exact⟨b,c,d,e,fun _=>a⟩
  ·rintro⟨b,c,d,e,a⟩;exact⟨a h,b,c,d,e⟩
 ·rw[if_neg h,S9]
  constructor
  ·rintro⟨b,c,d,e⟩;exact⟨b,c,d,e,fun h'=>absurd h' h⟩
  ·rintro⟨b,c,d,e,_⟩;exact⟨b,c,d,e⟩
theorem abw (m i:Nat) (v:gy) (h:¬(nameB v.name=true∧(v.type=1∨v.type=2)∧v.clock.length<=8∧v.clock.all Lh=true∧(i<m->v.clock.length=0))):U2 m i v=false:=O9 fun hh=>h ((aq8 m i v).1 hh)
end Go.Proofs.YtflcnhfakcgkeaaGreat
