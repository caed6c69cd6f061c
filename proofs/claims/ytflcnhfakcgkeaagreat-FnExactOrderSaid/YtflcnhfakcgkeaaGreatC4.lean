import Derived.Test.YtflcnhfakcgkeaaGreatOwnF
namespace Go.Proofs.YtflcnhfakcgkeaaGreat
open Go.RowKit
set_option linter.unusedSimpArgs false
set_option linter.unusedVariables false
set_option maxRecDepth 20000 in
set_option maxHeartbeats 16000000 in
theorem ahn (x:ay) (b1 b2 b3 b4:Option Addr) (c1 c2 c3 n4 c4:Nat) (hsum:x.ins.length+x.outs.length+x.vars.length<=1048576) (code:List eu) (v:Value) (hit:∀t,t∈code->Ir t=true) (hl:code.length<=3000) (l b:Nat) (ty:Int)
  (hfd:Fd (ny (aj x)) code b (l+1) [ty]) (w:World) (hni:Iu x b1 b2 b3 c1 c2 c3 w) (hv:bf 3 32 jw 0 w v code) (hlt0:l<code.length) (hne:code[l].name.size=0) (h3:¬code[l].op=3)
  (ih:∀m,m<l+1->∀(b0:Nat) (k:Int),Fd (ny (aj x)) code b0 m [k]->∀w1,Iu x b1 b2 b3 c1 c2 c3 w1->bf 3 32 jw 0 w1 v code->Calls Tryz.prog 96 #[.agg #[.string x.name,.slice b1 x.ins.length c1,.slice b2 x.outs.length c2,.slice b3 x.vars.length c3,.slice b4 n4 c4],v,.int .i64 (m:Int)] w1 (Ans (.int .i64 k) w1)) :
  Calls Tryz.prog 96 #[.agg #[.string x.name,.slice b1 x.ins.length c1,.slice b2 x.outs.length c2,.slice b3 x.vars.length c3,.slice b4 n4 c4],v,.int .i64 ((l:Int)+1)] w (Ans (.int .i64 ty) w):=by
 have har:∀t,t∈code->0<=Bo t.op:=fun t ht=>(Mc t.op).2 (by have:=((zo t).1 (hit t ht)).1;omega)
 obtain⟨hlt,us,hus,pz,hty⟩:=hfd.last
 obtain⟨hi0,hir,hin⟩:=(zo code[l]).1 (hit _ (List.getElem_mem hlt))
 have HV:=hide hv
 have zl:=hide hni
 have hx:=hv
 obtain⟨a,cap,rfl,_,hn,hx⟩:=hx
 unfold Len at hn
 obtain⟨bb,oo,cs,rfl,_,hbb,hcs,hc,hR⟩:=hx l hlt
 obtain⟨rfl,hsn,hop,hvl⟩:=hR
 have q0:=hc 0 (by simp)
 have q1:=hc 1 (by simp)
 have q2:=hc 2 (by simp)
 simp only[Nat.mul_one,Nat.add_zero,List.getElem_cons_zero,List.getElem_cons_succ] at q0 q1 q2
 have hA:Below w.heap.size w ((w.alloc (.cells #[.string x.name,.slice b1 x.ins.length c1,.slice b2 x.outs.length c2,.slice b3 x.vars.length c3,.slice b4 n4 c4] 42)).alloc (.cells #[.int .i64 code[l].op,.int .i64 code[l].val,.string code[l].name] 97)):=((Below.refl _ _).alloc (Nat.le_refl _) _).alloc (by simp) _
 have HA:=hide hA
 have Je:Hid (((w.alloc (.cells #[.string x.name,.slice b1 x.ins.length c1,.slice b2 x.outs.length c2,.slice b3 x.vars.length c3,.slice b4 n4 c4] 42)).alloc (.cells #[.int .i64 code[l].op,.int .i64 code[l].val,.string code[l].name] 97)).heap.size=w.heap.size+2):=by
  show ((w.alloc (.cells #[.string x.name,.slice b1 x.ins.length c1,.slice b2 x.outs.length c2,.slice b3 x.vars.length c3,.slice b4 n4 c4] 42)).alloc (.cells #[.int .i64 code[l].op,.int .i64 code[l].val,.string code[l].name] 97)).heap.size=w.heap.size+2
  simp
 have o8:Hid (∀w1,Below (w.heap.size+2) ((w.alloc (.cells #[.string x.name,.slice b1 x.ins.length c1,.slice b2 x.outs.length c2,.slice b3 x.vars.length c3,.slice b4 n4 c4] 42)).alloc (.cells #[.int .i64 code[l].op,.int .i64 code[l].val,.string code[l].name] 97)) w1->Below w.heap.size w w1):=fun w1 h=>(uh HA).trans (h.mono (by omega))
 have hBN:dh ((w.alloc (.cells #[.string x.name,.slice b1 x.ins.length c1,.slice b2 x.outs.length c2,.slice b3 x.vars.length c3,.slice b4 n4 c4] 42)).alloc (.cells #[.int .i64 code[l].op,.int .i64 code[l].val,.string code[l].name] 97)) w.heap.size 42 #[.string x.name,.slice b1 x.ins.length c1,.slice b2 x.outs.length c2,.slice b3 x.vars.length c3,.slice b4 n4 c4]:=(jd w #[.string x.name,.slice b1 x.ins.length c1,.slice b2 x.outs.length c2,.slice b3 x.vars.length c3,.slice b4 n4 c4] 42).below ((Below.refl _ _).alloc (Nat.le_refl _) _) (by simp)
 have hBI:dh ((w.alloc (.cells #[.string x.name,.slice b1 x.ins.length c1,.slice b2 x.outs.length c2,.slice b3 x.vars.length c3,.slice b4 n4 c4] 42)).alloc (.cells #[.int .i64 code[l].op,.int .i64 code[l].val,.string code[l].name] 97)) (w.heap.size+1) 97 #[.int .i64 code[l].op,.int .i64 code[l].val,.string code[l].name]:=by
  have:=jd (w.alloc (.cells #[.string x.name,.slice b1 x.ins.length c1,.slice b2 x.outs.length c2,.slice b3 x.vars.length c3,.slice b4 n4 c4] 42)) #[.int .i64 code[l].op,.int .i64 code[l].val,.string code[l].name] 97
  rwa[show (w.alloc (.cells #[.string x.name,.slice b1 x.ins.length c1,.slice b2 x.outs.length c2,.slice b3 x.vars.length c3,.slice b4 n4 c4] 42)).heap.size=w.heap.size+1 from by simp] at this
 have Cj:Hid (∀w1,Below (w.heap.size+2) ((w.alloc (.cells #[.string x.name,.slice b1 x.ins.length c1,.slice b2 x.outs.length c2,.slice b3 x.vars.length c3,.slice b4 n4 c4] 42)).alloc (.cells #[.int .i64 code[l].op,.int .i64 code[l].val,.string code[l].name] 97)) w1->dh w1 w.heap.size 42 #[.string x.name,.slice b1 x.ins.length c1,.slice b2 x.outs.length c2,.slice b3 x.vars.length c3,.slice b4 n4 c4]):=fun w1 h=>hBN.below h (by omega)
 have Md:Hid (∀w1,Below (w.heap.size+2) ((w.alloc (.cells #[.string x.name,.slice b1 x.ins.length c1,.slice b2 x.outs.length c2,.slice b3 x.vars.length c3,.slice b4 n4 c4] 42)).alloc (.cells #[.int .i64 code[l].op,.int .i64 code[l].val,.string code[l].name] 97)) w1->dh w1 (w.heap.size+1) 97 #[.int .i64 code[l].op,.int .i64 code[l].val,.string code[l].name]):=fun w1 h=>hBI.below h (by omega)
 have HIH:Hid (∀(m b0:Nat) (k:Int),m<l+1->Fd (ny (aj x)) code b0 m [k]->∀w1,Below (w.heap.size+2) ((w.alloc (.cells #[.string x.name,.slice b1 x.ins.length c1,.slice b2 x.outs.length c2,.slice b3 x.vars.length c3,.slice b4 n4 c4] 42)).alloc (.cells #[.int .i64 code[l].op,.int .i64 code[l].val,.string code[l].name] 97)) w1->Calls Tryz.prog 96 #[.agg #[.string x.name,.slice b1 x.ins.length c1,.slice b2 x.outs.length c2,.slice b3 x.vars.length c3,.slice b4 n4 c4],.slice (some ⟨bb,oo,none⟩) code.length cap,.int .i64 (m:Int)] w1 (Ans (.int .i64 k) w1)) :=
  fun m b0 k h1 h2 w1 h3=>ih m h1 b0 k h2 w1 ((uh zl).stays (uh o8 w1 h3)) ((uh HV).stays je (uh o8 w1 h3))
 have Kz:Hid (∀(m m1:Nat) (k:Int),m<=l->Fd (ny (aj x)) code m1 m [k]->∀w1,Below (w.heap.size+2) ((w.alloc (.cells #[.string x.name,.slice b1 x.ins.length c1,.slice b2 x.outs.length c2,.slice b3 x.vars.length c3,.slice b4 n4 c4] 42)).alloc (.cells #[.int .i64 code[l].op,.int .i64 code[l].val,.string code[l].name] 97)) w1->Calls Tryz.prog 42 #[.slice (some ⟨bb,oo,none⟩) code.length cap,.int .i64 (m:Int)] w1 fun e w'=>e=.returned (.int .i64 (m1:Int))∧w'=w1):=by
  intro m m1 k h1 h2 w1 h3
  have:=Gp code m (by omega) _ w1 ((uh HV).stays je (uh o8 w1 h3))
  rw[Vg har h2 (by omega)] at this
  exact this
 have La:Hid (∀w1,Calls Tryz.prog 72 #[.int .i64 code[l].op] w1 fun e w'=>e=.returned (.int .i64 (us.length:Int))∧w'=w1):=by
  intro w1
  have h1:=Ew code[l].op w1 (by unfold I64;omega)
  have h2:=Qr _ (har _ (List.getElem_mem hlt))
  have h3:=har _ (List.getElem_mem hlt)
  have h4:(us.length:Int)=Bo code[l].op:=by rw[pz];unfold Af;rw[h2];omega
  rw[h4]
  exact h1
 have hu3:us.length<=3:=by rw[pz];unfold Af;have:=Gh code[l].op;omega
 have Me:=hide hus
 have HUL:=hide pz
 have oh:Hid (ty=ug code[l].op us):=by
  show ty=ug code[l].op us
  rw[hty]
  unfold ny
  rw[if_pos hne]
 have e4:=Aa code[l].name hne
 have e4':=xg code[l].name hne
 have axu:Below (w.heap.size+2) ((w.alloc (.cells #[.string x.name,.slice b1 x.ins.length c1,.slice b2 x.outs.length c2,.slice b3 x.vars.length c3,.slice b4 n4 c4] 42)).alloc (.cells #[.int .i64 code[l].op,.int .i64 code[l].val,.string code[l].name] 97)) (((w.alloc (.cells #[.string x.name,.slice b1 x.ins.length c1,.slice b2 x.outs.length c2,.slice b3 x.vars.length c3,.slice b4 n4 c4] 42)).alloc (.cells #[.int .i64 code[l].op,.int .i64 code[l].val,.string code[l].name] 97)).alloc (.cells #[] 3)):=(Below.refl _ _).alloc (by rw[uh Je];exact Nat.le_refl _) _
 have HB2:=hide axu
 have Ky:Hid (iw mg (((w.alloc (.cells #[.string x.name,.slice b1 x.ins.length c1,.slice b2 x.outs.length c2,.slice b3 x.vars.length c3,.slice b4 n4 c4] 42)).alloc (.cells #[.int .i64 code[l].op,.int .i64 code[l].val,.string code[l].name] 97)).alloc (.cells #[] 3)) (w.heap.size+2) (.slice (some ⟨w.heap.size+1+1,0,none⟩) 0 0) []):=by
  have:=iw.start (E:=mg) ((w.alloc (.cells #[.string x.name,.slice b1 x.ins.length c1,.slice b2 x.outs.length c2,.slice b3 x.vars.length c3,.slice b4 n4 c4] 42)).alloc (.cells #[.int .i64 code[l].op,.int .i64 code[l].val,.string code[l].name] 97)) (w.heap.size+2) (by rw[uh Je];exact Nat.le_refl _)
  rw[uh Je] at this
  exact this
 have hoo:1<=code[l].op∧code[l].op<=24:=by omega
 have acg:=hide pz
 have h23:¬code[l].op=23:=fun h=>by
  simp only[Lc,h] at hin
  simp[nameB,yt,Ad,hne] at hin
 have h24:¬code[l].op=24:=fun h=>by
  simp only[Lc,h] at hin
  simp[nameB,yt,Ad,hne] at hin
 clear hx hc hcs hus pz hty hin hir hi0 hit hfd hv hni hA hBN hBI hsn hvl hop hne axu har ih
 generalize code[l].name=nm at *
 generalize code[l].val=vl at *
 generalize code[l].op=op at *
 go_enter Tryz.func96,Tryz.ntmps96
 go_wp2
 go_loopg [8,11,12] us.length (fun gh la kv kk wr=>∃(j m g cap2:Nat) (u1 u2:List Int),j<=us.length∧gh=us.length-j∧kk=.int .i64 j∧la=.int .i64 m∧kv=.slice (some ⟨g,0,none⟩) u2.length cap2∧us=u1++u2∧u2.length=j∧Fd (ny (aj x)) code b m u1∧m<=l ∧
  iw mg wr (w.heap.size+2) (.slice (some ⟨g,0,none⟩) u2.length cap2) u2∧Below (w.heap.size+2) ((w.alloc (.cells #[.string x.name,.slice b1 x.ins.length c1,.slice b2 x.outs.length c2,.slice b3 x.vars.length c3,.slice b4 n4 c4] 42)).alloc (.cells #[.int .i64 op,.int .i64 vl,.string nm] 97)) wr)
 case atStart=>exact⟨0,l,_,0,us,[],Nat.zero_le _,by omega,rfl,rfl,rfl,by simp,rfl,uh Me,Nat.le_refl _,uh Ky,uh HB2⟩
 case round =>
  obtain⟨j,m,g,cap2,u1,u2,hj,hgj,rfl,rfl,rfl,hsp,hu2,hfu,hml,hown,hbl⟩:=hrel
  rename World=>wN
  have Oe:=hide hgj
  have Qs:=hide hsp
  have HFU:=hide hfu
  have HOW:=hide hown
  have yj:=hide hbl
  have hNs:w.heap.size+2<=wN.heap.size:=by have:=hbl.size;rw[uh Je] at this;exact this
  have ach:u1.length+j=us.length:=by rw[hsp,List.length_append,hu2]
  have axv:u2.length<=3:=by omega
  have hbi:=uh Md wN hbl
  have r0:=hbi.cell (i:=0) (v:=.int .i64 op) rfl
  have Xx:=hide hu2
  clear hgj hsp hfu hown hbi hu2
  by_cases hjn:j<us.length
  ·obtain⟨m1,v1,v2,e1,hv2,d1,d2⟩:=(uh HFU).split 1 (by omega)
   match v2,hv2 with
   | [k0],_ =>
    have hbn:=uh Cj wN hbl
    have n0:=hbn.cell (i:=0) (v:=.string x.name) rfl
    have n1:=hbn.cell (i:=1) (v:=.slice b1 x.ins.length c1) rfl
    have n2:=hbn.cell (i:=2) (v:=.slice b2 x.outs.length c2) rfl
    have n3:=hbn.cell (i:=3) (v:=.slice b3 x.vars.length c3) rfl
    have n4':=hbn.cell (i:=4) (v:=.slice b4 n4 c4) rfl
    have Ak:=hide (uh HIH m m1 k0 (by omega) d2 wN hbl)
    have HC2:=hide (uh Kz m m1 k0 hml d2)
    have HD1:=hide d1
    have hm1:=d2.le
    have Na:Hid (us=v1++(k0::u2)):=by
     show us=v1++(k0::u2)
     rw[uh Qs,e1,List.append_assoc]
     rfl
    clear e1 d1 d2 hbn hbl
    go_wp2_with fail
    refine(uh La _).mono ?_
    rintro e w9 ⟨rfl,h9⟩
    obtain rfl:=h9.symm
    go_wp2_with fail
    refine(uh Ak).mono ?_
    rintro e w3 ⟨rfl,hb3⟩
    have HB3:Hid (Below (w.heap.size+2) ((w.alloc (.cells #[.string x.name,.slice b1 x.ins.length c1,.slice b2 x.outs.length c2,.slice b3 x.vars.length c3,.slice b4 n4 c4] 42)).alloc (.cells #[.int .i64 op,.int .i64 vl,.string nm] 97)) w3):=(uh yj).trans (hb3.mono hNs)
    have h3s:wN.heap.size<=w3.heap.size:=hb3.size
    have hal:Below w3.heap.size w3 (w3.alloc (.cells #[.int .i64 k0] 3)):=(Below.refl _ _).alloc (Nat.le_refl _) _
    have HB4:Hid (Below (w.heap.size+2) ((w.alloc (.cells #[.string x.name,.slice b1 x.ins.length c1,.slice b2 x.outs.length c2,.slice b3 x.vars.length c3,.slice b4 n4 c4] 42)).alloc (.cells #[.int .i64 op,.int .i64 vl,.string nm] 97)) (w3.alloc (.cells #[.int .i64 k0] 3))):=(uh HB3).trans (hal.mono (by omega))
    have HSL:=hide ((((uh HOW).below hb3).below hal).flat (by simp[mg];omega))
    have HO3:Hid (iw mg (w3.alloc (.cells #[.int .i64 k0] 3)) (w.heap.size+2) (.slice (some ⟨w3.heap.size,0,none⟩) 1 1) [k0]):=iw.one w3 (w.heap.size+2) (by omega) k0
    clear hb3 hal Ak
    go_wp2_with (at_builtin;go_must (refine Hr mg (ahd mg) _ rfl _ _ rfl (w.heap.size+2) w3.heap.size 1 [k0] rfl (uh HO3) _ rfl u2 (uh HSL) (by simp[mg];omega) (by simp;omega) ?_))
    intro g5 cap5 w5 hown5 hgr5
    have hlk:1+u2.length=(k0::u2).length:=by simp[Nat.add_comm]
    rw[hlk] at hown5 ⊢
    clear hlk
    have hb5:=(uh HO3).grown (uh HB4) hgr5 (by simp;omega) (Nat.le_refl _)
    have Qu:=hide hb5
    have P7:=hide hown5
    have Ot:=hide (uh HC2 w5 hb5)
    clear hown5 hgr5 hb5 HC2
    go_wp2_with fail
    refine(uh Ot).mono ?_
    rintro e w6 ⟨rfl,h9⟩
    obtain rfl:=h9.symm
    go_wp2
    go_roundg (us.length-(j+1))
    case measure=>have:=uh Oe;omega
    case rel=>exact⟨j+1,m1,g5,cap5,v1,k0::u2,by omega,rfl,by go_num,rfl,rfl,uh Na,by rw[List.length_cons,uh Xx],uh HD1,by omega,uh P7,uh Qu⟩
  ·have e0:u1=[]:=List.eq_nil_of_length_eq_zero (by omega)
   subst e0
   have eus:us=u2:=uh Qs
   have Z9:j=us.length:=by omega
   subst Z9
   subst eus
   have hcap:=(uh HOW).shape
   have gq:=hide (uh o8 wN hbl)
   have Hf:Hid (∀i (hi:i<us.length),wN.cell? ⟨g,i,none⟩=some (.int .i64 us[i])):=fun i hi=>(uh HOW).Yp i hi
   clear Qs HFU hbl Oe hcap Xx ach
   go_wp2_with fail
   refine(uh La _).mono ?_
   rintro e w9 ⟨rfl,h9⟩
   obtain rfl:=h9.symm
   go_wp2
   go_loopg [73] us.length (fun gh i wr=>∃(k:Nat),k<=us.length∧gh=us.length-k∧i=.int .i64 k∧wr=wN∧∀i (hi:i<us.length),i<k->us[i]≠0)
   case atStart=>exact⟨0,Nat.zero_le _,by omega,rfl,rfl,fun i _ h=>absurd h (Nat.not_lt_zero _)⟩
   case round =>
    obtain⟨k,hk,hg,rfl,hwr,hall⟩:=hrel
    obtain rfl:=hwr.symm
    have HG:=hide hg
    have uy:=hide hall
    clear hg hall
    by_cases hltk:k<us.length
    ·have ck:=uh Hf k hltk
     by_cases hkz:us[k]=0
     ·have HR:Hid (ty=0):=by
       show ty=0
       rw[uh oh]
       exact Wu k hltk hkz
      rw[hkz] at ck
      clear hkz
      go_wp2
      go_ret
      exact⟨by rw[uh HR];rfl,uh gq⟩
     ·have Aq:Hid (∀i (hi:i<us.length),i<k+1->us[i]≠0):=fun i hi hik=>by
       by_cases e:i=k
       ·subst e;exact hkz
       ·exact uh uy i hi (by omega)
      have hbz:(us[k] == 0)=false:=by simpa using hkz
      generalize us[k]=kk at *
      go_wp2
      go_roundg (us.length-(k+1))
      case measure=>have:=uh HG;omega
      case rel=>exact⟨k+1,by omega,rfl,by go_num,rfl,uh Aq⟩
    ·have e:k=us.length:=by omega
     have Qv:=hide (amq (fun i hi=>uh uy i hi (by omega)))
     subst e
     clear uy HG
     by_cases h1:op=1
     ·subst h1
      have HR:Hid (ty=1):=by
       show ty=1
       rw[uh oh]
       unfold ug
       rw[if_neg (by rw[uh Qv];decide)]
       simp
      go_wp2
      go_ret
      exact⟨by rw[uh HR];rfl,uh gq⟩
     by_cases h2:op=2
     ·subst h2
      have HR:Hid (ty=2):=by
       show ty=2
       rw[uh oh]
       unfold ug
       rw[if_neg (by rw[uh Qv];decide)]
       simp
      go_wp2
      go_ret
      exact⟨by rw[uh HR];rfl,uh gq⟩
     by_cases h4:op=4
     ·subst h4
      have oh:=hide ((uh oh).trans (show ug 4 us=Ac 1 1 us by unfold ug;rw[if_neg (by rw[uh Qv];decide)];simp))
      have E5:=Hf
      go_wp2
      go_loopg [161] us.length (fun gh i wr=>∃(k:Nat),k<=us.length∧gh=us.length-k∧i=.int .i64 k∧wr=wN∧∀i (hi:i<us.length),i<k->us[i]=1)
      case atStart=>exact⟨0,Nat.zero_le _,by omega,rfl,rfl,fun i _ h=>absurd h (Nat.not_lt_zero _)⟩
      case round =>
       obtain⟨k,hk,hg,rfl,hwr,hall⟩:=hrel
       obtain rfl:=hwr.symm
       have HG:=hide hg
       have uy:=hide hall
       clear hg hall
       by_cases hltk:k<us.length
       ·have ck:=uh E5 k hltk
        by_cases hkw:us[k]=1
        ·have Aq:Hid (∀i (hi:i<us.length),i<k+1->us[i]=1):=fun i hi hik=>by
          by_cases e:i=k
          ·subst e;exact hkw
          ·exact uh uy i hi (by omega)
         rw[hkw] at ck
         clear hkw
         go_wp2
         go_roundg (us.length-(k+1))
         case measure=>have:=uh HG;omega
         case rel=>exact⟨k+1,by omega,rfl,by go_num,rfl,uh Aq⟩
        ·have HR:Hid (ty=0):=by
          show ty=0
          rw[uh oh]
          exact F7 k hltk hkw
         have hbk:(us[k] != 1)=true:=by simpa using hkw
         generalize us[k]=kk at *
         go_wp2
         go_ret
         exact⟨by rw[uh HR];rfl,uh gq⟩
       ·have e:k=us.length:=by omega
        subst e
        have HR:Hid (ty=1):=by
         show ty=1
         rw[uh oh]
         exact Ea (fun i hi=>uh uy i hi hi)
        go_wp2
        go_ret
        exact⟨by rw[uh HR];rfl,uh gq⟩
     by_cases a0t:6<=op∧op<=10
     ·have oh:=hide ((uh oh).trans (show ug op us=Ac 1 1 us by unfold ug;rw[if_neg (by rw[uh Qv];decide)];simp[a0t,show ¬op=1 by omega,show ¬op=2 by omega,show ¬op=4 by omega,show ¬op=5 by omega,show ¬op=21 by omega,show ¬op=22 by omega]))
      have E5:=Hf
      have y1:(op == 1)=false:=by simp;omega
      have y2:(op == 2)=false:=by simp;omega
      have y4:(op == 4)=false:=by simp;omega
      have y5:(op == 5)=false:=by simp;omega
      have y21:(op == 21)=false:=by simp;omega
      have y22:(op == 22)=false:=by simp;omega
      have z6:decide (6<=op)=true:=by simp;omega
      have z10:decide (op<=10)=true:=by simp;omega
      have z17:decide (17<=op)=false:=by simp;omega
      have z19:decide (op<=19)=true:=by simp;omega
      have z13:decide (13<=op)=false:=by simp;omega
      have z16:decide (op<=16)=true:=by simp;omega
      go_wp2
      go_loopg [161] us.length (fun gh i wr=>∃(k:Nat),k<=us.length∧gh=us.length-k∧i=.int .i64 k∧wr=wN∧∀i (hi:i<us.length),i<k->us[i]=1)
      case atStart=>exact⟨0,Nat.zero_le _,by omega,rfl,rfl,fun i _ h=>absurd h (Nat.not_lt_zero _)⟩
      case round =>
       obtain⟨k,hk,hg,rfl,hwr,hall⟩:=hrel
       obtain rfl:=hwr.symm
       have HG:=hide hg
       have uy:=hide hall
       clear hg hall
       by_cases hltk:k<us.length
       ·have ck:=uh E5 k hltk
        by_cases hkw:us[k]=1
        ·have Aq:Hid (∀i (hi:i<us.length),i<k+1->us[i]=1):=fun i hi hik=>by
          by_cases e:i=k
          ·subst e;exact hkw
          ·exact uh uy i hi (by omega)
         rw[hkw] at ck
         clear hkw
         go_wp2
         go_roundg (us.length-(k+1))
         case measure=>have:=uh HG;omega
         case rel=>exact⟨k+1,by omega,rfl,by go_num,rfl,uh Aq⟩
        ·have HR:Hid (ty=0):=by
          show ty=0
          rw[uh oh]
          exact F7 k hltk hkw
         have hbk:(us[k] != 1)=true:=by simpa using hkw
         generalize us[k]=kk at *
         go_wp2
         go_ret
         exact⟨by rw[uh HR];rfl,uh gq⟩
       ·have e:k=us.length:=by omega
        subst e
        have HR:Hid (ty=1):=by
         show ty=1
         rw[uh oh]
         exact Ea (fun i hi=>uh uy i hi hi)
        go_wp2
        go_ret
        exact⟨by rw[uh HR];rfl,uh gq⟩
     by_cases h21:op=21
     ·subst h21
      have oh:=hide ((uh oh).trans (show ug 21 us=Ac 1 1 us by unfold ug;rw[if_neg (by rw[uh Qv];decide)];simp))
      have E5:=Hf
      go_wp2
      go_loopg [161] us.length (fun gh i wr=>∃(k:Nat),k<=us.length∧gh=us.length-k∧i=.int .i64 k∧wr=wN∧∀i (hi:i<us.length),i<k->us[i]=1)
      case atStart=>exact⟨0,Nat.zero_le _,by omega,rfl,rfl,fun i _ h=>absurd h (Nat.not_lt_zero _)⟩
      case round =>
       obtain⟨k,hk,hg,rfl,hwr,hall⟩:=hrel
       obtain rfl:=hwr.symm
       have HG:=hide hg
       have uy:=hide hall
       clear hg hall
       by_cases hltk:k<us.length
       ·have ck:=uh E5 k hltk
        by_cases hkw:us[k]=1
        ·have Aq:Hid (∀i (hi:i<us.length),i<k+1->us[i]=1):=fun i hi hik=>by
          by_cases e:i=k
          ·subst e;exact hkw
          ·exact uh uy i hi (by omega)
         rw[hkw] at ck
         clear hkw
         go_wp2
         go_roundg (us.length-(k+1))
         case measure=>have:=uh HG;omega
         case rel=>exact⟨k+1,by omega,rfl,by go_num,rfl,uh Aq⟩
        ·have HR:Hid (ty=0):=by
          show ty=0
          rw[uh oh]
          exact F7 k hltk hkw
         have hbk:(us[k] != 1)=true:=by simpa using hkw
         generalize us[k]=kk at *
         go_wp2
         go_ret
         exact⟨by rw[uh HR];rfl,uh gq⟩
       ·have e:k=us.length:=by omega
        subst e
        have HR:Hid (ty=1):=by
         show ty=1
         rw[uh oh]
         exact Ea (fun i hi=>uh uy i hi hi)
        go_wp2
        go_ret
        exact⟨by rw[uh HR];rfl,uh gq⟩
     by_cases h5:op=5
     ·subst h5
      have oh:=hide ((uh oh).trans (show ug 5 us=Ac 2 2 us by unfold ug;rw[if_neg (by rw[uh Qv];decide)];simp))
      have E5:=Hf
      go_wp2
      go_loopg [161] us.length (fun gh i wr=>∃(k:Nat),k<=us.length∧gh=us.length-k∧i=.int .i64 k∧wr=wN∧∀i (hi:i<us.length),i<k->us[i]=2)
      case atStart=>exact⟨0,Nat.zero_le _,by omega,rfl,rfl,fun i _ h=>absurd h (Nat.not_lt_zero _)⟩
      case round =>
       obtain⟨k,hk,hg,rfl,hwr,hall⟩:=hrel
       obtain rfl:=hwr.symm
       have HG:=hide hg
       have uy:=hide hall
       clear hg hall
       by_cases hltk:k<us.length
       ·have ck:=uh E5 k hltk
        by_cases hkw:us[k]=2
        ·have Aq:Hid (∀i (hi:i<us.length),i<k+1->us[i]=2):=fun i hi hik=>by
          by_cases e:i=k
          ·subst e;exact hkw
          ·exact uh uy i hi (by omega)
         rw[hkw] at ck
         clear hkw
         go_wp2
         go_roundg (us.length-(k+1))
         case measure=>have:=uh HG;omega
         case rel=>exact⟨k+1,by omega,rfl,by go_num,rfl,uh Aq⟩
        ·have HR:Hid (ty=0):=by
          show ty=0
          rw[uh oh]
          exact F7 k hltk hkw
         have hbk:(us[k] != 2)=true:=by simpa using hkw
         generalize us[k]=kk at *
         go_wp2
         go_ret
         exact⟨by rw[uh HR];rfl,uh gq⟩
       ·have e:k=us.length:=by omega
        subst e
        have HR:Hid (ty=2):=by
         show ty=2
         rw[uh oh]
         exact Ea (fun i hi=>uh uy i hi hi)
        go_wp2
        go_ret
        exact⟨by rw[uh HR];rfl,uh gq⟩
     by_cases axw:17<=op∧op<=19
     ·have oh:=hide ((uh oh).trans (show ug op us=Ac 2 2 us by unfold ug;rw[if_neg (by rw[uh Qv];decide)];simp[axw,show ¬op=1 by omega,show ¬op=2 by omega,show ¬op=4 by omega,show ¬op=5 by omega,show ¬op=21 by omega,show ¬op=22 by omega,show ¬(6<=op∧op<=10) by omega]))
      have E5:=Hf
      have y1:(op == 1)=false:=by simp;omega
      have y2:(op == 2)=false:=by simp;omega
      have y4:(op == 4)=false:=by simp;omega
      have y5:(op == 5)=false:=by simp;omega
      have y21:(op == 21)=false:=by simp;omega
      have y22:(op == 22)=false:=by simp;omega
      have z6:decide (6<=op)=true:=by simp;omega
      have z10:decide (op<=10)=false:=by simp;omega
      have z17:decide (17<=op)=true:=by simp;omega
      have z19:decide (op<=19)=true:=by simp;omega
      have z13:decide (13<=op)=true:=by simp;omega
      have z16:decide (op<=16)=false:=by simp;omega
      go_wp2
      go_loopg [161] us.length (fun gh i wr=>∃(k:Nat),k<=us.length∧gh=us.length-k∧i=.int .i64 k∧wr=wN∧∀i (hi:i<us.length),i<k->us[i]=2)
      case atStart=>exact⟨0,Nat.zero_le _,by omega,rfl,rfl,fun i _ h=>absurd h (Nat.not_lt_zero _)⟩
      case round =>
       obtain⟨k,hk,hg,rfl,hwr,hall⟩:=hrel
       obtain rfl:=hwr.symm
       have HG:=hide hg
       have uy:=hide hall
       clear hg hall
       by_cases hltk:k<us.length
       ·have ck:=uh E5 k hltk
        by_cases hkw:us[k]=2
        ·have Aq:Hid (∀i (hi:i<us.length),i<k+1->us[i]=2):=fun i hi hik=>by
          by_cases e:i=k
          ·subst e;exact hkw
          ·exact uh uy i hi (by omega)
         rw[hkw] at ck
         clear hkw
         go_wp2
         go_roundg (us.length-(k+1))
         case measure=>have:=uh HG;omega
         case rel=>exact⟨k+1,by omega,rfl,by go_num,rfl,uh Aq⟩
        ·have HR:Hid (ty=0):=by
          show ty=0
          rw[uh oh]
          exact F7 k hltk hkw
         have hbk:(us[k] != 2)=true:=by simpa using hkw
         generalize us[k]=kk at *
         go_wp2
         go_ret
         exact⟨by rw[uh HR];rfl,uh gq⟩
       ·have e:k=us.length:=by omega
        subst e
        have HR:Hid (ty=2):=by
         show ty=2
         rw[uh oh]
         exact Ea (fun i hi=>uh uy i hi hi)
        go_wp2
        go_ret
        exact⟨by rw[uh HR];rfl,uh gq⟩
     by_cases h22:op=22
     ·subst h22
      have oh:=hide ((uh oh).trans (show ug 22 us=Ac 2 2 us by unfold ug;rw[if_neg (by rw[uh Qv];decide)];simp))
      have E5:=Hf
      go_wp2
      go_loopg [161] us.length (fun gh i wr=>∃(k:Nat),k<=us.length∧gh=us.length-k∧i=.int .i64 k∧wr=wN∧∀i (hi:i<us.length),i<k->us[i]=2)
      case atStart=>exact⟨0,Nat.zero_le _,by omega,rfl,rfl,fun i _ h=>absurd h (Nat.not_lt_zero _)⟩
      case round =>
       obtain⟨k,hk,hg,rfl,hwr,hall⟩:=hrel
       obtain rfl:=hwr.symm
       have HG:=hide hg
       have uy:=hide hall
       clear hg hall
       by_cases hltk:k<us.length
       ·have ck:=uh E5 k hltk
        by_cases hkw:us[k]=2
        ·have Aq:Hid (∀i (hi:i<us.length),i<k+1->us[i]=2):=fun i hi hik=>by
          by_cases e:i=k
          ·subst e;exact hkw
          ·exact uh uy i hi (by omega)
         rw[hkw] at ck
         clear hkw
         go_wp2
         go_roundg (us.length-(k+1))
         case measure=>have:=uh HG;omega
         case rel=>exact⟨k+1,by omega,rfl,by go_num,rfl,uh Aq⟩
        ·have HR:Hid (ty=0):=by
          show ty=0
          rw[uh oh]
          exact F7 k hltk hkw
         have hbk:(us[k] != 2)=true:=by simpa using hkw
         generalize us[k]=kk at *
         go_wp2
         go_ret
         exact⟨by rw[uh HR];rfl,uh gq⟩
       ·have e:k=us.length:=by omega
        subst e
        have HR:Hid (ty=2):=by
         show ty=2
         rw[uh oh]
         exact Ea (fun i hi=>uh uy i hi hi)
        go_wp2
        go_ret
        exact⟨by rw[uh HR];rfl,uh gq⟩
     by_cases axx:13<=op∧op<=16
     ·have oh:=hide ((uh oh).trans (show ug op us=Ac 1 2 us by unfold ug;rw[if_neg (by rw[uh Qv];decide)];simp[axx,show ¬op=1 by omega,show ¬op=2 by omega,show ¬op=4 by omega,show ¬op=5 by omega,show ¬op=21 by omega,show ¬op=22 by omega,show ¬(6<=op∧op<=10) by omega,show ¬(17<=op∧op<=19) by omega]))
      have E5:=Hf
      have y1:(op == 1)=false:=by simp;omega
      have y2:(op == 2)=false:=by simp;omega
      have y4:(op == 4)=false:=by simp;omega
      have y5:(op == 5)=false:=by simp;omega
      have y21:(op == 21)=false:=by simp;omega
      have y22:(op == 22)=false:=by simp;omega
      have z6:decide (6<=op)=true:=by simp;omega
      have z10:decide (op<=10)=false:=by simp;omega
      have z17:decide (17<=op)=false:=by simp;omega
      have z19:decide (op<=19)=true:=by simp;omega
      have z13:decide (13<=op)=true:=by simp;omega
      have z16:decide (op<=16)=true:=by simp;omega
      go_wp2
      go_loopg [161] us.length (fun gh i wr=>∃(k:Nat),k<=us.length∧gh=us.length-k∧i=.int .i64 k∧wr=wN∧∀i (hi:i<us.length),i<k->us[i]=1)
      case atStart=>exact⟨0,Nat.zero_le _,by omega,rfl,rfl,fun i _ h=>absurd h (Nat.not_lt_zero _)⟩
      case round =>
       obtain⟨k,hk,hg,rfl,hwr,hall⟩:=hrel
       obtain rfl:=hwr.symm
       have HG:=hide hg
       have uy:=hide hall
       clear hg hall
       by_cases hltk:k<us.length
       ·have ck:=uh E5 k hltk
        by_cases hkw:us[k]=1
        ·have Aq:Hid (∀i (hi:i<us.length),i<k+1->us[i]=1):=fun i hi hik=>by
          by_cases e:i=k
          ·subst e;exact hkw
          ·exact uh uy i hi (by omega)
         rw[hkw] at ck
         clear hkw
         go_wp2
         go_roundg (us.length-(k+1))
         case measure=>have:=uh HG;omega
         case rel=>exact⟨k+1,by omega,rfl,by go_num,rfl,uh Aq⟩
        ·have HR:Hid (ty=0):=by
          show ty=0
          rw[uh oh]
          exact F7 k hltk hkw
         have hbk:(us[k] != 1)=true:=by simpa using hkw
         generalize us[k]=kk at *
         go_wp2
         go_ret
         exact⟨by rw[uh HR];rfl,uh gq⟩
       ·have e:k=us.length:=by omega
        subst e
        have HR:Hid (ty=2):=by
         show ty=2
         rw[uh oh]
         exact Ea (fun i hi=>uh uy i hi hi)
        go_wp2
        go_ret
        exact⟨by rw[uh HR];rfl,uh gq⟩
     by_cases h11:op=11
     ·subst h11
      have hl2:us.length=2:=by rw[uh acg];decide
      have hpos:0<us.length:=by omega
      have hh:us.headD 0=us[0]:=by
       cases us with
       | nil=>simp at hpos
       | cons k ks=>rfl
      have oh:=hide ((uh oh).trans (show ug 11 us=Ac us[0] 2 us by unfold ug;rw[if_neg (by rw[uh Qv];decide),hh];simp))
      have E5:=Hf
      have ck0:=uh Hf 0 hpos
      generalize us[0]=k0 at *
      clear hl2 hh
      go_wp2
      go_loopg [161] us.length (fun gh i wr=>∃(k:Nat),k<=us.length∧gh=us.length-k∧i=.int .i64 k∧wr=wN∧∀i (hi:i<us.length),i<k->us[i]=k0)
      case atStart=>exact⟨0,Nat.zero_le _,by omega,rfl,rfl,fun i _ h=>absurd h (Nat.not_lt_zero _)⟩
      case round =>
       obtain⟨k,hk,hg,rfl,hwr,hall⟩:=hrel
       obtain rfl:=hwr.symm
       have HG:=hide hg
       have uy:=hide hall
       clear hg hall
       by_cases hltk:k<us.length
       ·have ck:=uh E5 k hltk
        by_cases hkw:us[k]=k0
        ·have Aq:Hid (∀i (hi:i<us.length),i<k+1->us[i]=k0):=fun i hi hik=>by
          by_cases e:i=k
          ·subst e;exact hkw
          ·exact uh uy i hi (by omega)
         rw[hkw] at ck
         clear hkw
         go_wp2
         go_roundg (us.length-(k+1))
         case measure=>have:=uh HG;omega
         case rel=>exact⟨k+1,by omega,rfl,by go_num,rfl,uh Aq⟩
        ·have HR:Hid (ty=0):=by
          show ty=0
          rw[uh oh]
          exact F7 k hltk hkw
         have hbk:(us[k] != k0)=true:=by simpa using hkw
         generalize us[k]=kk at *
         go_wp2
         go_ret
         exact⟨by rw[uh HR];rfl,uh gq⟩
       ·have e:k=us.length:=by omega
        subst e
        have HR:Hid (ty=2):=by
         show ty=2
         rw[uh oh]
         exact Ea (fun i hi=>uh uy i hi hi)
        go_wp2
        go_ret
        exact⟨by rw[uh HR];rfl,uh gq⟩
     by_cases h12:op=12
     ·subst h12
      have hl2:us.length=2:=by rw[uh acg];decide
      have hpos:0<us.length:=by omega
      have hh:us.headD 0=us[0]:=by
       cases us with
       | nil=>simp at hpos
       | cons k ks=>rfl
      have oh:=hide ((uh oh).trans (show ug 12 us=Ac us[0] 2 us by unfold ug;rw[if_neg (by rw[uh Qv];decide),hh];simp))
      have E5:=Hf
      have ck0:=uh Hf 0 hpos
      generalize us[0]=k0 at *
      clear hl2 hh
      go_wp2
      go_loopg [161] us.length (fun gh i wr=>∃(k:Nat),k<=us.length∧gh=us.length-k∧i=.int .i64 k∧wr=wN∧∀i (hi:i<us.length),i<k->us[i]=k0)
      case atStart=>exact⟨0,Nat.zero_le _,by omega,rfl,rfl,fun i _ h=>absurd h (Nat.not_lt_zero _)⟩
      case round =>
       obtain⟨k,hk,hg,rfl,hwr,hall⟩:=hrel
       obtain rfl:=hwr.symm
       have HG:=hide hg
       have uy:=hide hall
       clear hg hall
       by_cases hltk:k<us.length
       ·have ck:=uh E5 k hltk
        by_cases hkw:us[k]=k0
        ·have Aq:Hid (∀i (hi:i<us.length),i<k+1->us[i]=k0):=fun i hi hik=>by
          by_cases e:i=k
          ·subst e;exact hkw
          ·exact uh uy i hi (by omega)
         rw[hkw] at ck
         clear hkw
         go_wp2
         go_roundg (us.length-(k+1))
         case measure=>have:=uh HG;omega
         case rel=>exact⟨k+1,by omega,rfl,by go_num,rfl,uh Aq⟩
        ·have HR:Hid (ty=0):=by
          show ty=0
          rw[uh oh]
          exact F7 k hltk hkw
         have hbk:(us[k] != k0)=true:=by simpa using hkw
         generalize us[k]=kk at *
         go_wp2
         go_ret
         exact⟨by rw[uh HR];rfl,uh gq⟩
       ·have e:k=us.length:=by omega
        subst e
        have HR:Hid (ty=2):=by
         show ty=2
         rw[uh oh]
         exact Ea (fun i hi=>uh uy i hi hi)
        go_wp2
        go_ret
        exact⟨by rw[uh HR];rfl,uh gq⟩
     have h20:op=20:=by omega
     subst h20
     have hl2:us.length=3:=by rw[uh acg];decide
     have hcp:us.length<=cap2:=by
      rcases (uh HOW).shape with ⟨hh,_⟩|⟨g1,cap1,hv,_,_,h2⟩
      ·cases hh
      ·simp only[Value.slice.injEq] at hv
       obtain⟨_,_,rfl⟩:=hv
       exact h2
     match us,hl2 with
     | k0::ts,hl2 =>
      have htl:ts.length=2:=by simpa using hl2
      have ck0:wN.cell? ⟨g,0,none⟩=some (.int .i64 k0):=uh Hf 0 (by simp)
      have hts:ts.head?.getD 0=ts[0]'(by omega):=by
       cases ts with
       | nil=>simp at htl
       | cons k ks=>rfl
      have oh:=hide ((uh oh).trans (show ug 20 (k0::ts)=if k0=2 then Ac (ts[0]'(by omega)) (ts[0]'(by omega)) ts else 0 by unfold ug;rw[if_neg (by rw[uh Qv];decide)];simp[hts]))
      have E5:Hid (∀i (hi:i<ts.length),wN.cell? ⟨g,1+i,none⟩=some (.int .i64 ts[i])):=fun i hi=>by
       have:=uh Hf (i+1) (by simpa using hi)
       rw[Nat.add_comm 1 i]
       simpa using this
      have ck1:=uh E5 0 (by omega)
      rw[Nat.add_zero] at ck1
      by_cases hk2:k0=2
      ·subst hk2
       rw[if_pos rfl] at oh
       have hpos:0<ts.length:=by omega
       have htb:ts.length<=2:=by omega
       simp only[List.length_cons] at hcp
       generalize ts[0]=k1 at *
       clear hl2 hts htl
       go_wp2
       go_loopg [161] ts.length (fun gh i wr=>∃(k:Nat),k<=ts.length∧gh=ts.length-k∧i=.int .i64 k∧wr=wN∧∀i (hi:i<ts.length),i<k->ts[i]=k1)
       case atStart=>exact⟨0,Nat.zero_le _,by omega,rfl,rfl,fun i _ h=>absurd h (Nat.not_lt_zero _)⟩
       case round =>
        obtain⟨k,hk,hg,rfl,hwr,hall⟩:=hrel
        obtain rfl:=hwr.symm
        have HG:=hide hg
        have uy:=hide hall
        clear hg hall
        by_cases hltk:k<ts.length
        ·have ck:=uh E5 k hltk
         by_cases hkw:ts[k]=k1
         ·have Aq:Hid (∀i (hi:i<ts.length),i<k+1->ts[i]=k1):=fun i hi hik=>by
           by_cases e:i=k
           ·subst e;exact hkw
           ·exact uh uy i hi (by omega)
          rw[hkw] at ck
          clear hkw
          go_wp2
          go_roundg (ts.length-(k+1))
          case measure=>have:=uh HG;omega
          case rel=>exact⟨k+1,by omega,rfl,by go_num,rfl,uh Aq⟩
         ·have HR:Hid (ty=0):=by
           show ty=0
           rw[uh oh]
           exact F7 k hltk hkw
          have hbk:(ts[k] != k1)=true:=by simpa using hkw
          generalize ts[k]=kk at *
          go_wp2
          go_ret
          exact⟨by rw[uh HR];rfl,uh gq⟩
        ·have e:k=ts.length:=by omega
         subst e
         have HR:Hid (ty=k1):=by
          show ty=k1
          rw[uh oh]
          exact Ea (fun i hi=>uh uy i hi hi)
         go_wp2
         go_ret
         exact⟨by rw[uh HR];rfl,uh gq⟩
      ·rw[if_neg hk2] at oh
       have hb2:(k0 != 2)=true:=by simpa using hk2
       go_wp2
       go_ret
       exact⟨by rw[uh oh];rfl,uh gq⟩
end Go.Proofs.YtflcnhfakcgkeaaGreat
