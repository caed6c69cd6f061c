import Derived.Test.YtflcnhfakcgkeaaGreatWI3
namespace Go.Proofs.YtflcnhfakcgkeaaGreat
open Go.RowKit
set_option linter.unusedSimpArgs false
set_option linter.unusedVariables false
def aph (w0:World):Nat->World->List Value->gy->Prop:=fun _ _ cs x=>RVar 0 w0 cs x
theorem apj {w w0:World} {base g n cap:Nat} {e:TypeId} {cells:List Value} (h:w.ownsRow base e 3 (.slice (some ⟨g,0,none⟩) n cap) n cells) {ys:List gy} (hcs:Cs w0 cells ys) (hn:ys.length=n) (hb:n*48<=140737488355328) :
  bf 3 48 (aph w0) 0 w (.slice (some ⟨g,0,none⟩) n cap) ys:=by
 have hcap:n<=cap:=by
  obtain⟨_,hh⟩:=h
  rcases hh with ⟨hh,_⟩|⟨g1,cap1,cur,hv,_,_,h2,_⟩
  ·cases hh
  ·simp only[Value.slice.injEq] at hv
   obtain⟨_,_,rfl⟩:=hv
   exact h2
 refine⟨_,cap,by rw[hn],⟨by unfold Len;omega,by omega⟩,by unfold Len;omega,fun i hi=>?_⟩
 obtain⟨q,hq,hc,hR⟩:=hcs.get i hi
 refine⟨g,0,q,rfl,Nat.zero_le _,(h.lt g rfl).2,hq,fun j hj=>?_,hR⟩
 have:=h.cells (g:=g) rfl (i*3+j) _ (hc j hj)
 rw[Addr.add_lit] at this
 rw[←this]
 rw[show 0+i*3+j=0+(i*3+j) from by omega]
set_option maxHeartbeats 1000000 in
theorem af6 (x:ay) (a1 a2 a3 a4:Value) (w0 w:World) (hw0:Below w0.heap.size w0 w) (h1:bf 3 48 RVar 0 w0 a1 x.ins) (h2:bf 3 48 RVar 0 w0 a2 x.outs) (h3:bf 3 48 RVar 0 w0 a3 x.vars) (hsum:x.ins.length+x.outs.length+x.vars.length<=1048576) :
  Calls Tryz.prog 62 #[.agg #[.string x.name,a1,a2,a3,a4]] w fun e w'=>∃v,e=.returned v∧bf 3 48 (aph w0) 0 w' v (x.ins++x.outs++x.vars)∧Below w.heap.size w w':=by
 obtain⟨s,ins,outs,vars,eqs⟩:=x
 simp only at *
 have H1:=hide h1
 have H2:=hide h2
 have H3:=hide h3
 clear h1 h2 h3
 have P0:Below (w.heap.size+1) (w.alloc (.cells #[.string s,a1,a2,a3,a4] 42)) ((w.alloc (.cells #[.string s,a1,a2,a3,a4] 42)).alloc (.cells #[] 68)):=(Below.refl _ _).alloc (by simp) _
 have P0':Below w.heap.size w (w.alloc (.cells #[.string s,a1,a2,a3,a4] 42)):=(Below.refl _ _).alloc (Nat.le_refl _) _
 have Q0:Below w.heap.size w ((w.alloc (.cells #[.string s,a1,a2,a3,a4] 42)).alloc (.cells #[] 68)):=P0'.trans (P0.mono (Nat.le_succ _))
 have O0:((w.alloc (.cells #[.string s,a1,a2,a3,a4] 42)).alloc (.cells #[] 68)).ownsRow (w.heap.size+1) 68 3 (.slice (some ⟨w.heap.size+1,0,none⟩) 0 0) 0 []:=by
  have:=own_start (w.alloc (.cells #[.string s,a1,a2,a3,a4] 42)) (w.heap.size+1) (by simp) 68
  simpa using this
 have HW0:=hide hw0
 have Oq:=hide P0
 have HQ0:=hide Q0
 have ace:=hide P0'
 have HO0:=hide O0
 clear P0 Q0 P0' O0 hw0
 go_enter Tryz.func62,Tryz.ntmps62
 go_wp2_with (at_builtin;go_must (refine Dq _ w0 ((uh HW0).trans ((uh HQ0).mono (uh HW0).size)) rfl _ _ rfl (w.heap.size+1) (w.heap.size+1) 0 0 [] rfl (uh HO0) _ rfl ins (uh H1) (by omega) (by simp) ?_))
 intro g1 cap1 w1 a0q hown1 Xh hcs1
 have hsz1:=Xh.size
 simp only[World.size_alloc] at hsz1
 have B1:=Jl (uh Oq) Xh (by simp) (Nat.le_refl _)
 have Q1:Below w.heap.size w w1:=(uh ace).trans (B1.mono (Nat.le_succ _))
 have HB1:=hide B1
 have HQ1:=hide Q1
 have HO1:=hide hown1
 have Ak:=hide hcs1
 have k2:=ou (B:=0) B1 2
 have k3:=ou (B:=0) B1 3
 simp at k2 k3
 clear hown1 Xh hcs1 B1 Q1
 go_wp2_with (at_builtin;go_must (refine Dq _ w0 ((uh HW0).trans ((uh HQ1).mono (uh HW0).size)) rfl _ _ rfl (w.heap.size+1) g1 _ cap1 _ rfl (uh HO1) _ rfl outs (uh H2) (by omega) (by omega) ?_))
 intro g2 cap2 w2 a0r hown2 Oi hcs2
 have hsz2:=Oi.size
 have B2:=Jl (uh HB1) Oi (by omega) (own_base (uh HO1))
 have Q2:Below w.heap.size w w2:=(uh ace).trans (B2.mono (Nat.le_succ _))
 have HB2:=hide B2
 have HQ2:=hide Q2
 have Ky:=hide hown2
 have HC2:=hide hcs2
 have k3:=ou (B:=0) B2 3
 simp at k3
 clear hown2 Oi hcs2 B2 Q2 k2
 go_wp2_with (at_builtin;go_must (refine Dq _ w0 ((uh HW0).trans ((uh HQ2).mono (uh HW0).size)) rfl _ _ rfl (w.heap.size+1) g2 _ cap2 _ rfl (uh Ky) _ rfl vars (uh H3) (by omega) (by omega) ?_))
 intro g3 cap3 w3 a0s hown3 Oj hcs3
 have B3:=Jl (uh HB2) Oj (by omega) (own_base (uh Ky))
 have Q3:Below w.heap.size w w3:=(uh ace).trans (B3.mono (Nat.le_succ _))
 have D:=apj (ys:=ins++outs++vars) hown3 (by
  rw[←List.append_assoc]
  exact((uh Ak).append (uh HC2)).append hcs3) (by rw[List.length_append,List.length_append]) (by omega)
 have HD:=hide D
 have HQ3:=hide Q3
 clear D Q3 B3 hown3 Oj hcs3
 go_wp2
 go_ret
 exact⟨_,rfl,uh HD,uh HQ3⟩
def Xw (vs:List gy) (x:ByteArray) (w0 w:World) (e:Ending) (w':World):Prop :=
 ∃cl,e=.returned (.tuple #[.agg #[.string (jg vs x).name,.int .i64 (jg vs x).type,cl],.int .i64 (uq vs x)])∧bf 2 24 jm 0 w0 cl (jg vs x).clock∧Below w.heap.size w w'
set_option maxHeartbeats 2000000 in
theorem Si (x:ay) (a1 a2 a3 a4:Value) (nm:ByteArray) (w0 w:World) (hw0:Below w0.heap.size w0 w) (h1:bf 3 48 RVar 0 w0 a1 x.ins) (h2:bf 3 48 RVar 0 w0 a2 x.outs) (h3:bf 3 48 RVar 0 w0 a3 x.vars) (h4:∃a n c,a4=.slice a n c) (hsum:x.ins.length+x.outs.length+x.vars.length<=1048576) :
  Calls Tryz.prog 66 #[.agg #[.string x.name,a1,a2,a3,a4],.string nm] w (Xw (aj x) nm w0 w):=by
 have P0:Below w.heap.size w ((w.alloc (.cells #[.string x.name,a1,a2,a3,a4] 42)).alloc (.cells #[.string ⟨#[]⟩,.int .i64 0,.slice none 0 0] 68)):=((Below.refl _ _).alloc (Nat.le_refl _) _).alloc (by simp) _
 have Oq:=hide P0
 have HC:=hide (af6 x a1 a2 a3 a4 w0 _ (hw0.trans (P0.mono hw0.size)) h1 h2 h3 hsum)
 obtain⟨b1,c1,rfl⟩:=h1.shape
 obtain⟨b2,c2,rfl⟩:=h2.shape
 obtain⟨b3,c3,rfl⟩:=h3.shape
 obtain⟨b4,n4,c4,rfl⟩:=h4
 clear h1 h2 h3 P0 hsum hw0
 have EV:Hid (aj x=x.ins++x.outs++x.vars):=rfl
 rw[←uh EV] at HC
 clear EV
 generalize aj x=vs at *
 go_enter Tryz.func66,Tryz.ntmps66
 go_wp2_with fail
 refine(uh HC).mono ?_
 rintro e w1 ⟨v,rfl,hv,hb1⟩
 have HB1:Hid (Below w.heap.size w w1):=(uh Oq).trans (hb1.mono (uh Oq).size)
 have hs1:w.heap.size+2<=w1.heap.size:=by
  have:=hb1.size
  simp at this
  omega
 have Ob:Hid (dh w1 (w.heap.size+1) 68 #[.string ⟨#[]⟩,.int .i64 0,.slice none 0 0]):=by
  have h:=jd (w.alloc (.cells #[.string x.name,.slice b1 x.ins.length c1,.slice b2 x.outs.length c2,.slice b3 x.vars.length c3,.slice b4 n4 c4] 42)) #[.string ⟨#[]⟩,.int .i64 0,.slice none 0 0] 68
  have h2:=h.below hb1 (by simp)
  have e:(w.alloc (.cells #[.string x.name,.slice b1 x.ins.length c1,.slice b2 x.outs.length c2,.slice b3 x.vars.length c3,.slice b4 n4 c4] 42)).heap.size=w.heap.size+1:=by simp
  rw[e] at h2
  exact h2
 obtain⟨a,cap,rfl,_,hn,hx⟩:=hv
 unfold Len at hn
 have HX:=hide hx
 clear hx hb1 HC
 go_wp2
 go_loopg [11] vs.length (fun g i wr=>∃(k:Nat),k<=vs.length∧g=vs.length-k∧i=.int .i64 k∧Below w1.heap.size w1 wr∧∀j (hj:j<vs.length),j<k->(vs[j].name.toList == nm.toList)=false)
 case atStart=>exact⟨0,Nat.zero_le _,by omega,rfl,Below.refl _ _,fun j _ h=>absurd h (Nat.not_lt_zero _)⟩
 case round =>
  obtain⟨k,hk,hg,rfl,hbl,hno⟩:=hrel
  rename World=>wN
  have HG:=hide hg
  have jo:=hide hno
  have yj:=hide hbl
  have hNs:=hbl.size
  clear hg hno
  by_cases hlt:k<vs.length
  ·obtain⟨b,o,cs,jr,_,hb,hcs,hc0,hR⟩:=uh HX k hlt
   subst jr
   have hc:∀j (hj:j<cs.length),wN.cell? ⟨b,o+k*3+j,none⟩=some cs[j]:=fun j hj=>by rw[hbl.cell (p:=⟨b,_,none⟩) hb];exact hc0 j hj
   obtain⟨cl,rfl,hsn,hty,hcl⟩:=hR
   have q0:=hc 0 (by simp)
   have q1:=hc 1 (by simp)
   have q2:=hc 2 (by simp)
   simp only[Nat.mul_one,Nat.add_zero,List.getElem_cons_zero,List.getElem_cons_succ] at q0 q1 q2
   have Gv:=hide hcl
   obtain⟨acl,ccl,rfl⟩:=hcl.shape
   clear hc hc0 hcs hty hcl hsn
   cases he:(vs[k].name.toList == nm.toList)
   ·have Yn:Hid (∀j (hj:j<vs.length),j<k+1->(vs[j].name.toList == nm.toList)=false):=by
     intro j h h1
     by_cases e:j=k
     ·subst e;exact he
     ·exact uh jo j h (by omega)
    generalize vs[k].clock.length=n1 at *
    generalize vs[k].type=t1 at *
    generalize vs[k].name=s1 at *
    go_wp2
    go_roundg (vs.length-(k+1))
    case measure=>have:=uh HG;omega
    case rel=>exact⟨k+1,by omega,rfl,by go_num,hbl.alloc hbl.size _,uh Yn⟩
   ·have HL:=hide (ahl vs nm k hlt (uh jo) he)
    have hal:Below w1.heap.size w1 (wN.alloc (.cells #[.string vs[k].name,.int .i64 vs[k].type,.slice acl vs[k].clock.length ccl] 68)):=hbl.alloc hbl.size _
    have hbk:=(uh Ob).below hal (by omega)
    have acf:=hide hbk
    have r0:=hbk.cell (i:=0) rfl
    have r1:=hbk.cell (i:=1) rfl
    have r2:=hbk.cell (i:=2) rfl
    have f0:=hbk.free 0
    have f1:=hbk.free 1
    have f2:=hbk.free 2
    have Gg:=hide hal
    clear hbk hal
    go_wp2
    have hB:=dh.ahm (x:=.string vs[k].name) (y:=.int .i64 vs[k].type) (z:=.slice acl vs[k].clock.length ccl) (uh acf)
    have cc0:=hB.cell (i:=0) rfl
    have Zm:=hB.cell (i:=1) rfl
    have Oc:=hB.cell (i:=2) rfl
    refine bodyPost_ret (v:=.tuple #[.agg #[.string vs[k].name,.int .i64 vs[k].type,.slice acl vs[k].clock.length ccl],.int .i64 k]) (by simp[results,Tryz.results66,go_sem,cc0,Zm,Oc]) rfl ?_
    refine⟨.slice acl vs[k].clock.length ccl,by rw[(uh HL).1,(uh HL).2],?_,?_⟩
    ·rw[(uh HL).1]
     exact uh Gv
    ·exact((((uh HB1).trans ((uh Gg).mono (by omega))).setCell (by simp) _).setCell (by simp) _).setCell (by simp) _
  ·have e:k=vs.length:=by omega
   subst e
   have HL:=hide (af7 vs nm (fun j hj=>uh jo j hj hj))
   have hbk:=(uh Ob).below hbl (by omega)
   have acf:=hide hbk
   have r0:=hbk.cell (i:=0) rfl
   have r1:=hbk.cell (i:=1) rfl
   have r2:=hbk.cell (i:=2) rfl
   have f0:=hbk.free 0
   have f1:=hbk.free 1
   have f2:=hbk.free 2
   clear hbk
   go_wp2
   have hB:=dh.ahm (x:=.string ⟨#[]⟩) (y:=.int .i64 0) (z:=.slice none 0 0) (uh acf)
   have cc0:=hB.cell (i:=0) rfl
   have Zm:=hB.cell (i:=1) rfl
   have Oc:=hB.cell (i:=2) rfl
   refine bodyPost_ret (v:=.tuple #[.agg #[.string ⟨#[]⟩,.int .i64 0,.slice none 0 0],.int .i64 (-1)]) (by simp[results,Tryz.results66,go_sem,cc0,Zm,Oc]) rfl ?_
   refine⟨.slice none 0 0,by rw[(uh HL).1,(uh HL).2],?_,?_⟩
   ·rw[(uh HL).1]
    exact⟨none,0,rfl,⟨by simp[Len],Nat.le_refl _⟩,by simp[Len],fun i hi=>absurd hi (Nat.not_lt_zero _)⟩
   ·exact((((uh HB1).trans ((uh yj).mono (by omega))).setCell (by simp) _).setCell (by simp) _).setCell (by simp) _
set_option maxHeartbeats 1000000 in
theorem Yo (x:ay) (a1 a2 a3 a4:Value) (nm:ByteArray) (w0 w:World) (hw0:Below w0.heap.size w0 w) (h1:bf 3 48 RVar 0 w0 a1 x.ins) (h2:bf 3 48 RVar 0 w0 a2 x.outs) (h3:bf 3 48 RVar 0 w0 a3 x.vars) (h4:∃a n c,a4=.slice a n c) (hsum:x.ins.length+x.outs.length+x.vars.length<=1048576) :
  Calls Tryz.prog 39 #[.agg #[.string x.name,a1,a2,a3,a4],.string nm] w fun e w'=>∃cl,e=.returned cl∧bf 2 24 jm 0 w0 cl (jv (aj x) nm)∧Below w.heap.size w w':=by
 have P0:Below w.heap.size w (w.alloc (.cells #[.string x.name,a1,a2,a3,a4] 42)):=(Below.refl _ _).alloc (Nat.le_refl _) _
 have Oq:=hide P0
 have HC:=hide (Si x a1 a2 a3 a4 nm w0 _ (hw0.trans (P0.mono hw0.size)) h1 h2 h3 h4 hsum)
 obtain⟨b1,c1,rfl⟩:=h1.shape
 obtain⟨b2,c2,rfl⟩:=h2.shape
 obtain⟨b3,c3,rfl⟩:=h3.shape
 obtain⟨b4,n4,c4,rfl⟩:=h4
 clear h1 h2 h3 P0 hsum hw0
 unfold Xw at HC
 go_enter Tryz.func39,Tryz.ntmps39
 go_wp2_with fail
 refine(uh HC).mono ?_
 rintro e w1 ⟨cl,rfl,hcl,hb1⟩
 have HB1:Hid (Below w.heap.size w w1):=(uh Oq).trans (hb1.mono (uh Oq).size)
 have hs1:=(uh HB1).size
 have Gv:=hide hcl
 obtain⟨ac,cc,rfl⟩:=hcl.shape
 clear hb1 hcl HC
 have HE:Hid (jv (aj x) nm=(jg (aj x) nm).clock):=rfl
 generalize jg (aj x) nm=lv at *
 generalize uq (aj x) nm=li at *
 go_wp2
 go_ret
 have hal:Below w1.heap.size w1 (w1.alloc (.cells #[.string lv.name,.int .i64 lv.type,.slice ac lv.clock.length cc] 68)):=(Below.refl _ _).alloc (Nat.le_refl _) _
 exact⟨_,rfl,by rw[uh HE];exact uh Gv,(uh HB1).trans (hal.mono hs1)⟩
end Go.Proofs.YtflcnhfakcgkeaaGreat
