import Derived.Test.YtflcnhfakcgkeaaGreatC6
import Derived.Deep.QuietTactic
import Derived.BigQuiet
namespace Go.Proofs.YtflcnhfakcgkeaaGreat
open Go.RowKit
set_option linter.unusedSimpArgs false
set_option linter.unusedVariables false
theorem axy {B:Nat} {a w:World} (h:Below B a w) (n:Nat):Below B a (w.drewN n):=⟨h.os,h.tape,h.output,h.size,h.block⟩
theorem arn {w:World} {a:Option Addr} {c n:Nat} {ks:List cu} {k:cu} (h:bf 2 24 jm 0 w (.slice a n c) (ks++[k])):bf 2 24 jm 0 w (.slice a ks.length c) ks:=by
 obtain⟨a',c',he,⟨h1,h2⟩,h3,hx⟩:=h
 simp only[Value.slice.injEq] at he
 obtain⟨rfl,_,rfl⟩:=he
 rw[List.length_append] at h1 h2 h3
 refine⟨a,c,rfl,⟨?_,by omega⟩,by unfold Len at *;omega,fun i hi=>?_⟩
 ·unfold Len at *
  rw[Nat.add_mul] at h1
  omega
 ·obtain⟨b,o,cs,h4,h5,h6,h7,h8,h9⟩:=hx i (by rw[List.length_append];omega)
  refine⟨b,o,cs,h4,h5,h6,h7,h8,?_⟩
  rwa[List.getElem_append_left hi] at h9
theorem apk {w:World} {a:Option Addr} {c n:Nat} {ks:List cu} {k:cu} (h:bf 2 24 jm 0 w (.slice a n c) (ks++[k])):∃b o,a=some ⟨b,o,none⟩∧b<w.heap.size∧w.cell? ⟨b,o+ks.length*2,none⟩=some (.string k.name)∧w.cell? ⟨b,o+ks.length*2+1,none⟩=some (.bool k.on)∧ks.length+1<=c:=by
 obtain⟨a',c',he,⟨h1,h2⟩,h3,hx⟩:=h
 simp only[Value.slice.injEq] at he
 obtain⟨rfl,_,rfl⟩:=he
 obtain⟨b,o,cs,rfl,h5,h6,h7,h8,h9⟩:=hx ks.length (by rw[List.length_append];simp)
 rw[List.getElem_append_right (Nat.le_refl _)] at h9
 simp only[Nat.sub_self,List.getElem_cons_zero] at h9
 obtain⟨rfl,_⟩:=h9
 exact⟨b,o,rfl,h6,by simpa using h8 0 (by simp),by simpa using h8 1 (by simp),by rw[List.length_append] at h2;simpa using h2⟩
set_option maxRecDepth 20000 in
set_option maxHeartbeats 8000000 in
theorem ak3 (x:ay) (b1 b2 b3 b4:Option Addr) (c1 c2 c3 n4 c4:Nat) (hsum:x.ins.length+x.outs.length+x.vars.length<=1048576) (code:List eu) (v:Value) (hit:∀t,t∈code->Ir t=true) (hl:code.length<=3000) (l b:Nat) (gg:Ctx)
  (hfd:Fd (l9 (aj x)) code b (l+1) [gg]) (w:World) (hni:Iu x b1 b2 b3 c1 c2 c3 w) (hv:bf 3 32 jw 0 w v code) (ks:List cu) (kv:Value) (hk:bf 2 24 jm 0 w kv ks) (hkl:ks.length<=8) (hlt0:l<code.length) (ho:code[l].op=23)
  (ih:∀m,m<l+1->∀(b0:Nat) (g:Ctx),Fd (l9 (aj x)) code b0 m [g]->∀w1 qm Ag,Iu x b1 b2 b3 c1 c2 c3 w1->bf 3 32 jw 0 w1 v code->bf 2 24 jm 0 w1 Ag qm->qm.length<=8->Calls Tryz.prog 97 #[.agg #[.string x.name,.slice b1 x.ins.length c1,.slice b2 x.outs.length c2,.slice b3 x.vars.length c3,.slice b4 n4 c4],v,.int .i64 (m:Int),Ag] w1 (Ans (.bool (g qm)) w1)) :
  Calls Tryz.prog 97 #[.agg #[.string x.name,.slice b1 x.ins.length c1,.slice b2 x.outs.length c2,.slice b3 x.vars.length c3,.slice b4 n4 c4],v,.int .i64 ((l:Int)+1),kv] w (Ans (.bool (gg ks)) w):=by
 have har:∀t,t∈code->0<=Bo t.op:=fun t ht=>(Mc t.op).2 (by have:=((zo t).1 (hit t ht)).1;omega)
 obtain⟨hlt,us,hus,pz,hty⟩:=hfd.last
 obtain⟨hi0,hir,hin⟩:=(zo code[l]).1 (hit _ (List.getElem_mem hlt))
 have HV:=hide hv
 have zl:=hide hni
 have HK:=hide hk
 obtain⟨ak,ck,rfl⟩:=hk.shape
 have hx:=hv
 obtain⟨a,cap,rfl,_,hn,hx⟩:=hx
 unfold Len at hn
 obtain⟨bb,oo,cs,rfl,_,hbb,hcs,hc,hR⟩:=hx l hlt
 obtain⟨rfl,hsn,hop,hvl⟩:=hR
 have q0:=hc 0 (by simp)
 have q1:=hc 1 (by simp)
 have q2:=hc 2 (by simp)
 simp only[Nat.mul_one,Nat.add_zero,List.getElem_cons_zero,List.getElem_cons_succ] at q0 q1 q2
 have Ld:∀w1,Calls Tryz.prog 72 #[.int .i64 code[l].op] w1 fun e w'=>e=.returned (.int .i64 (us.length:Int))∧w'=w1:=by
  intro w1
  have h1:=Ew code[l].op w1 (by unfold I64;omega)
  have h2:=Qr _ (har _ (List.getElem_mem hlt))
  have h3:=har _ (List.getElem_mem hlt)
  have h4:(us.length:Int)=Bo code[l].op:=by rw[pz];unfold Af;rw[h2];omega
  rw[h4]
  exact h1
 have hu3:us.length<=3:=by rw[pz];unfold Af;have:=Gh code[l].op;omega
 clear hx hc hcs hin hir hi0 hop hvl
 generalize code[l]=it at q0 q1 q2 hty pz Ld hsn ho
 obtain⟨op,vl,nm⟩:=it
 simp only at q0 q1 q2 pz Ld hsn ho
 have Vq:gg=l9 (aj x) ⟨op,vl,nm⟩ us:=hty
 have hu1:us.length=1:=by rw[pz,ho];decide
 obtain⟨g0,rfl⟩:∃g0,us=[g0]:=by
  match us,hu1 with
  | [g0],_=>exact⟨g0,rfl⟩
 have HR0:Hid (ks=[]->gg ks=false):=fun h=>by
  subst h
  rw[Vq]
  unfold l9
  rw[if_neg (by simp only;omega),if_neg (by simp only;omega),if_pos ho]
  rfl
 have HR1:Hid (∀Ej c,ks=Ej++[c]->gg ks=(Io c ⟨nm,vl == 1⟩&&(qj (jv (aj x) nm) Ej&&g0 Ej))):=fun Ej c h=>by
  subst h
  rw[Vq]
  unfold l9
  rw[if_neg (by simp only;omega),if_neg (by simp only;omega),if_pos ho]
  simp
 clear hu1
 clear Vq hty
 have La:=hide Ld
 have Zn:=hide hsn
 have hA:Below w.heap.size w ((w.alloc (.cells #[.string x.name,.slice b1 x.ins.length c1,.slice b2 x.outs.length c2,.slice b3 x.vars.length c3,.slice b4 n4 c4] 42)).alloc (.cells #[.int .i64 op,.int .i64 vl,.string nm] 97)):=((Below.refl _ _).alloc (Nat.le_refl _) _).alloc (by simp) _
 have HA:=hide hA
 have Je:Hid (((w.alloc (.cells #[.string x.name,.slice b1 x.ins.length c1,.slice b2 x.outs.length c2,.slice b3 x.vars.length c3,.slice b4 n4 c4] 42)).alloc (.cells #[.int .i64 op,.int .i64 vl,.string nm] 97)).heap.size=w.heap.size+2):=by
  show ((w.alloc (.cells #[.string x.name,.slice b1 x.ins.length c1,.slice b2 x.outs.length c2,.slice b3 x.vars.length c3,.slice b4 n4 c4] 42)).alloc (.cells #[.int .i64 op,.int .i64 vl,.string nm] 97)).heap.size=w.heap.size+2
  simp
 have HB0:Hid (Below (w.heap.size+2) ((w.alloc (.cells #[.string x.name,.slice b1 x.ins.length c1,.slice b2 x.outs.length c2,.slice b3 x.vars.length c3,.slice b4 n4 c4] 42)).alloc (.cells #[.int .i64 op,.int .i64 vl,.string nm] 97)) ((w.alloc (.cells #[.string x.name,.slice b1 x.ins.length c1,.slice b2 x.outs.length c2,.slice b3 x.vars.length c3,.slice b4 n4 c4] 42)).alloc (.cells #[.int .i64 op,.int .i64 vl,.string nm] 97))):=Below.refl _ _
 have o8:Hid (∀w1,Below (w.heap.size+2) ((w.alloc (.cells #[.string x.name,.slice b1 x.ins.length c1,.slice b2 x.outs.length c2,.slice b3 x.vars.length c3,.slice b4 n4 c4] 42)).alloc (.cells #[.int .i64 op,.int .i64 vl,.string nm] 97)) w1->Below w.heap.size w w1):=fun w1 h=>(uh HA).trans (h.mono (by omega))
 have Ou:Hid (∀w1 w2,Below (w.heap.size+2) ((w.alloc (.cells #[.string x.name,.slice b1 x.ins.length c1,.slice b2 x.outs.length c2,.slice b3 x.vars.length c3,.slice b4 n4 c4] 42)).alloc (.cells #[.int .i64 op,.int .i64 vl,.string nm] 97)) w1->Below w1.heap.size w1 w2->Below (w.heap.size+2) ((w.alloc (.cells #[.string x.name,.slice b1 x.ins.length c1,.slice b2 x.outs.length c2,.slice b3 x.vars.length c3,.slice b4 n4 c4] 42)).alloc (.cells #[.int .i64 op,.int .i64 vl,.string nm] 97)) w2):=fun w1 w2 h1 h2=>h1.trans (h2.mono (by have:=h1.size;rw[uh Je] at this;exact this))
 have hBN:dh ((w.alloc (.cells #[.string x.name,.slice b1 x.ins.length c1,.slice b2 x.outs.length c2,.slice b3 x.vars.length c3,.slice b4 n4 c4] 42)).alloc (.cells #[.int .i64 op,.int .i64 vl,.string nm] 97)) w.heap.size 42 #[.string x.name,.slice b1 x.ins.length c1,.slice b2 x.outs.length c2,.slice b3 x.vars.length c3,.slice b4 n4 c4]:=(jd w #[.string x.name,.slice b1 x.ins.length c1,.slice b2 x.outs.length c2,.slice b3 x.vars.length c3,.slice b4 n4 c4] 42).below ((Below.refl _ _).alloc (Nat.le_refl _) _) (by simp)
 have hBI:dh ((w.alloc (.cells #[.string x.name,.slice b1 x.ins.length c1,.slice b2 x.outs.length c2,.slice b3 x.vars.length c3,.slice b4 n4 c4] 42)).alloc (.cells #[.int .i64 op,.int .i64 vl,.string nm] 97)) (w.heap.size+1) 97 #[.int .i64 op,.int .i64 vl,.string nm]:=by
  have:=jd (w.alloc (.cells #[.string x.name,.slice b1 x.ins.length c1,.slice b2 x.outs.length c2,.slice b3 x.vars.length c3,.slice b4 n4 c4] 42)) #[.int .i64 op,.int .i64 vl,.string nm] 97
  rwa[show (w.alloc (.cells #[.string x.name,.slice b1 x.ins.length c1,.slice b2 x.outs.length c2,.slice b3 x.vars.length c3,.slice b4 n4 c4] 42)).heap.size=w.heap.size+1 from by simp] at this
 have Cj:Hid (∀w1,Below (w.heap.size+2) ((w.alloc (.cells #[.string x.name,.slice b1 x.ins.length c1,.slice b2 x.outs.length c2,.slice b3 x.vars.length c3,.slice b4 n4 c4] 42)).alloc (.cells #[.int .i64 op,.int .i64 vl,.string nm] 97)) w1->dh w1 w.heap.size 42 #[.string x.name,.slice b1 x.ins.length c1,.slice b2 x.outs.length c2,.slice b3 x.vars.length c3,.slice b4 n4 c4]):=fun w1 h=>hBN.below h (by omega)
 have Md:Hid (∀w1,Below (w.heap.size+2) ((w.alloc (.cells #[.string x.name,.slice b1 x.ins.length c1,.slice b2 x.outs.length c2,.slice b3 x.vars.length c3,.slice b4 n4 c4] 42)).alloc (.cells #[.int .i64 op,.int .i64 vl,.string nm] 97)) w1->dh w1 (w.heap.size+1) 97 #[.int .i64 op,.int .i64 vl,.string nm]):=fun w1 h=>hBI.below h (by omega)
 have HIH:Hid (∀(m b0:Nat) (g:Ctx),m<l+1->Fd (l9 (aj x)) code b0 m [g]->∀w1 qm Ag,Below (w.heap.size+2) ((w.alloc (.cells #[.string x.name,.slice b1 x.ins.length c1,.slice b2 x.outs.length c2,.slice b3 x.vars.length c3,.slice b4 n4 c4] 42)).alloc (.cells #[.int .i64 op,.int .i64 vl,.string nm] 97)) w1->bf 2 24 jm 0 w1 Ag qm->qm.length<=8->Calls Tryz.prog 97 #[.agg #[.string x.name,.slice b1 x.ins.length c1,.slice b2 x.outs.length c2,.slice b3 x.vars.length c3,.slice b4 n4 c4],.slice (some ⟨bb,oo,none⟩) code.length cap,.int .i64 (m:Int),Ag] w1 (Ans (.bool (g qm)) w1)) :=
  fun m b0 g h1 h2 w1 qm Ag h3 h4 h5=>ih m h1 b0 g h2 w1 qm Ag ((uh zl).stays (uh o8 w1 h3)) ((uh HV).stays je (uh o8 w1 h3)) h4 h5
 have Kz:Hid (∀(m m1:Nat) (g:Ctx),m<=l->Fd (l9 (aj x)) code m1 m [g]->∀w1,Below (w.heap.size+2) ((w.alloc (.cells #[.string x.name,.slice b1 x.ins.length c1,.slice b2 x.outs.length c2,.slice b3 x.vars.length c3,.slice b4 n4 c4] 42)).alloc (.cells #[.int .i64 op,.int .i64 vl,.string nm] 97)) w1->Calls Tryz.prog 42 #[.slice (some ⟨bb,oo,none⟩) code.length cap,.int .i64 (m:Int)] w1 fun e w'=>e=.returned (.int .i64 (m1:Int))∧w'=w1):=by
  intro m m1 k h1 h2 w1 h3
  have:=Gp code m (by omega) _ w1 ((uh HV).stays je (uh o8 w1 h3))
  rw[Vg har h2 (by omega)] at this
  exact this
 have HKK:Hid (∀w1,Below (w.heap.size+2) ((w.alloc (.cells #[.string x.name,.slice b1 x.ins.length c1,.slice b2 x.outs.length c2,.slice b3 x.vars.length c3,.slice b4 n4 c4] 42)).alloc (.cells #[.int .i64 op,.int .i64 vl,.string nm] 97)) w1->bf 2 24 jm 0 w1 (.slice ak ks.length ck) ks):=fun w1 h=>(uh HK).stays lg (uh o8 w1 h)
 have Sl:Hid (∀w1,Below (w.heap.size+2) ((w.alloc (.cells #[.string x.name,.slice b1 x.ins.length c1,.slice b2 x.outs.length c2,.slice b3 x.vars.length c3,.slice b4 n4 c4] 42)).alloc (.cells #[.int .i64 op,.int .i64 vl,.string nm] 97)) w1->Calls Tryz.prog 39 #[.agg #[.string x.name,.slice b1 x.ins.length c1,.slice b2 x.outs.length c2,.slice b3 x.vars.length c3,.slice b4 n4 c4],.string nm] w1 fun e w'=>∃cl,e=.returned cl∧bf 2 24 jm 0 w' cl (jv (aj x) nm)∧Below w1.heap.size w1 w'):=fun w1 h =>
  Qw x _ _ _ _ nm w1 ((uh zl).stays (uh o8 w1 h)).ins ((uh zl).stays (uh o8 w1 h)).outs ((uh zl).stays (uh o8 w1 h)).vars ⟨b4,n4,c4,rfl⟩ hsum
 have Me:=hide hus
 have HUL:=hide pz
 clear hus pz hit hfd hv hni hk hA hBN hBI har ih hsn Ld
 subst ho
 have HBn:Hid (∀n,Below (w.heap.size+2) ((w.alloc (.cells #[.string x.name,.slice b1 x.ins.length c1,.slice b2 x.outs.length c2,.slice b3 x.vars.length c3,.slice b4 n4 c4] 42)).alloc (.cells #[.int .i64 23,.int .i64 vl,.string nm] 97)) ((((w.alloc (.cells #[.string x.name,.slice b1 x.ins.length c1,.slice b2 x.outs.length c2,.slice b3 x.vars.length c3,.slice b4 n4 c4] 42)).alloc (.cells #[.int .i64 23,.int .i64 vl,.string nm] 97))).drewN n)):=fun n=>axy (uh HB0) n
 rcases List.eq_nil_or_concat ks with hnil|⟨Ej,c,hks⟩
 ·have HN:=hide (uh HR0 hnil)
  have HF:Hid (∀n,Below w.heap.size w _):=fun n=>uh o8 _ (uh HBn n)
  subst hnil
  clear HR0 HR1 HIH Kz HKK Sl
  rw[List.length_nil]
  go_enter Tryz.func97,Tryz.ntmps97
  go_wp2_with fail
  go_quiet ((fail))
  all_goals
   go_wp2
   go_ret
   exact⟨gu (uh HN).symm,uh HF _⟩
 ·have HKd:=uh HKK _ (uh HB0)
  rw[List.concat_eq_append] at hks
  have Fq:=uh HR1 Ej c hks
  subst hks
  obtain⟨bk,ok,rfl,hbk,p0,p1,hcap⟩:=apk HKd
  have hpre:=arn (uh HK)
  have hlen:(Ej++[c]).length=Ej.length+1:=by simp
  have hk0:Ej.length<=7:=by omega
  have aro:Hid (∀w1,Below (w.heap.size+2) _ w1->bf 2 24 jm 0 w1 (.slice (some ⟨bk,ok,none⟩) Ej.length ck) Ej):=fun w1 h=>hpre.stays lg (uh o8 w1 h)
  have amv:Hid (∀w1,Below (w.heap.size+2) _ w1->_):=fun w1 h=>uh HIH l b g0 (Nat.lt_succ_self _) (uh Me) w1 Ej _ h (uh aro w1 h) (by omega)
  have Ak:Hid (∀n,_):=fun n=>uh Sl _ (uh HBn n)
  have HF:Hid (∀n,Below w.heap.size w _):=fun n=>uh o8 _ (uh HBn n)
  have Rq:Io c ⟨nm,vl == 1⟩=((c.name.toList == nm.toList)&&(c.on == (vl == 1))):=rfl
  rw[Rq] at Fq
  have Fq:=hide Fq
  clear HR0 HR1 HKd HIH Kz HKK Sl HK Me hkl hpre Rq
  rw[hlen]
  clear hlen
  obtain⟨cn,co⟩:=c
  simp only at p0 p1 Fq
  generalize jv (aj x) nm=clk at *
  generalize gg (Ej++[⟨cn,co⟩])=res at *
  have hz:(((Ej.length:Int)+1) == 0)=false:=by rw[beq_eq_false_iff_ne];omega
  have hz2:¬((Ej.length:Int)+1=0):=by omega
  cases hn:(cn.toList == nm.toList)
  ·rw[hn,Bool.false_and,Bool.false_and] at Fq
   go_enter Tryz.func97,Tryz.ntmps97
   go_wp2_with fail
   go_quiet ((fail))
   all_goals
    go_wp2
    go_ret
    exact⟨gu (uh Fq).symm,uh HF _⟩
  ·rw[hn,Bool.true_and] at Fq
   cases hv:(vl == 1)<;>cases co
   case false.false =>
    rw[hv] at Fq
    have Fq:=hide (show res=(qj clk Ej&&g0 Ej) by have:=uh Fq;simpa using this)
    go_enter Tryz.func97,Tryz.ntmps97
    go_wp2_with fail
    go_quiet ((fail))
    rename Nat=>nq
    go_wp2_with fail
    refine(uh Ak _).mono ?_
    rintro e w1 ⟨cl,rfl,hcl,hb1⟩
    have hB1:=uh Ou _ _ (uh HBn _) hb1
    have HB1:=hide hB1
    have HC2:=hide (Eu clk Ej cl _ w1 hcl (uh aro w1 hB1))
    obtain⟨ac,cc,rfl⟩:=hcl.shape
    clear hcl hb1 hB1
    generalize qj clk Ej=r at *
    go_wp2_with fail
    refine(uh HC2).mono ?_
    rintro e w2 ⟨rfl,hb2⟩
    have hB2:=uh Ou _ _ (uh HB1) hb2
    have Ot:=hide (uh amv w2 hB2)
    have HF2:=hide (uh o8 _ hB2)
    have a1o:=hide (uh Ou w2)
    have HB2:=hide hB2
    have P8:=(uh Cj w2 hB2).cell (i:=0) (v:=.string x.name) rfl
    have P9:=(uh Cj w2 hB2).cell (i:=1) (v:=.slice b1 x.ins.length c1) rfl
    have Qa:=(uh Cj w2 hB2).cell (i:=2) (v:=.slice b2 x.outs.length c2) rfl
    have Qb:=(uh Cj w2 hB2).cell (i:=3) (v:=.slice b3 x.vars.length c3) rfl
    have Qc:=(uh Cj w2 hB2).cell (i:=4) (v:=.slice b4 n4 c4) rfl
    clear hb2 hB2 HC2 amv
    generalize g0 Ej=r2 at *
    cases r
    ·rw[Bool.false_and] at Fq
     go_wp2
     go_ret
     exact⟨gu (uh Fq).symm,uh HF2⟩
    ·rw[Bool.true_and] at Fq
     go_wp2_with fail
     refine(uh Ot).mono ?_
     rintro e w3 ⟨rfl,hb3⟩
     have HF3:=hide (uh o8 _ (uh Ou _ _ (uh HB2) hb3))
     clear hb3
     go_wp2
     go_ret
     exact⟨gu (uh Fq).symm,uh HF3⟩
   case true.true =>
    rw[hv] at Fq
    have Fq:=hide (show res=(qj clk Ej&&g0 Ej) by have:=uh Fq;simpa using this)
    go_enter Tryz.func97,Tryz.ntmps97
    go_wp2_with fail
    go_quiet ((fail))
    rename Nat=>nq
    go_wp2_with fail
    refine(uh Ak _).mono ?_
    rintro e w1 ⟨cl,rfl,hcl,hb1⟩
    have hB1:=uh Ou _ _ (uh HBn _) hb1
    have HB1:=hide hB1
    have HC2:=hide (Eu clk Ej cl _ w1 hcl (uh aro w1 hB1))
    obtain⟨ac,cc,rfl⟩:=hcl.shape
    clear hcl hb1 hB1
    generalize qj clk Ej=r at *
    go_wp2_with fail
    refine(uh HC2).mono ?_
    rintro e w2 ⟨rfl,hb2⟩
    have hB2:=uh Ou _ _ (uh HB1) hb2
    have Ot:=hide (uh amv w2 hB2)
    have HF2:=hide (uh o8 _ hB2)
    have a1o:=hide (uh Ou w2)
    have HB2:=hide hB2
    have P8:=(uh Cj w2 hB2).cell (i:=0) (v:=.string x.name) rfl
    have P9:=(uh Cj w2 hB2).cell (i:=1) (v:=.slice b1 x.ins.length c1) rfl
    have Qa:=(uh Cj w2 hB2).cell (i:=2) (v:=.slice b2 x.outs.length c2) rfl
    have Qb:=(uh Cj w2 hB2).cell (i:=3) (v:=.slice b3 x.vars.length c3) rfl
    have Qc:=(uh Cj w2 hB2).cell (i:=4) (v:=.slice b4 n4 c4) rfl
    clear hb2 hB2 HC2 amv
    generalize g0 Ej=r2 at *
    cases r
    ·rw[Bool.false_and] at Fq
     go_wp2
     go_ret
     exact⟨gu (uh Fq).symm,uh HF2⟩
    ·rw[Bool.true_and] at Fq
     go_wp2_with fail
     refine(uh Ot).mono ?_
     rintro e w3 ⟨rfl,hb3⟩
     have HF3:=hide (uh o8 _ (uh Ou _ _ (uh HB2) hb3))
     clear hb3
     go_wp2
     go_ret
     exact⟨gu (uh Fq).symm,uh HF3⟩
   all_goals
    rw[hv] at Fq
    have Fq:=hide (show res=false by have:=uh Fq;simpa using this)
    go_enter Tryz.func97,Tryz.ntmps97
    go_wp2_with fail
    go_quiet ((fail))
    all_goals
     go_wp2
     go_ret
     exact⟨gu (uh Fq).symm,uh HF _⟩
end Go.Proofs.YtflcnhfakcgkeaaGreat
