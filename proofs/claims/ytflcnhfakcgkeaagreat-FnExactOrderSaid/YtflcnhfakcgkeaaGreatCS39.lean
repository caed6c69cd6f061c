import Derived.Test.YtflcnhfakcgkeaaGreatCS38
import Derived.Test.YtflcnhfakcgkeaaGreatCS30
import Derived.Test.YtflcnhfakcgkeaaGreatWgtD
namespace Go.Proofs.YtflcnhfakcgkeaaGreat
open Go.RowKit
set_option linter.unusedSimpArgs false
set_option linter.unusedVariables false
theorem atc (W0:World) (x:ay) (nb no:Nat) (G:List Int) (sb vb:Nat) (ov:Value) (D:List Nat) (C L:List cu->Option Nat) (N mb:Nat) (hok:aar x G):∀(c:Nat) (w:World) (M:List Int) (e:Nat),zs M<=c->e<x.eqs.length->Ti W0 w x nb no G sb vb ov D C L N mb M->MInv (D7 x G) x.eqs.length M->(∀u,u<x.eqs.length->uo M u=1->Tg (D7 x G) u e)->Calls Tryz.prog 110 #[.pointer (some ⟨sb,0,none⟩),.int .i64 (e:Int),.slice (some ⟨mb,0,none⟩) x.eqs.length x.eqs.length] w (V9 x G mb M e w):=by
 intro c
 induction c with
 | zero =>
  intro w M e hz he h hi hg
  by_cases h0:uo M e=0
  ·have h9:=ap5 M e 1 (by rw[hi.len];exact he) h0 (by decide)
   omega
  ·exact ad9 W0 w x nb no G sb vb ov D C L N mb M h hi e he hg h0
 | succ c ih =>
  intro w M e hz he h hi hg
  by_cases h0:uo M e=0
  ·exact ap6 W0 x nb no G sb vb ov D C L N mb hok c ih w M h hi e he hg h0 hz
  ·exact ad9 W0 w x nb no G sb vb ov D C L N mb M h hi e he hg h0
theorem aja (n:Nat):madeCells (Value.int .i64 0).cells n=((List.replicate n (0:Int)).map (Value.int .i64)).toArray:=by
 apply Array.ext
 ·rw[size_madeCells];simp
 ·intro i h1 h2
  simp[madeCells,Nat.mod_one,Value.cells]
structure DecA where
 d:(p:Prop)->Decidable p
def Y5 (D:DecA) (x:ay) (G:List Int):Int × Int:=@ite _ (∃u,u<x.eqs.length∧Tg (D7 x G) u u) (D.d _) (8,0) (0,0)
set_option maxRecDepth 20000 in
set_option maxHeartbeats 4000000 in
theorem atd (Dq:DecA) (W w:World) (ns:List ay) (i:Nat) (x:ay) (b o cb EB:Nat) (G:List Int) (sb vb:Nat) (ov:Value) (D:List Nat) (C L:List cu->Option Nat) (N:Nat) (h:Ck W w ns i x b o cb EB G sb vb ov D C L N) (hok:aar x G) :
  Calls Tryz.prog 81 #[.pointer (some ⟨cb,0,none⟩)] w (O5 (Y5 Dq x G) w):=by
 have hold:=h.sc.old
 have c0:=h.blk.cell (i:=0) (v:=.pointer (some ⟨sb,0,none⟩)) rfl
 have s0:=h.sc.tq.cell (i:=0) (v:=.pointer (some ⟨b,o+i*5,none⟩)) rfl
 obtain⟨hbl,cs,hl,hc,v1,v2,v3,v4,rfl,hs,_,_,_,Lm⟩:=h.node
 obtain⟨ea,ec,hv4⟩:=Lm.shape
 subst hv4
 have k4:=(hold.cell (p:=⟨b,_,none⟩) hbl).trans (hc 4 (by simp))
 simp only[List.getElem_cons_zero,List.getElem_cons_succ] at k4
 have I7:=hok.len
 have hmk:(Instr.makeSlice 26 (.int .i64 (x.eqs.length:Int)) (.int .i64 (x.eqs.length:Int))).run Tryz.prog w=.ok (.slice (some ⟨w.heap.size,0,none⟩) x.eqs.length x.eqs.length) (w.alloc (.cells ((List.replicate x.eqs.length (0:Int)).map (Value.int .i64)).toArray 3)):=by
  have h9:=Am (P:=Tryz.prog) 26 3 (.int .i64 0) 1 8 anp as3 x.eqs.length (by omega) (by omega) w
  rw[Nat.mul_one,aja] at h9
  exact h9
 obtain⟨w1,hw1⟩:∃z,z=w.alloc (.cells ((List.replicate x.eqs.length (0:Int)).map (Value.int .i64)).toArray 3):=⟨_,rfl⟩
 rw[←hw1] at hmk
 have hB1:Below w.heap.size w w1:=by rw[hw1];exact(Below.refl _ _).alloc (Nat.le_refl _) _
 have hrow:dh w1 w.heap.size 3 ((List.replicate x.eqs.length (0:Int)).map (Value.int .i64)).toArray:=by rw[hw1];exact jd w _ _
 have hz0:∀i,i<x.eqs.length->uo (List.replicate x.eqs.length (0:Int)) i=0:=fun i hi=>by
  unfold uo
  rw[List.getD_eq_getElem?_getD,List.getElem?_replicate,if_pos hi]
  rfl
 obtain⟨mb,hmb⟩:∃z,z=w.heap.size:=⟨_,rfl⟩
 rw[←hmb] at hmk hrow
 have hck1:=h.below hB1
 have HL1:Hid (Ti W w1 x b (o+i*5) G sb vb ov D C L N mb (List.replicate x.eqs.length 0)):=hide ⟨hck1.sc,h.node,by rw[hmb];exact hold.size,hrow⟩
 have HI1:Hid (MInv (D7 x G) x.eqs.length (List.replicate x.eqs.length 0)):=hide ⟨List.length_replicate,fun i hi=>Or.inl (hz0 i hi),fun u hu hm=>(by rw[hz0 u hu] at hm;cases hm),fun u hu hm=>(by rw[hz0 u hu] at hm;cases hm)⟩
 have Fq:Hid (∀u,u<x.eqs.length->uo (List.replicate x.eqs.length (0:Int)) u≠1):=fun u hu hm=>by rw[hz0 u hu] at hm;cases hm
 have HLP:=hide (atc W x b (o+i*5) G sb vb ov D C L N mb hok)
 have yj:Hid (∀wr,w1.grownBy wr (some mb)->Below w.heap.size w wr∧wr.cell? ⟨cb,0,none⟩=some (.pointer (some ⟨sb,0,none⟩))):=fun wr hg=>by
  have hb:Below w.heap.size w wr:=⟨hg.os.trans hB1.os,hg.tape.trans hB1.tape,hg.output.trans hB1.output,Nat.le_trans hB1.size hg.size,fun k hk=>(hg.block k (Nat.lt_of_lt_of_le hk hB1.size) (fun e=>by have:=Option.some.inj e;omega)).trans (hB1.block k hk)⟩
  exact⟨hb,(hb.cell (World.block_lt_of_cell? w _ c0)).trans c0⟩
 obtain⟨PO,l7⟩:∃PO:Ending->World->Prop,PO=O5 (Y5 Dq x G) w:=⟨_,rfl⟩
 rw[←l7]
 have qy:=hide l7
 clear h hok hc hl hs Lm hold hbl l7 hw1 hB1 hrow hz0 hmb hck1
 generalize o+i*5=oi at *
 go_enter Tryz.func81,Tryz.ntmps81
 go_wp2
 clear c0 s0 k4 hmk
 go_loopg [20] x.eqs.length (fun gm iv wr=>∃(k:Nat) (M:List Int),k<=x.eqs.length∧gm=x.eqs.length-k∧iv=.int .i64 k∧w1.grownBy wr (some mb)∧Ti W wr x b oi G sb vb ov D C L N mb M∧MInv (D7 x G) x.eqs.length M∧(∀u,u<x.eqs.length->uo M u≠1)∧∀j,j<k->uo M j=2)
 case atStart=>exact⟨0,_,Nat.zero_le _,by omega,rfl,below_grown (Below.refl _ _) _,uh HL1,uh HI1,uh Fq,fun j hj=>absurd hj (Nat.not_lt_zero _)⟩
 case round =>
  obtain⟨k,M,hk,hgm,rfl,hgr,hlp,hinv,hng,hbk⟩:=hrel
  rename World=>wr
  obtain⟨hb,z0⟩:=uh yj wr hgr
  have HG:=hide hgm
  clear hgm HL1 HI1 Fq
  by_cases hlt:k<x.eqs.length
  case neg =>
   have hke:k=x.eqs.length:=by omega
   have gq:Hid (PO (.returned (.tuple #[.int .i64 0,.int .i64 0])) wr):=by
    rw[uh qy]
    unfold Y5
    rw[if_neg]
    ·exact hide ⟨rfl,hb⟩
    ·rintro⟨u,hu,ht⟩
     exact hinv.acy u hu (hbk u (by omega)) ht
   have Ec:¬(k:Int)<(x.eqs.length:Int):=by omega
   clear hke hb hgr hlp hinv hng hbk hlt
   go_wp2
   exact uh gq
  have Ec:(k:Int)<(x.eqs.length:Int):=by omega
  have HC:=hide (uh HLP (zs M) wr M k (Nat.le_refl _) hlt hlp hinv (fun u hu hm=>absurd hm (hng u hu)))
  have HGR:=hide hgr
  have a2n:=hide hlp
  have HNG:=hide hng
  have Ob:=hide hbk
  have yw:=hide hlt
  clear hb hgr hlp hinv hng hbk hlt
  go_wp2_with fail
  refine(uh HC).mono ?_
  rintro e9 w3 ⟨r,M2,rfl,hg3,hr3,ht3,hf3⟩
  have Oj:=C9 (uh HGR) hg3
  have hb3:=(uh yj w3 Oj).1
  clear z0 HC
  cases r
  ·obtain⟨q1,q2,q3⟩:=hf3 rfl
   have xw:Hid (w1.grownBy w3 (some mb)∧Ti W w3 x b oi G sb vb ov D C L N mb M2∧MInv (D7 x G) x.eqs.length M2∧(∀u,u<x.eqs.length->uo M2 u≠1)∧∀j,j<k+1->uo M2 j=2):=by
    refine hide ⟨Oj,(uh a2n).turn hg3 hr3,q1,fun u hu hm=>uh HNG u hu ((q2.gray u hu).2 hm),fun j hj=>?_⟩
    have a2o:=uh yw
    by_cases c:j=k
    ·rw[c];exact q3
    ·exact q2.black j (by omega) (uh Ob j (by omega))
   clear hg3 hr3 ht3 hf3 q1 q2 q3 Oj hb3
   go_wp2
   go_roundg (x.eqs.length-(k+1))
   case measure =>
    have h8:=uh yw
    have h9:=uh HG
    omega
   case rel =>
    obtain⟨r1,r2,r3,r4,r5⟩:=uh xw
    exact⟨k+1,M2,uh yw,rfl,by go_num,r1,r2,r3,r4,r5⟩
  ·have gq:Hid (PO (.returned (.tuple #[.int .i64 8,.int .i64 0])) w3):=by
    rw[uh qy]
    unfold Y5
    rw[if_pos (ht3 rfl)]
    exact hide ⟨rfl,hb3⟩
   clear hg3 hr3 ht3 hf3 Oj hb3
   go_wp2
   exact uh gq
end Go.Proofs.YtflcnhfakcgkeaaGreat
namespace Go.Proofs.YtflcnhfakcgkeaaGreat
open Go.RowKit
set_option linter.unusedSimpArgs false
set_option linter.unusedVariables false
theorem abp (l:List ByteArray) (x:ByteArray):inB l x=true↔x∈l:=by
 unfold inB
 rw[List.any_eq_true]
 constructor
 ·rintro⟨y,hy,h⟩
  rw[abj] at h
  rw[←h]
  exact hy
 ·intro h
  exact⟨x,h,(abj x x).2 rfl⟩
theorem Ux (vs:List gy) (s:ByteArray) (h:jc vs s<vs.length):vs[jc vs s].name=s:=by
 have h9:=List.findIdx_getElem (w:=h)
 exact(abj _ _).1 h9
theorem Tj {ns:List ay} {i:Nat} {vs:List gy} {e:qg} {G:List Int} {q:Nat} (h:eqV ns i vs e G q=0):(zu vs G e.lhs q).2=true∧H9 ns i e=true∧Kr ns i vs e=true∧Sv vs e=true:=by
 unfold eqV at h
 cases h1:(zu vs G e.lhs q).2 with
 | false=>rw[h1,if_pos rfl] at h;cases h
 | true =>
  rw[h1,if_neg (by simp)] at h
  cases h2:H9 ns i e with
  | false=>rw[h2,if_pos rfl] at h;cases h
  | true =>
   rw[h2,if_neg (by simp)] at h
   cases h3:Kr ns i vs e with
   | false=>rw[h3,if_pos rfl] at h;cases h
   | true =>
    rw[h3,if_neg (by simp)] at h
    cases h4:Sv vs e with
    | false=>rw[h4,if_pos rfl] at h;cases h
    | true=>exact⟨rfl,rfl,rfl,rfl⟩
theorem aw0 {vs:List gy} {B e:Int} (hB:0<B) (he:e<B):∀(names:List ByteArray) (G:List Int),(∀k,G.getD k 0<B)->∀k,(zu vs G names e).1.getD k 0<B:=by
 intro names
 induction names with
 | nil=>intro G h k;exact h k
 | cons n r ih =>
  intro G h k
  unfold zu
  split
  ·refine ih _ (fun j=>?_) k
   rw[List.getD_eq_getElem?_getD]
   by_cases c:jc vs n=j
   ·subst c
    rw[List.getElem?_set]
    split
    ·split
     ·exact he
     ·exact hB
    ·rename_i hc;exact absurd rfl hc
   ·rw[List.getElem?_set_ne c,←List.getD_eq_getElem?_getD]
    exact h j
  ·exact h k
theorem ay2 {x:ay} (hn:1<=x.eqs.length) (k:Nat) (hk:k<=x.eqs.length):∀j,(ru x (qx x) k).getD j 0<(x.eqs.length:Int):=by
 induction k with
 | zero =>
  intro j
  show (qx x).getD j 0<_
  unfold qx
  rw[List.getD_eq_getElem?_getD]
  cases hq:(List.replicate x.ins.length (-2:Int)++List.replicate (x.outs.length+x.vars.length) (-1))[j]? with
  | none=>show (0:Int)<_;omega
  | some v =>
   have hm:=List.mem_of_getElem? hq
   rcases List.mem_append.1 hm with h9|h9
   ·rw[List.eq_of_mem_replicate h9];show (-2:Int)<_;omega
   ·rw[List.eq_of_mem_replicate h9];show (-1:Int)<_;omega
 | succ k ih =>
  intro j
  unfold ru
  rw[List.getElem?_eq_getElem (by omega)]
  exact aw0 (by omega) (by omega) _ _ (ih (by omega)) j
theorem adf (x:ay):(qx x).length=(aj x).length:=by
 unfold qx aj
 simp
theorem Ye (ns:List ay) (i:Nat) (x:ay) (G:List Int) (k:Nat) (hk:k<x.eqs.length):Lp ns i x G k=eqV ns i (aj x) x.eqs[k] (ru x G k) k:=by
 unfold Lp
 rw[List.getElem?_eq_getElem hk]
theorem anv {ns:List ay} {i:Nat} {x:ay} (hnb:∀n,n∈ns->qw n=true) (hxb:qw x=true) (adg:∀k,k<(aj x).length->Dy (aj x) k=false) (heq:∀k,k<x.eqs.length->Lp ns i x (qx x) k=0):aar x (ru x (qx x) x.eqs.length):=by
 have hni:=(yg x).1 hxb
 have heb:∀e,e∈x.eqs->Eb e=true:=fun e he=>List.all_eq_true.1 hni.2.2.2.2.2 e he
 have hz:∀e,e∈x.eqs->∃q G,eqV ns i (aj x) e G q=0:=fun e he=>by
  obtain⟨k,hk,rfl⟩:=List.mem_iff_getElem.1 he
  exact⟨k,_,by rw[←Ye];exact heq k hk⟩
 have hlh:∀e,e∈x.eqs->0<e.lhs.length:=fun e he=>by
  have h9:=heb e he
  unfold Eb at h9
  simp only[Bool.and_eq_true,decide_eq_true_iff] at h9
  exact h9.1.1.1
 have hlk:∀e,e∈x.eqs->∀s,s∈e.lhs->jc (aj x) s<(aj x).length:=fun e he=>by
  obtain⟨q,G,h9⟩:=hz e he
  exact aap (Tj h9).1
 refine⟨hlh,hlk,fun e he c hc=>?_,fun e he=>?_,fun e he nm hnm=>?_,fun k hk=>ay2 hni.1.2.2.1 _ (Nat.le_refl _) k,hni.1.2.2.2⟩
 ·have h9:=Pv e (heb e he) c hc
  exact⟨abo h9,(Ey c h9).2⟩
 ·have h9:=heb e he
  unfold Eb at h9
  simp only[Bool.and_eq_true,decide_eq_true_iff] at h9
  unfold dw
  by_cases g:e.call.size=0
  ·rw[if_pos g];simp
  ·rw[if_neg g];exact h9.1.1.2.2
 ·obtain⟨q,G,h9⟩:=hz e he
  obtain⟨_,hcb,htb,_⟩:=Tj h9
  have avv:∀s:ByteArray,nameB s=true->s.size<=maxLen:=fun s hs=>by have:=Vz hs;unfold maxLen;omega
  unfold Qj at hnm
  rcases List.mem_append.1 hnm with h8|h8
  ·rw[List.mem_map] at h8
   obtain⟨c,hc,rfl⟩:=h8
   have hhd:e.lhs.headD ⟨#[]⟩∈e.lhs:=by
    cases hq:e.lhs with
    | nil=>have:=hlh e he;rw[hq] at this;simp at this
    | cons a r=>simp
   have hl0:=hlk e he _ hhd
   have hn9:=agn hxb _ c (show c∈jv (aj x) (e.lhs.headD ⟨#[]⟩) from hc)
   refine⟨?_,avv _ hn9⟩
   have hck:(uj (aj x) e).clock=(aj x)[jc (aj x) (e.lhs.headD ⟨#[]⟩)].clock:=by
    unfold uj jg
    rw[dif_pos hl0]
   rw[hck] at hc
   obtain⟨j,hj,rfl⟩:=List.mem_iff_getElem.1 hc
   have h7:=adg _ hl0
   rw[aic _ _ hl0] at h7
   rcases Nat.lt_or_ge (jc (aj x) ((aj x)[jc (aj x) (e.lhs.headD ⟨#[]⟩)].clock[j]).name) (aj x).length with h6|h6
   ·exact h6
   ·exfalso
    have h5:=amb (aj x) _ j hj (by omega)
    rw[first_some hj h5] at h7
    cases h7
  ·have a2p:∀k,nm∈wz (dw e) k->∃c,c∈dw e∧nm∈Dw c c.length:=fun k=>by
    induction k with
    | zero=>intro h;simp[wz] at h
    | succ k ih =>
     intro h
     unfold wz at h
     rcases List.mem_append.1 h with h|h
     ·exact ih h
     ·cases hq:(dw e)[k]? with
      | none=>rw[hq] at h;cases h
      | some c=>rw[hq] at h;exact⟨c,List.mem_of_getElem? hq,h⟩
   obtain⟨c,hc,hv⟩:=a2p _ h8
   obtain⟨j,hj,hv⟩:=(al8 c _ nm).1 hv
   unfold Hz at hv
   rw[List.getElem?_eq_getElem hj] at hv
   simp only at hv
   by_cases hs:c[j].name.size=0
   ·rw[if_pos hs] at hv;cases hv
   rw[if_neg hs] at hv
   split at hv
   ·cases hv
   rw[List.mem_singleton] at hv
   subst hv
   have a2q:=abo (Pv e (heb e he) c hc)
   have hit:=((zo c[j]).1 (a2q.1 _ (List.getElem_mem hj))).2.2
   have hop:c[j].op=3∨c[j].op=23∨c[j].op=24:=by
    unfold Lc at hit
    by_cases c3:c[j].op=3∨c[j].op=23∨c[j].op=24
    ·exact c3
    ·rw[if_neg c3] at hit
     exact absurd (by simpa using hit) hs
   refine⟨agj hnb hxb (heb e he) (hlk e he) hcb htb c hc _ (List.getElem_mem hj) hop,avv _ ?_⟩
   unfold Lc at hit
   rw[if_pos hop] at hit
   exact hit
theorem Y6 (G:List Int) (a j:Nat) (v:Int) (ha:a<G.length):(G.set a v).getD j 0=if j=a then v else G.getD j 0:=by
 rw[List.getD_eq_getElem?_getD,List.getD_eq_getElem?_getD]
 by_cases c:j=a
 ·subst c
  rw[if_pos rfl,List.getElem?_set_self ha]
  rfl
 ·rw[if_neg c,List.getElem?_set_ne (fun h=>c h.symm)]
theorem aw1 (G:List Int) (a:Nat) (v:Int) (ha:a<G.length) (h1:G.getD a 0 = -1) (hv:v ≠ -1):(G.set a v).countP (fun m=>m == -1)+1=G.countP (fun m=>m == -1):=by
 induction G generalizing a with
 | nil=>simp at ha
 | cons m r ih =>
  cases a with
  | zero =>
   have hm:m = -1:=by simpa using h1
   have hvv:(v == -1)=false:=by rw[beq_eq_false_iff_ne];exact hv
   rw[List.set_cons_zero,List.countP_cons,List.countP_cons,hm,hvv]
   simp
  | succ a =>
   have h9:=ih a (by simpa using ha) (by simpa using h1)
   rw[List.set_cons_succ,List.countP_cons,List.countP_cons]
   omega
theorem ate {vs:List gy} {e:Int} (he:e ≠ -1):∀(names:List ByteArray) (G:List Int),G.length=vs.length->(zu vs G names e).2=true ->
  (∀j,(zu vs G names e).1.getD j 0=if (∃s,s∈names∧jc vs s=j) then e else G.getD j 0)∧(zu vs G names e).1.countP (fun m=>m == -1)+names.length=G.countP (fun m=>m == -1)∧(∀s,s∈names->G.getD (jc vs s) 0 = -1):=by
 intro names
 induction names with
 | nil =>
  intro G hG h
  exact⟨fun j=>by rw[if_neg (by simp)];rfl,rfl,fun s hs=>by cases hs⟩
 | cons n r ih =>
  intro G hG h
  unfold zu at h ⊢
  by_cases c:jc vs n<vs.length∧G.getD (jc vs n) 0 = -1
  ·rw[if_pos c] at h ⊢
   have hl:jc vs n<G.length:=by rw[hG];exact c.1
   obtain⟨h1,h2,h3⟩:=ih (G.set (jc vs n) e) (by rw[List.length_set];exact hG) h
   refine⟨fun j=>?_,?_,fun s hs=>?_⟩
   ·rw[h1 j,Y6 G _ j e hl]
    by_cases c1:∃s,s∈r∧jc vs s=j
    ·obtain⟨s,hs,hj⟩:=c1
     rw[if_pos ⟨s,hs,hj⟩,if_pos ⟨s,List.mem_cons_of_mem _ hs,hj⟩]
    ·rw[if_neg c1]
     by_cases c2:j=jc vs n
     ·rw[if_pos c2,if_pos ⟨n,List.mem_cons_self,c2.symm⟩]
     ·rw[if_neg c2,if_neg]
      rintro⟨s,hs,hj⟩
      rcases List.mem_cons.1 hs with rfl|hs
      ·exact c2 hj.symm
      ·exact c1 ⟨s,hs,hj⟩
   ·have h4:=aw1 G _ e hl c.2 he
    rw[List.length_cons]
    omega
   ·rcases List.mem_cons.1 hs with rfl|hs
    ·exact c.2
    ·have h5:=h3 s hs
     rw[Y6 G _ _ e hl] at h5
     by_cases c2:jc vs s=jc vs n
     ·rw[if_pos c2] at h5;exact absurd h5 he
     ·rw[if_neg c2] at h5;exact h5
  ·rw[if_neg c] at h
   cases h
structure GI (x:ay) (G:List Int) (k:Nat):Prop where
 len:G.length=(aj x).length
 inp:∀j,j<(aj x).length->j<x.ins.length->G.getD j 0 = -2
 giv:∀j (hj:j<(aj x).length),∀v:Nat,G.getD j 0=(v:Int)↔∃hv:v<x.eqs.length,v<k∧(aj x)[j].name∈x.eqs[v].lhs
 non:∀j (hj:j<(aj x).length),x.ins.length<=j->(G.getD j 0 = -1↔(aj x)[j].name∉wu x.eqs k)
 cnt:G.countP (fun m=>m == -1)+(wu x.eqs k).length=x.outs.length+x.vars.length
theorem GI.start (x:ay):GI x (qx x) 0:=by
 have hal:(aj x).length=x.ins.length+(x.outs.length+x.vars.length):=by
  unfold aj
  simp
 have hg:∀j,j<(aj x).length->(qx x).getD j 0=if j<x.ins.length then -2 else -1:=fun j hj=>by
  unfold qx
  rw[List.getD_eq_getElem?_getD]
  by_cases c:j<x.ins.length
  ·rw[if_pos c,List.getElem?_append_left (by simpa using c),List.getElem?_replicate,if_pos c]
   rfl
  ·rw[if_neg c,List.getElem?_append_right (by simp;omega),List.getElem?_replicate,if_pos (by simp;omega)]
   rfl
 refine⟨adf x,fun j hj h=>by rw[hg j hj,if_pos h],fun j hj v=>?_,fun j hj h=>?_,?_⟩
 ·constructor
  ·intro h
   rw[hg j hj] at h
   split at h<;>omega
  ·rintro⟨_,h,_⟩;omega
 ·rw[hg j hj,if_neg (by omega)]
  simp[wu]
 ·unfold qx wu
  rw[List.countP_append,List.countP_replicate,List.countP_replicate]
  simp
theorem GI.step {x:ay} {G:List Int} {k:Nat} (h:GI x G k) (hk:k<x.eqs.length) (hd:(zu (aj x) G x.eqs[k].lhs k).2=true) (hdup:∀j (hj:j<(aj x).length),jc (aj x) (aj x)[j].name=j):GI x (zu (aj x) G x.eqs[k].lhs k).1 (k+1):=by
 obtain⟨h1,h2,h3⟩:=ate (vs:=aj x) (e:=(k:Int)) (by omega) x.eqs[k].lhs G h.len hd
 have hlk:=aap hd
 have hmem:∀j (hj:j<(aj x).length),(∃s,s∈x.eqs[k].lhs∧jc (aj x) s=j)↔(aj x)[j].name∈x.eqs[k].lhs:=fun j hj=>by
  constructor
  ·rintro⟨s,hs,rfl⟩
   rw[Ux (aj x) s hj]
   exact hs
  ·intro h9
   exact⟨_,h9,hdup j hj⟩
 have hold:∀j (hj:j<(aj x).length),(aj x)[j].name∈x.eqs[k].lhs->G.getD j 0 = -1:=fun j hj h9=>by
  have h8:=h3 _ h9
  rw[hdup j hj] at h8
  exact h8
 have hsn:wu x.eqs (k+1)=wu x.eqs k++x.eqs[k].lhs:=by
  rw[wu,List.getElem?_eq_getElem hk]
 refine⟨by rw[ai0];exact h.len,fun j hj hi=>?_,fun j hj v=>?_,fun j hj hi=>?_,?_⟩
 ·rw[h1 j,if_neg]
  ·exact h.inp j hj hi
  ·intro h9
   have h8:=hold j hj ((hmem j hj).1 h9)
   rw[h.inp j hj hi] at h8
   cases h8
 ·rw[h1 j]
  by_cases c:∃s,s∈x.eqs[k].lhs∧jc (aj x) s=j
  ·rw[if_pos c]
   have hin:=(hmem j hj).1 c
   have hm1:=hold j hj hin
   constructor
   ·intro hv
    have e:k=v:=by omega
    subst e
    exact⟨hk,by omega,hin⟩
   ·rintro⟨hv,h5,h6⟩
    by_cases c2:v<k
    ·have h7:=(h.giv j hj v).2 ⟨hv,c2,h6⟩
     rw[hm1] at h7
     omega
    ·have e:v=k:=by omega
     rw[e]
  ·rw[if_neg c,h.giv j hj v]
   constructor
   ·rintro⟨hv,h5,h6⟩;exact⟨hv,by omega,h6⟩
   ·rintro⟨hv,h5,h6⟩
    by_cases c2:v<k
    ·exact⟨hv,c2,h6⟩
    ·have e:v=k:=by omega
     subst e
     exact absurd ((hmem j hj).2 h6) c
 ·rw[h1 j,hsn,List.mem_append,not_or]
  by_cases c:∃s,s∈x.eqs[k].lhs∧jc (aj x) s=j
  ·rw[if_pos c]
   have hin:=(hmem j hj).1 c
   constructor
   ·intro h9;omega
   ·intro h9;exact absurd hin h9.2
  ·rw[if_neg c,h.non j hj hi]
   constructor
   ·intro h9;exact⟨h9,fun h8=>c ((hmem j hj).2 h8)⟩
   ·intro h9;exact h9.1
 ·rw[hsn,List.length_append]
  have:=h.cnt
  omega
theorem aw2 {x:ay} (k:Int) (hk0:k ≠ -1) (seen:List ByteArray):∀(lhs:List ByteArray) (pre:List ByteArray) (G:List Int),G.length=(aj x).length->(∀j (hj:j<(aj x).length),j<x.ins.length->G.getD j 0 ≠ -1)->(∀j (hj:j<(aj x).length),x.ins.length<=j->(G.getD j 0 = -1↔(aj x)[j].name∉seen++pre))->(∀j (hj:j<(aj x).length),jc (aj x) (aj x)[j].name=j) ->
  ((zu (aj x) G lhs k).2=true↔∀m (hm:m<lhs.length),(x.ins.length:Int)<=uq (aj x) lhs[m]∧lhs[m]∉seen++(pre++lhs.take m)):=by
 intro lhs
 induction lhs with
 | nil=>intro pre G _ _ _ _;exact⟨fun _ m hm=>by simp at hm,fun _=>rfl⟩
 | cons n r ih =>
  intro pre G hG hI hN hD
  have key:(jc (aj x) n<(aj x).length∧G.getD (jc (aj x) n) 0 = -1)↔((x.ins.length:Int)<=uq (aj x) n∧n∉seen++pre):=by
   unfold uq
   constructor
   ·rintro⟨h1,h2⟩
    rw[if_pos h1]
    have h3:x.ins.length<=jc (aj x) n:=by
     rcases Nat.lt_or_ge (jc (aj x) n) x.ins.length with h|h
     ·exact absurd h2 (hI _ h1 h)
     ·exact h
    refine⟨by omega,?_⟩
    have h4:=(hN _ h1 h3).1 h2
    rw[Ux _ n h1] at h4
    exact h4
   ·rintro⟨h1,h2⟩
    by_cases h3:jc (aj x) n<(aj x).length
    ·rw[if_pos h3] at h1
     refine⟨h3,(hN _ h3 (by omega)).2 ?_⟩
     rw[Ux _ n h3]
     exact h2
    ·rw[if_neg h3] at h1
     omega
  unfold zu
  by_cases c:jc (aj x) n<(aj x).length∧G.getD (jc (aj x) n) 0 = -1
  ·rw[if_pos c]
   have hl:jc (aj x) n<G.length:=by rw[hG];exact c.1
   rw[ih (pre++[n]) (G.set (jc (aj x) n) k) (by rw[List.length_set];exact hG) (fun j hj hi=>?_) (fun j hj hi=>?_) hD]
   ·constructor
    ·intro h m hm
     cases m with
     | zero =>
      obtain⟨k1,k2⟩:=key.1 c
      exact⟨k1,by simpa using k2⟩
     | succ m =>
      have h9:=h m (by simpa using hm)
      rw[List.append_assoc] at h9
      exact h9
    ·intro h m hm
     have h9:=h (m+1) (by simpa using hm)
     rw[List.append_assoc]
     exact h9
   ·rw[Y6 G _ j k hl]
    split
    ·exact hk0
    ·exact hI j hj hi
   ·rw[Y6 G _ j k hl]
    by_cases c2:j=jc (aj x) n
    ·rw[if_pos c2]
     subst c2
     constructor
     ·intro h;exact absurd h hk0
     ·intro h
      exfalso
      apply h
      rw[Ux _ n hj]
      simp
    ·rw[if_neg c2,hN j hj hi]
     have hne:(aj x)[j].name≠n:=fun e=>c2 (by rw[←e];exact(hD j hj).symm)
     rw[←List.append_assoc]
     simp[hne]
  ·rw[if_neg c]
   constructor
   ·intro h;cases h
   ·intro h
    have h9:=h 0 (by simp)
    exact absurd (key.2 ⟨h9.1,by simpa using h9.2⟩) c
theorem agp (vs:List gy) (e:qg) (its Fv:List Int) (ck:List cu):Iw vs e its Fv ck=if (Ei vs (dw e) its (dw e).length&&Cm vs e.lhs Fv e.lhs.length)=false then 6 else if (Em vs e.lhs ck e.lhs.length&&E8 vs (dw e) ck (dw e).length)=false then 7 else 0:=by
 unfold Iw
 cases Ei vs (dw e) its (dw e).length<;>cases Cm vs e.lhs Fv e.lhs.length<;>cases Em vs e.lhs ck e.lhs.length<;>cases E8 vs (dw e) ck (dw e).length<;>rfl
theorem ay3 {ns:List ay} {i:Nat} {vs:List gy} {e:qg} (heb:Eb e=true):(if H9 ns i e=false then (5:Int) else if Kr ns i vs e=false then 6 else if Sv vs e=false then 7 else 0)=Aw ns i vs e:=by
 unfold Aw H9 Kr Sv
 have Tc:=heb
 unfold Eb at Tc
 simp only[Bool.and_eq_true,decide_eq_true_iff] at Tc
 by_cases g:e.call.size=0
 ·rw[if_pos g,if_pos g,if_pos g,if_neg (by simp),agp]
  rw[if_pos g] at Tc
  simp only[Bool.and_eq_true,decide_eq_true_iff] at Tc
  have hl1:e.lhs.length=1:=Tc.2.1.1
  have Y4:dw e=[e.code]:=by unfold dw;rw[if_pos g]
  have ht:Ei vs (dw e) [(uj vs e).type] (dw e).length=(Nc vs e.code == (uj vs e).type):=by
   rw[Y4]
   show (true&&_)=_
   rw[Bool.true_and]
   rfl
  have ho:Cm vs e.lhs [(uj vs e).type] e.lhs.length=true:=by
   match hq:e.lhs,hl1 with
   | [s],_ =>
    show (true&&((jg vs s).type == (uj vs e).type))=true
    unfold uj
    rw[hq]
    simp
  rw[ht,ho,Bool.and_true]
 ·rw[if_neg g,if_neg g,if_neg g]
  have Y4:dw e=e.args:=by unfold dw;rw[if_neg g]
  cases hq:ns[(jh ns i e.call).toNat]? with
  | none=>rfl
  | some gn =>
   simp only
   by_cases c:jh ns i e.call<0∨gn.ins.length≠e.args.length∨gn.outs.length≠e.lhs.length
   ·rw[if_pos c,if_pos (decide_eq_false (fun h=>h c))]
   ·rw[if_neg c,if_neg (by rw[decide_eq_true c];simp),agp,Y4]
theorem alb {p q:Nat->Bool}:∀{n:Nat},(∀k,k<n->(∀j,j<k->p j=false)->p k=q k)->firstTo p n=firstTo q n:=by
 intro n
 induction n with
 | zero=>intro _;rfl
 | succ n ih =>
  intro h
  have e1:=ih (fun k hk=>h k (by omega))
  unfold firstTo
  rw[←e1]
  cases hp:firstTo p n with
  | some k=>rfl
  | none =>
   have hno:∀j,j<n->p j=false:=fun j hj=>by
    cases hj2:p j with
    | false=>rfl
    | true =>
     have h9:=first_some hj hj2
     rw[hp] at h9
     cases h9
   rw[h n (by omega) hno]
theorem Uy {p:Nat->Bool}:∀{n k:Nat},firstTo p n=some k->k<n∧p k=true∧∀j,j<k->p j=false:=by
 intro n
 induction n with
 | zero=>intro k h;cases h
 | succ n ih =>
  intro k h
  unfold firstTo at h
  cases hp:firstTo p n with
  | some m =>
   rw[hp] at h
   simp only[Option.some.injEq] at h
   subst h
   obtain⟨h1,h2,h3⟩:=ih hp
   exact⟨by omega,h2,h3⟩
  | none =>
   rw[hp] at h
   simp only at h
   split at h
   ·rename_i hn
    simp only[Option.some.injEq] at h
    subst h
    refine⟨by omega,hn,fun j hj=>?_⟩
    cases hj2:p j with
    | false=>rfl
    | true =>
     have h9:=first_some hj hj2
     rw[hp] at h9
     cases h9
   ·cases h
theorem Nq {p:Nat->Bool} {n:Nat} (h:firstTo p n=none):∀j,j<n->p j=false:=fun j hj=>by
 cases hj2:p j with
 | false=>rfl
 | true =>
  have h9:=first_some hj hj2
  rw[h] at h9
  cases h9
theorem amc {vs:List gy} (h:firstTo (I4 vs) vs.length=none):∀j (hj:j<vs.length),jc vs vs[j].name=j:=fun j hj=>by
 have h1:=Nq h j hj
 rw[ajb vs j hj] at h1
 have h2:=of_decide_eq_false h1
 have h3:=aas vs j hj
 omega
theorem ajc {ns:List ay} {i:Nat} {x:ay} (hdup:∀j (hj:j<(aj x).length),jc (aj x) (aj x)[j].name=j):∀k,k<=x.eqs.length->(∀j,j<k->Lp ns i x (qx x) j=0)->GI x (ru x (qx x) k) k:=by
 intro k
 induction k with
 | zero=>intro _ _;exact GI.start x
 | succ k ih =>
  intro hk h
  have h1:=ih (by omega) (fun j hj=>h j (by omega))
  have h2:=h k (by omega)
  rw[Ye _ _ _ _ _ (by omega)] at h2
  have h3:=h1.step (by omega) (Tj h2).1 hdup
  rw[ru,List.getElem?_eq_getElem (by omega)]
  exact h3
theorem afd {ns:List ay} {i:Nat} {x:ay} (hxb:qw x=true) (hdup:∀j (hj:j<(aj x).length),jc (aj x) (aj x)[j].name=j) (k:Nat) (hk:k<x.eqs.length) (h:∀j,j<k->Lp ns i x (qx x) j=0):Lp ns i x (qx x) k=Dz ns i x k:=by
 have hg:=ajc hdup k (by omega) h
 have heb:Eb x.eqs[k]=true:=List.all_eq_true.1 ((yg x).1 hxb).2.2.2.2.2 _ (List.getElem_mem hk)
 rw[Ye _ _ _ _ _ hk,avq ns i x k hk]
 have hiff:=aw2 (x:=x) (k:Int) (by omega) (wu x.eqs k) x.eqs[k].lhs [] (ru x (qx x) k) hg.len (fun j hj hi=>by rw[hg.inp j hj hi];decide) (fun j hj hi=>by rw[List.append_nil];exact hg.non j hj hi) hdup
 unfold eqV
 cases hd:(zu (aj x) (ru x (qx x) k) x.eqs[k].lhs k).2 with
 | false =>
  rw[if_pos rfl,if_pos]
  cases hf:firstTo (Oz (aj x) x.ins.length (wu x.eqs k) x.eqs[k].lhs) x.eqs[k].lhs.length with
  | some m=>rfl
  | none =>
   exfalso
   have hall:=hiff.2 (fun m hm=>by
    have h9:=Nq hf m hm
    rw[aif _ _ _ _ _ hm,Bool.or_eq_false_iff] at h9
    refine⟨by have:=of_decide_eq_false h9.1;omega,fun h8=>?_⟩
    rw[List.nil_append] at h8
    rw[(abp _ _).2 h8] at h9
    cases h9.2)
   rw[hd] at hall
   cases hall
 | true =>
  have hnone:(firstTo (Oz (aj x) x.ins.length (wu x.eqs k) x.eqs[k].lhs) x.eqs[k].lhs.length).isSome=false:=by
   rw[zk]
   ·rfl
   ·intro m hm
    obtain⟨h1,h2⟩:=hiff.1 hd m hm
    rw[aif _ _ _ _ _ hm,decide_eq_false (by omega),Bool.false_or]
    cases hb:inB (wu x.eqs k++x.eqs[k].lhs.take m) x.eqs[k].lhs[m] with
    | false=>rfl
    | true=>exact absurd ((abp _ _).1 hb) (by rw[List.nil_append] at h2;exact h2)
  rw[hnone,if_neg (show ¬(true=false) by simp),if_neg (show ¬(false=true) by simp)]
  exact ay3 heb
theorem aw3 {x:ay} {G:List Int} (h:GI x G x.eqs.length):Vh (aj x).length G x.eqs.length=if (wu x.eqs x.eqs.length).length≠x.outs.length+x.vars.length then (4,(x.eqs.length:Int)) else (0,0):=by
 unfold Vh
 have hc:=h.cnt
 by_cases c:(wu x.eqs x.eqs.length).length≠x.outs.length+x.vars.length
 ·rw[if_pos c]
  have hpos:0<G.countP (fun m=>m == -1):=by omega
  obtain⟨m,hm,hm1⟩:=List.countP_pos_iff.1 hpos
  obtain⟨k,hk,rfl⟩:=List.mem_iff_getElem.1 hm
  have h9:(firstTo (fun k=>G.getD k 0 == -1) (aj x).length).isSome=true:=first_some (k:=k) (by rw[←h.len];exact hk) (by
   rw[List.getD_eq_getElem?_getD,List.getElem?_eq_getElem hk]
   exact hm1)
  cases hq:firstTo (fun k=>G.getD k 0 == -1) (aj x).length with
  | none=>rw[hq] at h9;cases h9
  | some k=>rfl
 ·rw[if_neg c,zk]
  intro j hj
  cases hb:(G.getD j 0 == -1) with
  | false=>rfl
  | true =>
   exfalso
   have hjl:j<G.length:=by rw[h.len];exact hj
   have hpos:0<G.countP (fun m=>m == -1):=List.countP_pos_iff.2 ⟨G[j],List.getElem_mem hjl,by
    rw[List.getD_eq_getElem?_getD,List.getElem?_eq_getElem hjl] at hb
    exact hb⟩
   omega
def Pt (E:Nat->Nat->Prop):Nat->Nat->Nat->Prop
 | 0,a,b=>E a b
 | k+1,a,b=>Pt E k a b∨(Pt E k a k∧Pt E k k b)
theorem aw5 {E:Nat->Nat->Prop}:∀k a b c,c<k->Pt E k a c->Pt E k c b->Pt E k a b:=by
 intro k
 induction k with
 | zero=>intro a b c hc;omega
 | succ k ih =>
  intro a b c hc h1 h2
  by_cases e:c=k
  ·subst e
   have g1:Pt E c a c:=by rcases h1 with h|h;exact h;exact h.1
   have g2:Pt E c c b:=by rcases h2 with h|h;exact h;exact h.2
   exact Or.inr ⟨g1,g2⟩
  ·have hck:c<k:=by omega
   rcases h1 with h1|⟨h1,h1'⟩
   ·rcases h2 with h2|⟨h2,h2'⟩
    ·exact Or.inl (ih a b c hck h1 h2)
    ·exact Or.inr ⟨ih a k c hck h1 h2,h2'⟩
   ·rcases h2 with h2|⟨h2,h2'⟩
    ·exact Or.inr ⟨h1,ih k b c hck h1' h2⟩
    ·exact Or.inr ⟨h1,h2'⟩
theorem avw {E:Nat->Nat->Prop} {a b:Nat} (h:E a b):∀k,Pt E k a b:=by
 intro k
 induction k with
 | zero=>exact h
 | succ k ih=>exact Or.inl ih
theorem avx {E:Nat->Nat->Prop} {n:Nat} (hE:∀a b,E a b->a<n∧b<n) {a b:Nat} (h:Tg E a b):Pt E n a b:=by
 induction h using Tg.ind with
 | one h=>exact avw h n
 | snoc h k ih=>exact aw5 n _ _ _ (hE _ _ k).1 ih (avw k n)
theorem aea (k i j:Nat) (M:Il) {a b:Nat} (h:M a b=true):Iq k i j M a b=true:=by
 unfold Iq
 split
 ·unfold upd;rw[h];rfl
 ·exact h
theorem abq (k i:Nat) (M:Il):∀n {a b:Nat},M a b=true->wJ k i M n a b=true:=by
 intro n
 induction n with
 | zero=>intro a b h;exact h
 | succ n ih=>intro a b h;unfold wJ;exact aea _ _ _ _ (ih h)
theorem ay4 (k i:Nat) (M:Il):∀n {b:Nat},b<n->M i k=true->M k b=true->wJ k i M n i b=true:=by
 intro n
 induction n with
 | zero=>intro b hb;omega
 | succ n ih =>
  intro b hb h1 h2
  unfold wJ
  by_cases c:b=n
  ·subst c
   unfold Iq
   rw[abq k i M b h1,abq k i M b h2]
   simp[upd]
  ·exact aea _ _ _ _ (ih (by omega) h1 h2)
theorem afe (N k:Nat) (M:Il):∀n {a b:Nat},M a b=true->wI N k M n a b=true:=by
 intro n
 induction n with
 | zero=>intro a b h;exact h
 | succ n ih=>intro a b h;unfold wI;exact abq _ _ _ _ (ih h)
theorem ay5 (N k:Nat) (M:Il):∀n {a b:Nat},a<n->b<N->M a k=true->M k b=true->wI N k M n a b=true:=by
 intro n
 induction n with
 | zero=>intro a b ha;omega
 | succ n ih =>
  intro a b ha hb h1 h2
  unfold wI
  by_cases c:a=n
  ·subst c
   exact ay4 _ _ _ _ hb (afe N k M a h1) (afe N k M a h2)
  ·exact abq _ _ _ _ (ih (by omega) hb h1 h2)
theorem avy (N:Nat) (M:Il):∀k,k<=N->∀a b,a<N->b<N->Pt (fun a b=>M a b=true) k a b->wK N M k a b=true:=by
 intro k
 induction k with
 | zero=>intro _ a b _ _ h;exact h
 | succ k ih =>
  intro hk a b ha hb h
  unfold wK
  rcases h with h|⟨h1,h2⟩
  ·exact afe _ _ _ _ (ih (by omega) a b ha hb h)
  ·exact ay5 _ _ _ _ ha hb (ih (by omega) a k ha (by omega) h1) (ih (by omega) k b (by omega) hb h2)
theorem atf {E:Nat->Nat->Prop} {k i j:Nat} {M:Il} (h:∀a b,M a b=true->Tg E a b):∀a b,Iq k i j M a b=true->Tg E a b:=by
 intro a b h1
 unfold Iq at h1
 split at h1
 ·rename_i hc
  rw[Bool.and_eq_true] at hc
  unfold upd at h1
  rw[Bool.or_eq_true] at h1
  rcases h1 with h1|h1
  ·exact h a b h1
  ·rw[Bool.and_eq_true,beq_iff_eq,beq_iff_eq] at h1
   rw[h1.1,h1.2]
   exact(h _ _ hc.1).trans (h _ _ hc.2)
 ·exact h a b h1
theorem a03 {E:Nat->Nat->Prop} {k i:Nat} {M:Il} (h:∀a b,M a b=true->Tg E a b):∀n a b,wJ k i M n a b=true->Tg E a b:=by
 intro n
 induction n with
 | zero=>exact h
 | succ n ih=>intro a b h1;unfold wJ at h1;exact atf ih a b h1
theorem a04 {E:Nat->Nat->Prop} {N k:Nat} {M:Il} (h:∀a b,M a b=true->Tg E a b):∀n a b,wI N k M n a b=true->Tg E a b:=by
 intro n
 induction n with
 | zero=>exact h
 | succ n ih=>intro a b h1;unfold wI at h1;exact a03 ih N a b h1
theorem a05 {E:Nat->Nat->Prop} {N:Nat} {M:Il} (h:∀a b,M a b=true->Tg E a b):∀n a b,wK N M n a b=true->Tg E a b:=by
 intro n
 induction n with
 | zero=>exact h
 | succ n ih=>intro a b h1;unfold wK at h1;exact a04 ih N a b h1
theorem ajd (M:Il) (n:Nat):diag M n=true↔∃u,u<n∧M u u=true:=by
 induction n with
 | zero=>simp[diag]
 | succ n ih =>
  unfold diag
  rw[Bool.or_eq_true,ih]
  constructor
  ·rintro(⟨u,h1,h2⟩|h)
   ·exact⟨u,by omega,h2⟩
   ·exact⟨n,by omega,h⟩
  ·rintro⟨u,h1,h2⟩
   by_cases c:u=n
   ·subst c;exact Or.inr h2
   ·exact Or.inl ⟨u,by omega,h2⟩
end Go.Proofs.YtflcnhfakcgkeaaGreat
