import Derived.Test.YtflcnhfakcgkeaaGreatApp
import Derived.Test.YtflcnhfakcgkeaaGreatOwnF
import Derived.Test.YtflcnhfakcgkeaaGreatCS11
import Derived.Test.YtflcnhfakcgkeaaGreatOwn
import Derived.Test.YtflcnhfakcgkeaaGreatCS6
import Derived.Test.YtflcnhfakcgkeaaGreatWI1
namespace Go.Proofs.YtflcnhfakcgkeaaGreat
open Go.RowKit
set_option linter.unusedSimpArgs false
set_option linter.unusedVariables false
def un (_:eu) (_:List Unit):Unit:=()
def a2h (w:World) (g:Nat) (xs:List eu):Prop:=∃cs,dh w g 3 cs∧∀i,i<xs.length->∃b s,Fd un xs b (i+1) [s]∧cs[i]?=some (.int .i64 (b:Nat))
theorem anp:Tryz.prog.underlying 26=some (.slice 3):=by kernel_rfl
theorem as3:(Tryz.prog.info? 3).map (fun i=>(i.zero,i.size,i.bytes))=some (some (.int .i64 0),1,8):=by kernel_rfl
set_option maxHeartbeats 2000000 in
theorem ag0 (xs:List eu) (v:Value) (w:World) (hv:bf 3 32 jw 0 w v xs) (hwk:wk xs 0=true) (hl:xs.length<=3000) :
  Calls Tryz.prog 85 #[v] w fun e w'=>∃g,e=.returned (.slice (some ⟨g,0,none⟩) xs.length xs.length)∧w.heap.size<=g∧a2h w' g xs∧Below w.heap.size w w':=by
 obtain⟨a,cap,rfl,_,hn,hx⟩:=hv
 unfold Len at hn
 have HX:=hide hx
 have HW:=hide hwk
 clear hx hwk
 go_enter Tryz.func85,Tryz.ntmps85
 go_wp2_with (at_make;go_must (refine wpList_make_row w rfl _ _ 26 rfl 3 _ _ anp as3 (by decide) _ xs.length rfl rfl rfl (by omega) ?_))
 intro wA cs0 hrow0 hsz0 hbA
 have HR0:=hide hrow0
 have J3:=hide hsz0
 have Og:=hide hbA
 have hsA:=hbA.size
 clear hrow0 hsz0 hbA
 go_wp2
 go_loopg [12] xs.length (fun gh i wr=>∃(k:Nat),k<=xs.length∧gh=xs.length-k∧i=.int .i64 k∧Below w.heap.size w wr ∧
  ∃cs,dh wr w.heap.size 3 cs∧cs.size=xs.length∧∀i,i<k->∃b s,Fd un xs b (i+1) [s]∧cs[i]?=some (.int .i64 (b:Nat)))
 case atStart=>exact⟨0,Nat.zero_le _,by omega,rfl,uh Og,cs0,uh HR0,uh J3,fun i hi=>absurd hi (Nat.not_lt_zero _)⟩
 case round =>
  obtain⟨k,hk,hg,rfl,hbl,cs1,hrow,hsz,hcs1⟩:=hrel
  rename World=>wN
  have HG:=hide hg
  have Py:=hide hrow
  have HSZ:=hide hsz
  have Ak:=hide hcs1
  have hgl:=hrow.lt
  clear hg hrow hsz hcs1
  by_cases hlt:k<xs.length
  ·obtain⟨b,o,cs,rfl,_,hb,hcs,hc,hR⟩:=uh HX k hlt
   have hc:∀j (hj:j<cs.length),wN.cell? ⟨b,o+k*3+j,none⟩=some cs[j]:=fun j hj=>by rw[hbl.cell (p:=⟨b,_,none⟩) hb];exact hc j hj
   obtain⟨rfl,hsn,ho,hvl⟩:=hR
   have c0:=hc 0 (by simp)
   have c1:=hc 1 (by simp)
   have c2:=hc 2 (by simp)
   simp only[Nat.mul_one,Nat.add_zero,List.getElem_cons_zero,List.getElem_cons_succ] at c0 c1 c2
   obtain⟨b0,s0,as4⟩:=ap1 un (uh HW) k hlt
   obtain⟨_,us,hus,pz,_⟩:=as4.last
   have a2i:=hide as4
   have Me:=hide hus
   have hbd:=Gh xs[k].op
   have har:((Af xs[k].op:Nat):Int)=G5 xs[k].op:=by unfold Af;omega
   have Jh:=hide (fun w=>Ll xs[k].op w)
   rw[←har] at Jh
   have hn3:Af xs[k].op<=3:=by omega
   clear hc hcs ho hvl hsn har hbd as4 hus
   generalize Af xs[k].op=n at *
   generalize xs[k].op=op at *
   generalize xs[k].val=val at *
   generalize xs[k].name=nm at *
   go_wp2_with fail
   refine(uh Jh _).mono ?_
   rintro e w1 ⟨rfl,h9⟩
   have HB1:Hid (Below wN.heap.size wN w1):=by
    subst h9
    exact(Below.refl _ _).alloc (Nat.le_refl _) _
   have hs1:=(uh HB1).size
   have HR1:=hide ((uh Py).below (uh HB1) hgl)
   clear h9 Jh
   go_wp2
   go_loopg [6,21] n (fun gh bg i wr=>∃(j m:Nat) (u1 u2:List Unit),j<=n∧gh=n-j∧i=.int .i64 j∧bg=.int .i64 m∧us=u1++u2∧u2.length=j∧Fd un xs b0 m u1∧m<=k∧wr=w1)
   case atStart=>exact⟨0,k,us,[],Nat.zero_le _,by omega,rfl,rfl,by simp,rfl,uh Me,Nat.le_refl _,rfl⟩
   case round =>
    obtain⟨j,m,u1,u2,hj,hgj,rfl,rfl,hsp,hu2,hch,hmk,rfl⟩:=hrel
    have Oe:=hide hgj
    have ach:u1.length+u2.length=n:=by rw[←List.length_append,←hsp];exact pz
    have Qs:=hide hsp
    have HCH:=hide hch
    clear hgj hsp hch
    by_cases hjn:j<n
    ·obtain⟨m1,v1,v2,e1,hv2,d1,d2⟩:=(uh HCH).split 1 (by omega)
     obtain⟨_,q,_,_,_,hq,_,_,_,_,_⟩:=d2.Sj (n:=0) hv2
     subst hq
     have HD1:=hide d1
     have hm1:=d2.le
     obtain⟨b2,s2,hb2,hcell⟩:=uh Ak q (by omega)
     have hmm:b2=m1:=(Fd.one _ _ _ _ _ hb2 d2 (by rw[hv2];rfl)).1
     subst hmm
     have cq:=(uh HR1).cell hcell
     have Na:Hid (us=v1++(v2++u2)):=by
      show us=v1++(v2++u2)
      rw[uh Qs,e1,List.append_assoc]
     clear e1 d1 d2 hb2 hcell
     go_wp2
     go_roundg (n-(j+1))
     case measure=>have:=uh Oe;omega
     case rel=>exact⟨j+1,b2,v1,v2++u2,by omega,rfl,by go_num,rfl,uh Na,by rw[List.length_append];omega,uh HD1,by omega,rfl⟩
    ·have e0:u1=[]:=List.eq_nil_of_length_eq_zero (by omega)
     subst e0
     have hm:b0=m:=(Fd.one _ _ _ _ _ (uh HCH) (.nil m) rfl).1
     subst hm
     have hks:k<cs1.size:=by rw[uh HSZ];exact hlt
     have ck:=(uh HR1).cell (i:=k) (v:=cs1[k]) (by simp[hks])
     have fk:=(uh HR1).free k
     have HRZ:Hid (∀i,i<k+1->∃b s,Fd un xs b (i+1) [s]∧(cs1.setIfInBounds k (.int .i64 (b0:Nat)))[i]?=some (.int .i64 (b:Nat))):=by
      show ∀i,i<k+1->∃b s,Fd un xs b (i+1) [s]∧(cs1.setIfInBounds k (.int .i64 (b0:Nat)))[i]?=some (.int .i64 (b:Nat))
      intro i hi
      by_cases hik:i=k
      ·subst hik
       exact⟨b0,s0,uh a2i,by simp[hks]⟩
      ·obtain⟨b3,s3,h3,h4⟩:=uh Ak i (by omega)
       exact⟨b3,s3,h3,by rw[Array.getElem?_setIfInBounds_ne (by omega)];exact h4⟩
     generalize cs1[k]=old at *
     go_wp2
     go_roundg (xs.length-(k+1))
     case measure=>have:=uh HG;omega
     case rel=>exact⟨k+1,by omega,rfl,by go_num,((uh HB1).mono hbl.size |> hbl.trans).setCell (Nat.le_refl _) _,_,(uh HR1).set k _,by simp[uh HSZ],uh HRZ⟩
  ·have e:k=xs.length:=by omega
   subst e
   go_wp2
   go_ret
   exact⟨_,rfl,Nat.le_refl _,⟨cs1,uh Py,uh Ak⟩,hbl⟩
structure Turn (lo:Nat) (w:World) (L:List cu->Option Nat) (w':World) (L':List cu->Option Nat):Prop where
 os:w'.os=w.os
 tape:w'.tape=w.tape
 output:w'.output=w.output
 size:w.heap.size<=w'.heap.size
 low:∀x,x<lo->w'.heap[x]?=w.heap[x]?
 block:∀x,x<w.heap.size->(∀cs,¬dh w x 112 cs)->(∀ks,L ks≠some x)->(∀cs,¬dh w x 73 cs)->w'.heap[x]?=w.heap[x]?
 ln:∀k q,L' k=some q->L k=some q∨w.heap.size<=q
theorem Turn.refl (lo:Nat) (w:World) (L:List cu->Option Nat):Turn lo w L w L:=⟨rfl,rfl,rfl,Nat.le_refl _,fun _ _=>rfl,fun _ _ _ _ _=>rfl,fun _ _ h=>Or.inl h⟩
theorem Turn.al9 {lo:Nat} {w w':World} {C L C' L':List cu->Option Nat} (g:Grow lo w C L w' C' L'):Turn lo w L w' L':=⟨g.keep.os,g.keep.tape,g.keep.output,g.keep.size,g.keep.low,fun x h1 h2 h3 _=>g.keep.block x h1 h2 h3,g.ln⟩
theorem Turn.of_below {lo:Nat} {w w':World} {L:List cu->Option Nat} (h:Below w.heap.size w w') (hlo:lo<=w.heap.size):Turn lo w L w' L:=⟨h.os,h.tape,h.output,h.size,fun x hx=>h.block x (by omega),fun x h1 _ _ _=>h.block x h1,fun _ _ h=>Or.inl h⟩
theorem Turn.trans {lo:Nat} {w w1 w2:World} {L L1 L2:List cu->Option Nat} (h:Turn lo w L w1 L1) (k:Turn lo w1 L1 w2 L2):Turn lo w L w2 L2:=by
 refine⟨k.os.trans h.os,k.tape.trans h.tape,k.output.trans h.output,Nat.le_trans h.size k.size,fun x hx=>(k.low x hx).trans (h.low x hx),fun x hx h1 h2 h3=>?_,fun a q h1=>?_⟩
 ·have e:=h.block x hx h1 h2 h3
  refine(k.block x (Nat.lt_of_lt_of_le hx h.size) (fun cs h4=>h1 cs (e.symm.trans h4)) (fun ks h4=>?_) (fun cs h4=>h3 cs (e.symm.trans h4))).trans e
  rcases h.ln ks x h4 with h5|h5
  ·exact h2 ks h5
  ·omega
 ·rcases k.ln a q h1 with h2|h2
  ·exact h.ln a q h2
  ·exact Or.inr (Nat.le_trans h.size h2)
theorem Turn.blk {lo:Nat} {w w':World} {X:Nat->Prop} {C L L':List cu->Option Nat} {N:Nat} (g:Turn lo w L w' L') (h:Trie w lo X C L N) {b:Nat} {T:TypeId} {c:Value} {cs:List Value} (hb:dh w b T ⟨c::cs⟩) (hT:T≠112) (hU:T≠73):dh w' b T ⟨c::cs⟩ :=
 (g.block b hb.lt (fun cs'=>Et hb hT) (fun ks=>h.axp hb ks) (fun cs'=>Et hb hU)).trans hb
theorem Turn.setCell {lo:Nat} {w:World} {L:List cu->Option Nat} {db:Nat} {cs:Array Value} (hdb:dh w db 73 cs) (hlo:lo<=db) (j:Nat) (v:Value):Turn lo w L (w.setCell ⟨db,j,none⟩ v) L:=by
 have same:∀b,b≠db->(w.setCell ⟨db,j,none⟩ v).heap[b]?=w.heap[b]?:=fun b h1=>Below.heap_setCell _ _ _ _ (by simpa using h1)
 refine⟨rfl,rfl,rfl,by simp[World.setCell],fun x hx=>same x (by omega),fun x _ _ _ h3=>same x (fun e=>h3 cs (e▸hdb)),fun _ _ h=>Or.inl h⟩
theorem Sc.give {W w:World} {nv fz:Value} {vs:List gy} {G:List Int} {sb vb:Nat} {ov:Value} {D:List Nat} {C L:List cu->Option Nat} {N:Nat} (h:Sc W w nv fz vs G sb vb ov D C L N) (k:Nat) (hk:k<vs.length) (Yd:G.length=vs.length) (e:Int):Sc W (w.setCell ⟨D.getD k 0,4,none⟩ (.int .i64 e)) nv fz vs (G.set k e) sb vb ov D C L N:=by
 obtain⟨cv0,p0,hd0,hp0,hs0⟩:=h.decl k hk
 have hlo:=h.Zl k hk
 obtain⟨db,as5⟩:∃db,db=D.getD k 0:=⟨_,rfl⟩
 rw[←as5] at hd0 hlo ⊢
 have hdb:dh w db 73 ⟨[.string vs[k].name,.int .i64 vs[k].type,cv0,xk p0,.int .i64 (G.getD k 0),fz]⟩:=hd0
 have same:∀b,b≠db->(w.setCell ⟨db,4,none⟩ (.int .i64 e)).heap[b]?=w.heap[b]?:=fun b h1=>Below.heap_setCell _ _ _ _ (by simpa using h1)
 have hsz:(w.setCell ⟨db,4,none⟩ (.int .i64 e)).heap.size=w.heap.size:=by simp[World.setCell]
 have aac:∀{b:Nat} {es:Array MapEntry} {ck:Nat},w.heap[b]?=some (.map es ck)->b≠db:=fun {b es ck} hb e=>by
  rw[e] at hb
  have h9:=hb.symm.trans hdb
  cases h9
 refine⟨⟨h.old.os,h.old.tape,h.old.output,by rw[hsz];exact h.old.size,fun k hk=>(same k (by omega)).trans (h.old.block k hk)⟩,h.trie.same (Nat.le_of_eq hsz.symm) (fun ks b hk=>same b (fun e=>Et hdb (by decide) (e▸(h.trie.blk ks b hk).1))) (fun ks M hk=>?_),(same sb (fun e=>Et hdb (by decide) (e▸h.tq))).trans h.tq,h.ord.Dp (fun b hb=>same b (fun e=>iw.Dn h.ord hdb (by decide) (e▸hb))),h.Eh,fun j hj=>?_,h.inj,h.Zl,?_,h.slo,h.vlo⟩
 ·obtain⟨D9,⟨es,ck,h2,_⟩,_⟩:=(h.trie.map ks M hk).1
  exact same M (aac h2)
 ·by_cases e9:j=k
  ·subst e9
   refine⟨cv0,p0,?_,hp0,hs0⟩
   rw[←as5]
   have h9:=hd0.set 4 (.int .i64 e)
   rw[List.getD_eq_getElem?_getD,List.getElem?_set_self (by omega)]
   exact h9
  ·obtain⟨cv,p,h1,h2,h3⟩:=h.decl j hj
   refine⟨cv,p,?_,h2,h3⟩
   have hne:D.getD j 0≠db:=fun e8=>e9 (h.inj j k hj hk (by rw[e8,as5]))
   rw[show (G.set k e).getD j 0=G.getD j 0 from by rw[List.getD_eq_getElem?_getD,List.getD_eq_getElem?_getD,List.getElem?_set_ne (by omega)]]
   exact(same _ hne).trans h1
 ·obtain⟨n,f,h1,h2,h3⟩:=h.vars
  refine⟨n,f,h1,h2.block ?_,h3⟩
  obtain⟨D9,⟨es,ck,h4,_⟩,_⟩:=h2
  exact same vb (aac h4)
def zu (vs:List gy):List Int->List ByteArray->Int->List Int × Bool
 | G,[],e=>(G,true)
 | G,n::r,e=>if jc vs n<vs.length∧G.getD (jc vs n) 0 = -1 then zu vs (G.set (jc vs n) e) r e else (G,false)
theorem ai0 (vs:List gy) (ns:List ByteArray) (e:Int):∀G,(zu vs G ns e).1.length=G.length:=by
 induction ns with
 | nil=>intro G;rfl
 | cons n r ih =>
  intro G
  unfold zu
  split
  ·rw[ih,List.length_set]
  ·rfl
def ap4 (W:World) (ns:List ay) (i:Nat) (x:ay) (b o cb EB:Nat) (sb vb:Nat) (ov:Value) (D:List Nat) (C L:List cu->Option Nat) (N:Nat) (R:List Int × Bool) (w:World) (e:Ending) (w':World):Prop :=
 e=.returned (.bool R.2)∧Ck W w' ns i x b o cb EB R.1 sb vb ov D C L N∧Turn W.heap.size w L w' L
set_option maxRecDepth 20000 in
set_option maxHeartbeats 8000000 in
theorem ank (W w:World) (ns:List ay) (i:Nat) (x:ay) (b o cb EB:Nat) (G:List Int) (sb vb:Nat) (ov:Value) (D:List Nat) (C L:List cu->Option Nat) (N:Nat) (h:Ck W w ns i x b o cb EB G sb vb ov D C L N) (Yd:G.length=(aj x).length) (names:List ByteArray) (lv:Value) (hlv:bf 1 16 Cc 0 W lv names) (ei:Int) :
  Calls Tryz.prog 134 #[.pointer (some ⟨cb,0,none⟩),lv,.int .i64 ei] w (ap4 W ns i x b o cb EB sb vb ov D C L N (zu (aj x) G names ei) w):=by
 obtain⟨la,lc,a2j⟩:=hlv.shape
 subst a2j
 have hln:=hlv.len'
 have HLV:=hide hlv
 have HC:=hide h
 have HGL:=hide Yd
 obtain⟨PO,l7⟩:∃PO:Ending->World->Prop,PO=ap4 W ns i x b o cb EB sb vb ov D C L N (zu (aj x) G names ei) w:=⟨_,rfl⟩
 rw[←l7]
 have qy:=hide l7
 clear l7 h hlv Yd
 go_enter Tryz.func134,Tryz.ntmps134
 go_wp2
 go_loopg [12] names.length (fun gm iv wr=>∃(k:Nat) (G1:List Int),k<=names.length∧gm=names.length-k∧iv=.int .i64 k∧Ck W wr ns i x b o cb EB G1 sb vb ov D C L N∧G1.length=(aj x).length∧Turn W.heap.size w L wr L∧zu (aj x) G names ei=zu (aj x) G1 (names.drop k) ei)
 case atStart=>exact⟨0,G,Nat.zero_le _,by omega,rfl,uh HC,uh HGL,Turn.refl _ _ _,by rw[List.drop_zero]⟩
 case round =>
  obtain⟨k,G1,hk,hg,rfl,hck,hgl,htn,hdf⟩:=hrel
  rename World=>wr
  have HG:=hide hg
  have E5:=hide hck
  have HTN:=hide htn
  have Fq:=hide hgl
  have HDF:=hide hdf
  clear hg htn hdf hgl HC HGL
  by_cases hlt:k<names.length
  case neg =>
   have gq:Hid (PO (.returned (.bool true)) wr):=by
    rw[uh qy,uh HDF,List.drop_eq_nil_of_le (by omega)]
    exact hide ⟨rfl,hck,uh HTN⟩
   have Ec:¬(k:Int)<(names.length:Int):=by omega
   clear hck
   go_wp2
   exact uh gq
  obtain⟨_,_,Q5,_,_,hxx⟩:=(uh HLV).stays uw hck.sc.old
  simp only[Value.slice.injEq] at Q5
  obtain⟨rfl,_,rfl⟩:=Q5
  obtain⟨lb,lo,cs,rfl,_,hlb,hcs,hcc,hRR⟩:=hxx k hlt
  obtain⟨rfl,hsn⟩:=hRR
  have k0:=hcc 0 (by simp)
  simp only[Nat.mul_one,Nat.add_zero,List.getElem_cons_zero] at k0
  have HD2:Hid (zu (aj x) G names ei=if jc (aj x) names[k]<(aj x).length∧G1.getD (jc (aj x) names[k]) 0 = -1 then zu (aj x) (G1.set (jc (aj x) names[k]) ei) (names.drop (k+1)) ei else (G1,false)):=by
   rw[uh HDF,List.drop_eq_getElem_cons hlt]
   exact hide (by rw[zu])
  generalize names[k]=nm at k0 hsn HD2
  have hnm:nm.size<=maxLen:=by unfold Len at hsn;unfold maxLen;omega
  have c0:=hck.blk.cell (i:=0) (v:=.pointer (some ⟨sb,0,none⟩)) rfl
  have s2:=hck.sc.tq.cell (i:=2) (v:=.map (some vb)) rfl
  have hlk:∀nq,(Instr.lookup 76 (.map (some vb)) (.string nm) false).run Tryz.prog (wr.drewN nq)=.ok (He (aj x) D nm) (wr.drewN nq):=fun nq=>by
   obtain⟨n,f',h1,h2,h3⟩:=hck.sc.vars
   have h9:=(h2.below (jf (Below.refl _ wr) nq)).look (t:=76) Tryz.underlying9 Tryz.underlying76 (by kernel_rfl) hnm
   rw[h3] at h9
   exact h9
  have hlk0:(Instr.lookup 76 (.map (some vb)) (.string nm) false).run Tryz.prog wr=.ok (He (aj x) D nm) wr:=hlk 0
  have Ec:(k:Int)<(names.length:Int):=by omega
  have yw:=hide hlt
  clear hxx hcc hcs hlb hsn hnm hlt
  obtain⟨ln,ai4⟩:∃z,z=jc (aj x) nm:=⟨_,rfl⟩
  unfold He at hlk hlk0
  rw[←ai4] at HD2 hlk hlk0
  clear ai4
  by_cases hl:ln<(aj x).length
  case neg =>
   have gq:Hid (∀nq,PO (.returned (.bool false)) (wr.drewN nq)):=fun nq=>by
    rw[uh qy,uh HD2,if_neg (fun h9=>hl h9.1)]
    exact⟨rfl,hck.below (jf (Below.refl _ _) nq),(uh HTN).trans (Turn.of_below (jf (Below.refl _ _) nq) hck.sc.old.size)⟩
   have anq:Hid (PO (.returned (.bool false)) wr):=uh gq 0
   rw[if_neg hl] at hlk0
   simp only[if_neg hl] at hlk
   clear hl hck HD2
   go_wp2
   first
    | exact uh anq
    | exact uh gq _
  obtain⟨cv,p,hdb,hcp⟩:=hck.sc.decl ln hl
  clear hcp
  have d4:=hdb.cell (i:=4) (v:=.int .i64 (G1.getD ln 0)) rfl
  have d4z:=hdb.free 4
  rw[if_pos hl] at hlk0
  simp only[if_pos hl] at hlk
  have ai5:=hide (hck.sc.give ln hl (uh Fq) ei)
  have HTS:Hid (Turn W.heap.size wr L (wr.setCell ⟨D.getD ln 0,4,none⟩ (.int .i64 ei)) L):=hide (Turn.setCell hdb (hck.sc.Zl ln hl) 4 _)
  have HHL:=hide hl
  generalize D.getD ln 0=dk at *
  simp only[xk] at hlk hlk0
  generalize hgv:G1.getD ln 0=gv at *
  by_cases hgn:gv = -1
  ·have HDN:Hid (zu (aj x) G names ei=zu (aj x) (G1.set ln ei) (names.drop (k+1)) ei):=by
    rw[uh HD2,if_pos ⟨uh HHL,hgn⟩]
    exact hide rfl
   have a2k:Hid (Ck W (wr.setCell ⟨dk,4,none⟩ (.int .i64 ei)) ns i x b o cb EB (G1.set ln ei) sb vb ov D C L N):=by
    have h8:=(uh HTS).blk hck.sc.trie (c:=.pointer (some ⟨sb,0,none⟩)) (cs:=[.map (some EB)]) hck.blk (by decide) (by decide)
    exact hide ⟨uh ai5,h8,hck.lib,hck.node,hck.clo⟩
   have HTT:=hide ((uh HTN).trans (uh HTS))
   subst hgn
   clear hgv hdb HD2 ai5 HTS hck
   clear hl
   go_wp2
   go_roundg (names.length-(k+1))
   case measure =>
    have h8:=uh yw
    have h9:=uh HG
    omega
   case rel=>exact⟨k+1,G1.set ln ei,uh yw,rfl,by go_num,uh a2k,by rw[List.length_set];exact uh Fq,uh HTT,uh HDN⟩
  ·have gq:Hid (∀nq,PO (.returned (.bool false)) (wr.drewN nq)):=fun nq=>by
    rw[uh qy,uh HD2,if_neg (fun h9=>hgn h9.2)]
    exact⟨rfl,hck.below (jf (Below.refl _ _) nq),(uh HTN).trans (Turn.of_below (jf (Below.refl _ _) nq) hck.sc.old.size)⟩
   have anq:Hid (PO (.returned (.bool false)) wr):=uh gq 0
   have hne:(gv == -1)=false:=by rw[beq_eq_false_iff_ne];exact hgn
   have hnn:(gv != -1)=true:=by rw[bne_iff_ne];exact hgn
   clear hgn hgv hdb HD2 ai5 HTS hck
   clear hl
   go_wp2
   first
    | exact uh anq
    | exact uh gq _
theorem Iy {a b:Bool} (h:a=b):Ending.returned (.bool a)=.returned (.bool b):=by rw[h]
def H9 (ns:List ay) (i:Nat) (e:qg):Bool:=if e.call.size=0 then true else match ns[(jh ns i e.call).toNat]? with
 | some g=>decide (¬(jh ns i e.call<0∨g.ins.length≠e.args.length∨g.outs.length≠e.lhs.length))
 | none=>false
theorem Ck.called {W w:World} {ns:List ay} {i:Nat} {x:ay} {b o cb EB:Nat} {G:List Int} {sb vb:Nat} {ov:Value} {D:List Nat} {C L:List cu->Option Nat} {N:Nat} (h:Ck W w ns i x b o cb EB G sb vb ov D C L N) (hin:i<=ns.length) (hns:∀j (hj:j<ns.length),At 5 o7 W b (o+j*5) ns[j]) (s:ByteArray) (hs:s.size<=maxLen) :
  (jh ns i s<0∧∀nq,(Instr.lookup 104 (.map (some EB)) (.string s) false).run Tryz.prog (w.drewN nq)=.ok (.pointer none) (w.drewN nq)) ∨
  ∃(j:Nat) (hj:j<ns.length) (m:Nat),jh ns i s=(j:Int)∧(∀nq,(Instr.lookup 104 (.map (some EB)) (.string s) false).run Tryz.prog (w.drewN nq)=.ok (.pointer (some ⟨m,0,none⟩)) (w.drewN nq))∧w.cell? ⟨m,0,none⟩=some (.pointer (some ⟨b,o+j*5,none⟩)) ∧
   ∃a1 c1 a2 c2,w.cell? ⟨b,o+j*5+1,none⟩=some (.slice a1 ns[j].ins.length c1)∧w.cell? ⟨b,o+j*5+2,none⟩=some (.slice a2 ns[j].outs.length c2)∧bf 3 48 RVar 0 W (.slice a1 ns[j].ins.length c1) ns[j].ins∧bf 3 48 RVar 0 W (.slice a2 ns[j].outs.length c2) ns[j].outs:=by
 obtain⟨f,hM,hM0,hM1⟩:=h.lib
 have hMw:∀nq,Dh Tryz.prog 9 (.pointer none) (w.drewN nq) EB i f:=fun nq=>hM.block ((jf (Below.refl w.heap.size w) nq).block EB (Nat.lt_of_lt_of_le hM.lt h.sc.old.size) |>.trans (h.sc.old.block EB hM.lt))
 have hlk:∀nq,(Instr.lookup 104 (.map (some EB)) (.string s) false).run Tryz.prog (w.drewN nq)=.ok (f s) (w.drewN nq):=fun nq=>(hMw nq).look (t:=104) Tryz.underlying9 Tryz.underlying104 (X0 _) hs
 by_cases hf:jh ns i s<0
 ·refine Or.inl ⟨hf,fun nq=>?_⟩
  rw[hlk nq,hM0 _ hf]
 ·have hfb:=J7 ns i s
  obtain⟨j,hj⟩:=Int.eq_ofNat_of_zero_le (a:=jh ns i s) (by omega)
  obtain⟨m,g1,g2,g3,g4,g5⟩:=hM1 _ j hj
  have hjl:j<ns.length:=by
   omega
  obtain⟨hbl,cs,hl,hc,v1,v2,v3,v4,rfl,hs9,h1,h2,_,_⟩:=hns j hjl
  obtain⟨a1,c1,rfl⟩:=h1.shape
  obtain⟨a2,c2,rfl⟩:=h2.shape
  have k1:=(h.sc.old.cell (p:=⟨b,_,none⟩) hbl).trans (hc 1 (by simp))
  have k2:=(h.sc.old.cell (p:=⟨b,_,none⟩) hbl).trans (hc 2 (by simp))
  exact Or.inr ⟨j,hjl,m,hj,fun nq=>by rw[hlk nq,g1],(h.sc.old.cell (p:=⟨m,0,none⟩) g3).trans g4,a1,c1,a2,c2,k1,k2,h1,h2⟩
set_option maxRecDepth 20000 in
set_option maxHeartbeats 8000000 in
theorem ala (W w:World) (ns:List ay) (i:Nat) (x:ay) (b o cb EB:Nat) (G:List Int) (sb vb:Nat) (ov:Value) (D:List Nat) (C L:List cu->Option Nat) (N:Nat) (h:Ck W w ns i x b o cb EB G sb vb ov D C L N) (hin:i<=ns.length) (hns:∀j (hj:j<ns.length),At 5 o7 W b (o+j*5) ns[j]) (e:qg) (qb qo:Nat) (he:At 4 Dt W qb qo e) :
  Calls Tryz.prog 135 #[.pointer (some ⟨cb,0,none⟩),.pointer (some ⟨qb,qo,none⟩)] w (Ans (.bool (H9 ns i e)) w):=by
 have c1:=h.blk.cell (i:=1) (v:=.map (some EB)) rfl
 have hold:=h.sc.old
 obtain⟨lhs,code,s,args⟩:=e
 obtain⟨hbl,cs,hl,hc,x1,x2,x3,rfl,hs,h1,h2,h3⟩:=he
 simp only at *
 obtain⟨b1,Zm,rfl⟩:=h1.shape
 obtain⟨b3,cc3,rfl⟩:=h3.shape
 have k0:=(hold.cell (p:=⟨qb,_,none⟩) hbl).trans (hc 0 (by simp))
 have k2:=(hold.cell (p:=⟨qb,_,none⟩) hbl).trans (hc 2 (by simp))
 have k3:=(hold.cell (p:=⟨qb,_,none⟩) hbl).trans (hc 3 (by simp))
 simp only[List.getElem_cons_zero,List.getElem_cons_succ,Nat.add_zero] at k0 k2 k3
 have hsm:s.size<=maxLen:=by unfold Len at hs;unfold maxLen;omega
 obtain⟨R,hR⟩:∃R,R=H9 ns i ⟨lhs,code,s,args⟩:=⟨_,rfl⟩
 rw[←hR]
 clear h1 h2 h3 hc hl hs
 by_cases g:s.size=0
 ·have HR:Hid (R=true):=by
   rw[hR]
   refine hide ?_
   unfold H9
   rw[if_pos g]
  have d4:=Aa s g
  have Ij:=xg s g
  clear h hns g hR hsm k0 k3 c1 hold hbl
  go_enter Tryz.func135,Tryz.ntmps135
  go_wp2
  go_ret
  exact⟨Iy (uh HR).symm,Below.refl _ _⟩
 have d4:=Ae s g
 have Ij:=vk s g
 rcases h.called hin hns s hsm with ⟨hf,hlk⟩|⟨j,hj,m,hf,hlk,m0,a1,cc4,a2,cc5,n1,n2,_,_⟩
 ·have HR:Hid (R=false):=by
   rw[hR]
   refine hide ?_
   unfold H9
   rw[if_neg g]
   cases ns[(jh ns i s).toNat]? with
   | none=>rfl
   | some g=>simp[hf]
  have hlk0:(Instr.lookup 104 (.map (some EB)) (.string s) false).run Tryz.prog w=.ok (.pointer none) w:=hlk 0
  clear h hns g hR hsm hold hbl hf
  go_enter Tryz.func135,Tryz.ntmps135
  go_wp2_with fail
  go_quiet ((fail))
  go_wp2_with fail
  go_quiet ((fail))
  go_wp2
  go_ret
  exact⟨Iy (uh HR).symm,by first|exact Below.refl _ _|exact jf (Below.refl _ _) _|exact jf (jf (Below.refl _ _) _) _⟩
 ·have hlk0:(Instr.lookup 104 (.map (some EB)) (.string s) false).run Tryz.prog w=.ok (.pointer (some ⟨m,0,none⟩)) w:=hlk 0
  have HR:Hid (R=decide (ns[j].ins.length=args.length∧ns[j].outs.length=lhs.length)):=by
   rw[hR]
   refine hide ?_
   unfold H9
   rw[if_neg g]
   simp only[hf,Int.toNat_natCast,List.getElem?_eq_getElem hj,decide_eq_decide]
   omega
  generalize ns[j].ins.length=y1 at *
  generalize ns[j].outs.length=y2 at *
  clear h hns g hR hsm hold hbl hf
  generalize args.length=y3 at *
  generalize lhs.length=y4 at *
  generalize o+j*5=oj at *
  by_cases e1:y1=y3
  ·by_cases e2:y2=y4
   ·have HR2:Hid (R=true):=by rw[uh HR];exact hide (decide_eq_true ⟨e1,e2⟩)
    subst e1 e2
    have q1:((y1:Int) == (y1:Int))=true:=by simp
    have q2:((y2:Int) == (y2:Int))=true:=by simp
    clear HR
    go_enter Tryz.func135,Tryz.ntmps135
    go_wp2_with fail
    go_quiet ((fail))
    go_wp2_with fail
    go_quiet ((fail))
    go_wp2
    go_ret
    exact⟨Iy (uh HR2).symm,by first|exact Below.refl _ _|exact jf (Below.refl _ _) _|exact jf (jf (Below.refl _ _) _) _⟩
   ·have HR2:Hid (R=false):=by rw[uh HR];exact hide (decide_eq_false (fun h9=>e2 h9.2))
    subst e1
    have q1:((y1:Int) == (y1:Int))=true:=by simp
    have q2:((y2:Int) == (y4:Int))=false:=by rw[beq_eq_false_iff_ne];omega
    clear HR e2
    go_enter Tryz.func135,Tryz.ntmps135
    go_wp2_with fail
    go_quiet ((fail))
    go_wp2_with fail
    go_quiet ((fail))
    go_wp2
    go_ret
    exact⟨Iy (uh HR2).symm,by first|exact Below.refl _ _|exact jf (Below.refl _ _) _|exact jf (jf (Below.refl _ _) _) _⟩
  ·have HR2:Hid (R=false):=by rw[uh HR];exact hide (decide_eq_false (fun h9=>e1 h9.1))
   have q1:((y1:Int) == (y3:Int))=false:=by rw[beq_eq_false_iff_ne];omega
   clear HR e1
   go_enter Tryz.func135,Tryz.ntmps135
   go_wp2_with fail
   go_quiet ((fail))
   go_wp2_with fail
   go_quiet ((fail))
   go_wp2
   go_ret
   exact⟨Iy (uh HR2).symm,by first|exact Below.refl _ _|exact jf (Below.refl _ _) _|exact jf (jf (Below.refl _ _) _) _⟩
end Go.Proofs.YtflcnhfakcgkeaaGreat
