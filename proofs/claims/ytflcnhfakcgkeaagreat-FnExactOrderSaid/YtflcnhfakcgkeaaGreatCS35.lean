import Derived.Test.YtflcnhfakcgkeaaGreatCS34
namespace Go.Proofs.YtflcnhfakcgkeaaGreat
open Go.RowKit Go.Shelf
set_option linter.unusedSimpArgs false
set_option linter.unusedVariables false
attribute [local go_sem] Oper.semAt_some
def Qj (vs:List gy) (e:qg):List ByteArray:=(uj vs e).clock.map (·.name)++wz (dw e) (dw e).length
structure ada (W0 w:World) (nv:Value) (vs:List gy) (G:List Int) (sb vb:Nat) (ov:Value) (D:List Nat) (C L:List cu->Option Nat) (N:Nat) (e:qg) (qb qo Bs Be:Nat):Prop where
 sc:Sc W0 w nv .nilFunc vs G sb vb ov D C L N
 eq:At 4 Dt W0 qb qo e
 bs:dh w Bs 50 #[.pointer (some ⟨sb,0,none⟩)]
 be:dh w Be 83 #[.pointer (some ⟨qb,qo,none⟩)]
 lh:0<e.lhs.length
 lk:∀s,s∈e.lhs->jc vs s<vs.length
 cd:∀c,c∈dw e->Po c∧c.length<=3000
 cl:(dw e).length<=500
theorem ada.below {W0 w w':World} {nv:Value} {vs:List gy} {G:List Int} {sb vb:Nat} {ov:Value} {D:List Nat} {C L:List cu->Option Nat} {N:Nat} {e:qg} {qb qo Bs Be:Nat} (h:ada W0 w nv vs G sb vb ov D C L N e qb qo Bs Be) (hb:Below w.heap.size w w'):ada W0 w' nv vs G sb vb ov D C L N e qb qo Bs Be:=by
 exact⟨h.sc.below hb,h.eq,h.bs.below hb h.bs.lt,h.be.below hb h.be.lt,h.lh,h.lk,h.cd,h.cl⟩
abbrev Rf (rd:List ByteArray):={ nm:ByteArray // nm∈rd }
def anr (rd:List ByteArray) (xs:List (Rf rd)):Prop:=∀nm,nm∈rd->∃x,x∈xs∧x.1=nm
set_option maxRecDepth 100000 in
set_option maxHeartbeats 4000000 in
theorem ayt (W0 W:World) (nv:Value) (vs:List gy) (G:List Int) (sb vb:Nat) (ov:Value) (D:List Nat) (C L:List cu->Option Nat) (N:Nat) (e:qg) (qb qo Bs Be:Nat) (h:ada W0 W nv vs G sb vb ov D C L N e qb qo Bs Be) (n0:Nat) (hn0:W0.heap.size<=n0) (hn1:n0<=W.heap.size) (n l:Nat) (hn:1<=n)
  (J Jx:List (Rf (Qj vs e))->World->Prop) (hJ:AbidesFrom W.heap.size J)
  (hY:∀pre x W1,J pre W1->pre.length<(uj vs e).clock.length+3000*(dw e).length->YieldAt Fence.wide (n-1) Tryz.prog l #[.string x.1] W1 fun e W'=>(e=.returned (.bool true)∧J (pre++[x]) W'∧Bv n0 W1 W')∨(e=.returned (.bool false)∧Jx (pre++[x]) W')) (h0:J [] W) :
  CallsIn Fence.wide n Tryz.prog 50 #[.func (.yield l) #[] #[],.pointer (some ⟨Bs,0,none⟩),.pointer (some ⟨Be,0,none⟩)] W fun e' W'=>(∃v,e'=.returned v)∧((∃xs,anr (Qj vs e) xs∧J xs W')∨(∃pre,Jx pre W')):=by
 have hhd:(e.lhs.headD ⟨#[]⟩)∈e.lhs:=by
  cases hq:e.lhs with
  | nil=>have:=h.lh;rw[hq] at this;simp at this
  | cons a r=>simp
 obtain⟨p,hp⟩:∃p,C (uj vs e).clock=some p:=by
  have hl0:=h.lk _ hhd
  obtain⟨cv,p,_,hp,_⟩:=h.sc.decl _ hl0
  refine⟨p,?_⟩
  unfold uj jg
  rw[dif_pos hl0]
  exact hp
 have HCO:=hide (aam W0 W nv vs G sb vb ov D C L N h.sc e qb qo h.eq h.lh h.lk p hp)
 have b0:=h.bs.cell (i:=0) (v:=.pointer (some ⟨sb,0,none⟩)) rfl
 have b1:=h.be.cell (i:=0) (v:=.pointer (some ⟨qb,qo,none⟩)) rfl
 have HH:=hide h
 have HP:=hide hp
 have HJ:=hide hJ
 have HY:=hide hY
 clear h hp hJ hY hhd
 refine callsIn_of_wp Tryz.func50 rfl trivial ?_ rfl
 simp only[Tryz.ntmps50,List.size_toArray,List.length_cons,List.length_nil,Nat.reduceAdd,Nat.reduceSub,Array.replicate_succ,Array.replicate_zero,List.push_toArray,List.append_toArray,List.nil_append,List.cons_append]
 gi_wp2_with (refine⟨trivial,?_⟩;gi_at_call 51;refine(callsIn_wide.2 (uh HCO)).mono ?_;rintro e9 w1 ⟨rfl,hb1⟩)
 have HB1:=hide hb1
 have HR1:=hide ((uh HH).below hb1)
 have HJ1:Hid (J [] w1):=hide (uh HJ [] W w1 none h0 (below_grown hb1 none) (fun r e=>by cases e))
 have HJB:Hid (∀pre A B,J pre A->Below A.heap.size A B->J pre B):=fun pre A B hj hb=>uh HJ pre A B none hj (below_grown hb none) (fun r e=>by cases e)
 obtain⟨ck,hck⟩:∃z,z=(uj vs e).clock:=⟨_,rfl⟩
 obtain⟨codes,O1⟩:∃z,z=dw e:=⟨_,rfl⟩
 rw[←hck] at HP
 rw[←hck,←O1] at HY
 have Oh:Hid (Qj vs e=ck.map (·.name)++wz codes codes.length):=by rw[hck,O1];exact hide rfl
 have Ov:Hid (∀c,c∈codes->Po c∧c.length<=3000):=by rw[O1];exact hide (uh HH).cd
 have Gv:Hid (codes.length<=500):=by rw[O1];exact hide (uh HH).cl
 have HEX:Hid (∀w',Below W0.heap.size W0 w'->Calls Tryz.prog 52 #[.pointer (some ⟨qb,qo,none⟩)] w' fun e w''=>∃v,e=.returned v∧Bl W0 w'' v codes∧Below w'.heap.size w' w''):=fun w' hb=>by
  rw[O1]
  exact Yc e qb qo W0 w' hb (uh HH).eq
 have hn1':n0<=w1.heap.size:=Nat.le_trans hn1 hb1.size
 have HOLD:Hid (∀wr,Bv n0 w1 wr->Below W0.heap.size W0 wr):=fun wr hk=>hk.old (uh HR1).sc.old hn0
 clear hb1 HCO b0 b1 h0 HJ O1 hck
 gi_loopw [4] (fun kv wr=>∃(m:Nat) (pre:List (Rf (Qj vs e))) (q:Nat),m<=ck.length∧kv=.pointer (some ⟨q,0,none⟩)∧C (ck.take m)=some q∧J pre wr∧Bv n0 w1 wr∧pre.length=ck.length-m∧∀j (hj:j<ck.length),m<=j->∃x,x∈pre∧x.1=ck[j].name) (fun kv wr=>ac9 kv wr)
 case atStart=>exact⟨ck.length,[],p,Nat.le_refl _,rfl,by rw[List.take_length];exact uh HP,uh HJ1,Bv.refl _ _,by simp,fun j hj h9=>by omega⟩
 case round =>
  obtain⟨m,pre,q,hm,rfl,hq,hj,hkp,hpl,hcov⟩:=hrel
  have ayu:=((uh HR1).sc.trie.blk _ q hq).1
  have O4:=hkp.blk ayu (by decide) (by decide)
  have HJp:=hide hj
  have Rh:=hide hkp
  have U4:=hide hcov
  have HPL:=hide hpl
  have HQ:=hide hq
  clear hj hkp hcov ayu
  have q3:=O4.cell (i:=3) (v:=.int .i64 ((ck.take m).length:Int)) rfl
  rcases Nat.eq_zero_or_pos m with hm0|hm0
  ·subst hm0
   have q0:wr.cell? ⟨q,0,none⟩=some (.pointer none):=O4.cell (i:=0) (by rw[List.take_zero];rfl)
   have HBE:Hid (wr.cell? ⟨Be,0,none⟩=some (.pointer (some ⟨qb,qo,none⟩))):=by
    exact hide (((uh Rh).blk (uh HR1).be (by decide) (by decide)).cell (i:=0) rfl)
   have be0:=uh HBE
   have Na:Hid (Calls Tryz.prog 52 #[.pointer (some ⟨qb,qo,none⟩)] wr fun e w''=>∃a c,e=.returned (.slice a codes.length c)∧Bl W0 w'' (.slice a codes.length c) codes∧Below wr.heap.size wr w''):=by
    refine hide ((uh HEX wr (uh HOLD wr (uh Rh))).mono ?_)
    rintro e9 w2 ⟨vv,rfl,hcs,hb2⟩
    obtain⟨a,c,h9,h8⟩:=hcs
    subst h9
    exact⟨a,c,rfl,⟨a,c,rfl,h8⟩,hb2⟩
   clear O4 hpl hq q3 HBE
   gi_wp2_with (refine⟨trivial,?_⟩;gi_at_call 52;refine(callsIn_wide.2 (uh Na)).mono ?_;rintro e9 w2 ⟨va,vc,rfl,hcs,hb2⟩)
   have HCS:=hide hcs
   have HB2:=hide hb2
   have ayv:Hid (Bv n0 w1 w2):=(uh Rh).trans (Bv.J8 hb2 (Nat.le_trans hn1' (uh Rh).size))
   have HJ2:=hide (uh HJB pre wr w2 (uh HJp) hb2)
   clear hcs hb2 Na be0 q0
   gi_loopw [32] (fun iv wr=>∃(k:Nat) (pre:List (Rf (Qj vs e))),k<=codes.length∧iv=.int .i64 k∧J pre wr∧Bv n0 w1 wr∧Bl W0 wr (.slice va codes.length vc) codes∧pre.length<=ck.length+3000*k∧∀nm,nm∈ck.map (·.name)++wz codes k->∃x,x∈pre∧x.1=nm) (fun iv _=>codes.length-(intOf iv).toNat)
   case atStart =>
    refine⟨0,pre,Nat.zero_le _,rfl,uh HJ2,uh ayv,uh HCS,by have:=uh HPL;omega,fun nm hnm=>?_⟩
    rw[wz,List.append_nil,List.mem_map] at hnm
    obtain⟨c,hc,rfl⟩:=hnm
    obtain⟨j,hj,rfl⟩:=List.mem_iff_getElem.1 hc
    exact uh U4 j hj (Nat.zero_le _)
   case round =>
    clear HJ2 ayv HCS U4 HPL HJp Rh HB2
    obtain⟨k,pre,hk,rfl,hj,hkp,hcs,hpl,hcov⟩:=hrel
    have HJp:=hide hj
    have Rh:=hide hkp
    have HCS:=hide hcs
    have U4:=hide hcov
    have HPL:=hide hpl
    clear hj hkp hcov hpl
    by_cases hlt:k<codes.length
    case neg =>
     have hke:k=codes.length:=by omega
     have Ec:¬(k:Int)<(codes.length:Int):=by omega
     have gq:Hid (∃xs,anr (Qj vs e) xs∧J xs wr):=by
      refine hide ⟨pre,fun nm hnm=>uh U4 nm ?_,uh HJp⟩
      rw[uh Oh,←hke] at hnm
      exact hnm
     clear hcs hke
     gi_wp2
     go_end0
     exact⟨⟨_,rfl⟩,.inl (uh gq)⟩
    have Ec:(k:Int)<(codes.length:Int):=by omega
    obtain⟨_,_,Qh,Qi⟩:=hcs
    simp only[Value.slice.injEq] at Qh
    obtain⟨rfl,H8,rfl⟩:=Qh
    clear H8
    obtain⟨g,go_,cv,rfl,l0,hcv,_⟩:=Qi k hlt
    have aan:=uh Ov _ (List.getElem_mem hlt)
    have hlow:=uh HOLD wr (uh Rh)
    have jo:Hid (Calls Tryz.prog 53 #[cv] wr fun e w'=>∃a c xs,e=.returned (.slice a xs.length c)∧iw zh w' wr.heap.size (.slice a xs.length c) xs∧Below wr.heap.size wr w'∧(∀nm,nm∈xs↔nm∈Dw codes[k] codes[k].length)∧xs.length<=codes[k].length):=by
     refine hide ((ak8 codes[k] cv wr (hcv.stays je hlow) aan.1 aan.2).mono ?_)
     rintro e9 w3 ⟨nv3,xs,rfl,hown,hb3,hmem,hxl⟩
     obtain⟨xa,xc,hxe⟩:=hown.slice
     subst hxe
     exact⟨xa,xc,xs,rfl,hown,hb3,hmem,hxl⟩
    obtain⟨ca,cc,rfl⟩:=hcv.shape
    have as6:Hid (wz codes (k+1)=wz codes k++Dw codes[k] codes[k].length):=by
     refine hide ?_
     rw[wz,List.getElem?_eq_getElem hlt]
    have ayw:Hid (∀nm,nm∈Dw codes[k] codes[k].length->nm∈Qj vs e):=fun nm hnm=>by
     rw[uh Oh]
     refine List.mem_append.2 (Or.inr ?_)
     have hmono:∀d,nm∈wz codes (k+1+d):=fun d=>by
      induction d with
      | zero=>rw[uh as6];exact List.mem_append.2 (Or.inr hnm)
      | succ d ih=>rw[show k+1+(d+1)=(k+1+d)+1 from rfl,wz];exact List.mem_append.2 (Or.inl ih)
     have h9:=hmono (codes.length-(k+1))
     rw[show k+1+(codes.length-(k+1))=codes.length from by omega] at h9
     exact h9
    have Ot:=hide aan.2
    have yw:=hide hlt
    generalize codes[k]=c9 at jo as6 ayw Ot l0
    clear Qi hcv aan hlow
    clear hlt
    gi_wp2_with (refine⟨trivial,?_⟩;gi_at_call 53;refine(callsIn_wide.2 (uh jo)).mono ?_;rintro e9 w3 ⟨xa,xc,xs,rfl,hown,hb3,hmem,hxl⟩)
    have HOWN:=hide hown
    have ayx:=hide hmem
    have HXL:Hid (xs.length<=3000):=hide (Nat.le_trans (by first|exact hxl|(have:=hxl;omega)) (uh Ot))
    have ayy:Hid (Bv n0 w1 w3):=(uh Rh).trans (Bv.J8 hb3 (Nat.le_trans hn1' (uh Rh).size))
    have HJ3:=hide (uh HJB pre wr w3 (uh HJp) hb3)
    have ayz:=hide ((uh HCS).below hb3)
    obtain⟨base,hbase⟩:∃base,base=wr.heap.size:=⟨_,rfl⟩
    rw[←hbase] at HOWN
    clear hown hb3 hmem hxl jo l0 hbase
    gi_loopw [39] (fun iv wr=>∃(t:Nat) (pre:List (Rf (Qj vs e))),t<=xs.length∧iv=.int .i64 t∧J pre wr∧Bv n0 w1 wr∧Bl W0 wr (.slice (some ⟨g,go_,none⟩) codes.length vc) codes∧iw zh wr base (.slice xa xs.length xc) xs∧pre.length<=ck.length+3000*k+t∧(∀nm,nm∈ck.map (·.name)++wz codes k->∃x,x∈pre∧x.1=nm)∧∀j (hj:j<xs.length),j<t->∃x,x∈pre∧x.1=xs[j]) (fun iv _=>xs.length-(intOf iv).toNat)
    case atStart=>exact⟨0,pre,Nat.zero_le _,rfl,uh HJ3,uh ayy,uh ayz,uh HOWN,uh HPL,uh U4,fun j _ hj=>absurd hj (Nat.not_lt_zero _)⟩
    case round =>
     clear HJ3 ayy ayz HOWN HPL U4 HJp Rh HCS
     obtain⟨t,pre,ht,rfl,hj,hkp,hcs,hown,hpl,hcov,hcx⟩:=hrel
     have HJp:=hide hj
     have Rh:=hide hkp
     have HCS:=hide hcs
     have HOWN:=hide hown
     have U4:=hide hcov
     have HCX:=hide hcx
     have HPL:=hide hpl
     clear hj hkp hcs hcov hcx
     by_cases hlt2:t<xs.length
     case neg =>
      have hte:t=xs.length:=by omega
      have htI:¬(t:Int)<(xs.length:Int):=by omega
      have ai7:Hid (∃pre:List (Rf (Qj vs e)),J pre wr∧Bv n0 w1 wr∧Bl W0 wr (.slice (some ⟨g,go_,none⟩) codes.length vc) codes∧pre.length<=ck.length+3000*(k+1)∧∀nm,nm∈ck.map (·.name)++wz codes (k+1)->∃x,x∈pre∧x.1=nm):=by
       refine hide ⟨pre,uh HJp,uh Rh,uh HCS,?_,fun nm hnm=>?_⟩
       ·have h8:=uh HXL
        rw[Nat.mul_add,Nat.mul_one]
        omega
       ·rw[uh as6,←List.append_assoc] at hnm
        rcases List.mem_append.1 hnm with h9|h9
        ·exact uh U4 nm h9
        ·obtain⟨j,hj,rfl⟩:=List.mem_iff_getElem.1 ((uh ayx nm).2 h9)
         exact uh HCX j hj (by omega)
      have ai8:=uh Gv
      have ai9:=uh yw
      have HK6:Hid (k<=1000000):=hide (Nat.le_trans (Nat.le_trans (Nat.le_of_lt ai9) ai8) (by decide))
      clear hown hpl hte ai8 ai9
      gi_wp2
      go_roundw
      case rel =>
       obtain⟨a2l,r1,r2,r3,r4,r5⟩:=uh ai7
       exact⟨k+1,a2l,uh yw,ai6 k (uh HK6),r1,r2,r3,r4,r5⟩
      case measure =>
       exact agl codes.length k (uh HK6) (uh yw)
     have htI:(t:Int)<(xs.length:Int):=by omega
     obtain⟨g2,c2,ang⟩:∃g c,xa=some ⟨g,0,none⟩∧xc=c:=by
      rcases hown.shape with ⟨_,h9⟩|⟨g,c,h9,_⟩
      ·rw[h9] at hlt2;simp at hlt2
      ·simp only[Value.slice.injEq] at h9
       exact⟨g,c,h9.1,h9.2.2⟩
     obtain⟨rfl,rfl⟩:=ang
     have l1:wr.cell? ⟨g2,t,none⟩=some (.string xs[t]):=by
      have h9:=World.ownsRow.cells hown (g:=g2) rfl t (.string xs[t]) (by
       have h8:=flat_get zh.f 1 (fun _=>rfl) xs t hlt2 0 (by decide)
       rw[Nat.mul_one,Nat.add_zero] at h8
       rw[h8]
       rfl)
      rw[Addr.add_lit,Nat.zero_add] at h9
      exact h9
     have hxm:xs[t]∈Qj vs e:=uh ayw _ ((uh ayx _).1 (List.getElem_mem hlt2))
     obtain⟨fn,tmps,assign,body,hy,hR⟩:=uh HY pre ⟨xs[t],hxm⟩ wr (uh HJp) (by
      have h7:=uh yw
      have h8:=uh HXL
      have h9:=Nat.mul_le_mul_left 3000 (show k+1<=codes.length from h7)
      rw[Nat.mul_add,Nat.mul_one] at h9
      omega)
     dsimp only at hy
     have ay0:Hid (∀j (hj:j<xs.length),j<t+1->∃x,x∈pre++[⟨xs[t],hxm⟩]∧x.1=xs[j]):=fun j hj h9=>by
      by_cases c:j<t
      ·obtain⟨x,h1,h2⟩:=uh HCX j hj c
       exact⟨x,List.mem_append.2 (Or.inl h1),h2⟩
      ·have e9:j=t:=by omega
       subst e9
       exact⟨⟨xs[j],hxm⟩,by simp,rfl⟩
     have ad8:Hid (∀nm,nm∈ck.map (·.name)++wz codes k->∃x,x∈pre++[⟨xs[t],hxm⟩]∧x.1=nm):=fun nm hnm=>by
      obtain⟨x,h1,h2⟩:=uh U4 nm hnm
      exact⟨x,List.mem_append.2 (Or.inl h1),h2⟩
     have HR:=hide hR
     have as7:=hide hlt2
     generalize Qi:(⟨xs[t],hxm⟩:Rf (Qj vs e))=x9 at HR ay0 ad8
     clear Qi hR hown hpl
     generalize xs[t]=nm at l1 hy
     clear hxm
     clear hlt2
     gi_wp2
     refine(uh HR).mono ?_
     rintro e9 W3 (⟨rfl,hJ3,hk3⟩|⟨rfl,hJx3⟩)
     ·have ai7:Hid (J (pre++[x9]) W3∧Bv n0 w1 W3∧Bl W0 W3 (.slice (some ⟨g,go_,none⟩) codes.length vc) codes∧iw zh W3 base (.slice (some ⟨g2,0,none⟩) xs.length xc) xs∧(pre++[x9]).length<=ck.length+3000*k+(t+1)):=by
       refine hide ⟨hJ3,(uh Rh).trans hk3,hk3.codes hn0 (uh HCS),hk3.own (uh HOWN),?_⟩
       have:=uh HPL
       rw[List.length_append,List.length_singleton]
       omega
      have ai8:=uh HXL
      have ai9:=uh as7
      have HT6:Hid (t<=1000000):=hide (Nat.le_trans (Nat.le_trans (Nat.le_of_lt ai9) ai8) (by decide))
      clear hJ3 hk3 l1 HR ai8 ai9
      gi_wp2
      go_roundw
      case rel =>
       obtain⟨r1,r2,r3,r4,r5⟩:=uh ai7
       exact⟨t+1,pre++[x9],uh as7,ai6 t (uh HT6),r1,r2,r3,r4,r5,uh ad8,uh ay0⟩
      case measure =>
       exact agl xs.length t (uh HT6) (uh as7)
     ·have HJX:=hide hJx3
      clear hJx3 HR
      gi_wp2
      refine bodyPost_ret (results_none rfl _ _ _) rfl ?_
      exact⟨⟨_,rfl⟩,.inr ⟨_,uh HJX⟩⟩
  obtain⟨m1,rfl⟩:∃z,m=z+1:=⟨m-1,by omega⟩
  have hml:m1<ck.length:=by omega
  have htk:ck.take (m1+1)=ck.take m1++[ck[m1]]:=by
   rw[List.take_add_one,List.getElem?_eq_getElem hml,Option.toList_some]
  rw[htk] at O4 hq
  obtain⟨q',M,hq',_⟩:=(uh HR1).sc.trie.up _ _ _ hq
  have hcells:Ai C L (ck.take m1++[ck[m1]])=#[.pointer (some ⟨q',0,none⟩),.string ck[m1].name,.bool ck[m1].on,.int .i64 ((ck.take m1++[ck[m1]]).length:Int),.map (L (ck.take m1++[ck[m1]])),.int .i64 0,.slice none 0 0]:=by
   unfold Ai
   rw[Wv,Pq,hq']
   rfl
  rw[hcells] at O4
  have q0:=O4.cell (i:=0) (v:=.pointer (some ⟨q',0,none⟩)) rfl
  have q1:=O4.cell (i:=1) (v:=.string ck[m1].name) rfl
  have hxm:ck[m1].name∈Qj vs e:=by
   rw[uh Oh]
   exact List.mem_append.2 (Or.inl (List.mem_map_of_mem (List.getElem_mem hml)))
  obtain⟨fn,tmps,assign,body,hy,hR⟩:=uh HY pre ⟨ck[m1].name,hxm⟩ wr (uh HJp) (by omega)
  dsimp only at hy
  have ad8:Hid (∀j (hj:j<ck.length),m1<=j->∃x,x∈pre++[⟨ck[m1].name,hxm⟩]∧x.1=ck[j].name):=fun j hj h9=>by
   by_cases c:m1+1<=j
   ·obtain⟨x,h1,h2⟩:=uh U4 j hj c
    exact⟨x,List.mem_append.2 (Or.inl h1),h2⟩
   ·have e9:j=m1:=by omega
    subst e9
    exact⟨⟨ck[j].name,hxm⟩,by simp,rfl⟩
  have HR:=hide hR
  have HM1:Hid (ac9 (.pointer (some ⟨q,0,none⟩)) wr=m1+1):=by
   refine hide (ama ?_)
   have h9:=O4.cell (i:=3) (v:=.int .i64 ((ck.take m1++[ck[m1]]).length:Int)) rfl
   rw[h9,←htk,List.length_take,Nat.min_eq_left (by omega)]
  have HQB:=hide O4
  have HQ':=hide hq'
  have HML:=hide hml
  generalize Qi:(⟨ck[m1].name,hxm⟩:Rf (Qj vs e))=x9 at HR ad8
  clear Qi hR O4 hq hcells htk q3 hpl hq'
  generalize ck[m1].name=nm at q1 hy
  clear hxm
  clear hm
  gi_wp2
  refine(uh HR).mono ?_
  rintro e9 W3 (⟨rfl,hJ3,hk3⟩|⟨rfl,hJx3⟩)
  ·have q0':=(hk3.blk (uh HQB) (by decide) (by decide)).cell (i:=0) (v:=.pointer (some ⟨q',0,none⟩)) rfl
   have ai7:Hid (J (pre++[x9]) W3∧Bv n0 w1 W3∧(pre++[x9]).length=ck.length-m1):=by
    refine hide ⟨hJ3,(uh Rh).trans hk3,?_⟩
    have h8:=uh HPL
    have h9:=uh HML
    rw[List.length_append,List.length_singleton]
    omega
   have HM2:Hid (ac9 (.pointer (some ⟨q',0,none⟩)) W3=m1):=by
    have hb1:=((uh HR1).sc.trie.blk _ q' (uh HQ')).1
    have hb2:=((uh Rh).trans hk3).blk hb1 (by decide) (by decide)
    refine hide (ama ?_)
    have h9:=hb2.cell (i:=3) (v:=.int .i64 ((ck.take m1).length:Int)) rfl
    have h8:=uh HML
    rw[h9,List.length_take,Nat.min_eq_left (by omega)]
   clear hJ3 hk3 q0 q1 HR
   gi_wp2
   go_roundw
   case rel =>
    obtain⟨r1,r2,r3⟩:=uh ai7
    exact⟨m1,pre++[x9],q',by have:=uh HML;omega,rfl,uh HQ',r1,r2,r3,uh ad8⟩
   case measure =>
    show ac9 (.pointer (some ⟨q',0,none⟩)) W3<ac9 (.pointer (some ⟨q,0,none⟩)) wr
    rw[uh HM1,uh HM2]
    omega
  ·have HJX:=hide hJx3
   clear hJx3 HR
   gi_wp2
   refine bodyPost_ret (results_none rfl _ _ _) rfl ?_
   exact⟨⟨_,rfl⟩,.inr ⟨_,uh HJX⟩⟩
end Go.Proofs.YtflcnhfakcgkeaaGreat
