import Derived.Test.YtflcnhfakcgkeaaGreatImplB
namespace Go.Proofs.YtflcnhfakcgkeaaGreat
open Go.RowKit
set_option linter.unusedSimpArgs false
set_option linter.unusedVariables false
theorem run_store_func (P:Program) (w:World) (a:Addr) (m:Mode) (f:Fn) (b c:Array Value):(store a (.func f b c) m).run P w=stored P w a (.func f b c) m:=run_store P w a _ m rfl
attribute [local go_sem] run_store_func
theorem a06 (cb:Nat) (w:World):(Instr.index 147 (.agg #[.func (.func 77) #[.pointer (some ⟨cb,0,none⟩)] #[],.func (.func 78) #[.pointer (some ⟨cb,0,none⟩)] #[],.func (.func 79) #[.pointer (some ⟨cb,0,none⟩)] #[],.func (.func 80) #[.pointer (some ⟨cb,0,none⟩)] #[],.func (.func 81) #[.pointer (some ⟨cb,0,none⟩)] #[],.func (.func 82) #[.pointer (some ⟨cb,0,none⟩)] #[]]) (.int .i64 0)).run Tryz.prog w=.ok (.func (.func 77) #[.pointer (some ⟨cb,0,none⟩)] #[]) w:=by kernel_rfl
theorem a07 (cb:Nat) (w:World):(Instr.index 147 (.agg #[.func (.func 77) #[.pointer (some ⟨cb,0,none⟩)] #[],.func (.func 78) #[.pointer (some ⟨cb,0,none⟩)] #[],.func (.func 79) #[.pointer (some ⟨cb,0,none⟩)] #[],.func (.func 80) #[.pointer (some ⟨cb,0,none⟩)] #[],.func (.func 81) #[.pointer (some ⟨cb,0,none⟩)] #[],.func (.func 82) #[.pointer (some ⟨cb,0,none⟩)] #[]]) (.int .i64 1)).run Tryz.prog w=.ok (.func (.func 78) #[.pointer (some ⟨cb,0,none⟩)] #[]) w:=by kernel_rfl
theorem a08 (cb:Nat) (w:World):(Instr.index 147 (.agg #[.func (.func 77) #[.pointer (some ⟨cb,0,none⟩)] #[],.func (.func 78) #[.pointer (some ⟨cb,0,none⟩)] #[],.func (.func 79) #[.pointer (some ⟨cb,0,none⟩)] #[],.func (.func 80) #[.pointer (some ⟨cb,0,none⟩)] #[],.func (.func 81) #[.pointer (some ⟨cb,0,none⟩)] #[],.func (.func 82) #[.pointer (some ⟨cb,0,none⟩)] #[]]) (.int .i64 2)).run Tryz.prog w=.ok (.func (.func 79) #[.pointer (some ⟨cb,0,none⟩)] #[]) w:=by kernel_rfl
theorem a09 (cb:Nat) (w:World):(Instr.index 147 (.agg #[.func (.func 77) #[.pointer (some ⟨cb,0,none⟩)] #[],.func (.func 78) #[.pointer (some ⟨cb,0,none⟩)] #[],.func (.func 79) #[.pointer (some ⟨cb,0,none⟩)] #[],.func (.func 80) #[.pointer (some ⟨cb,0,none⟩)] #[],.func (.func 81) #[.pointer (some ⟨cb,0,none⟩)] #[],.func (.func 82) #[.pointer (some ⟨cb,0,none⟩)] #[]]) (.int .i64 3)).run Tryz.prog w=.ok (.func (.func 80) #[.pointer (some ⟨cb,0,none⟩)] #[]) w:=by kernel_rfl
theorem a1a (cb:Nat) (w:World):(Instr.index 147 (.agg #[.func (.func 77) #[.pointer (some ⟨cb,0,none⟩)] #[],.func (.func 78) #[.pointer (some ⟨cb,0,none⟩)] #[],.func (.func 79) #[.pointer (some ⟨cb,0,none⟩)] #[],.func (.func 80) #[.pointer (some ⟨cb,0,none⟩)] #[],.func (.func 81) #[.pointer (some ⟨cb,0,none⟩)] #[],.func (.func 82) #[.pointer (some ⟨cb,0,none⟩)] #[]]) (.int .i64 4)).run Tryz.prog w=.ok (.func (.func 81) #[.pointer (some ⟨cb,0,none⟩)] #[]) w:=by kernel_rfl
theorem a1b (cb:Nat) (w:World):(Instr.index 147 (.agg #[.func (.func 77) #[.pointer (some ⟨cb,0,none⟩)] #[],.func (.func 78) #[.pointer (some ⟨cb,0,none⟩)] #[],.func (.func 79) #[.pointer (some ⟨cb,0,none⟩)] #[],.func (.func 80) #[.pointer (some ⟨cb,0,none⟩)] #[],.func (.func 81) #[.pointer (some ⟨cb,0,none⟩)] #[],.func (.func 82) #[.pointer (some ⟨cb,0,none⟩)] #[]]) (.int .i64 5)).run Tryz.prog w=.ok (.func (.func 82) #[.pointer (some ⟨cb,0,none⟩)] #[]) w:=by kernel_rfl
structure Vb (W:World) (ns:List ay) (i:Nat) (x:ay) (b o cb EB sb vb:Nat) (ov:Value) (D:List Nat) (k:Nat) (wr:World):Prop where
 ex:∃(G:List Int) (C L:List cu->Option Nat) (N:Nat),Ck W wr ns i x b o cb EB G sb vb ov D C L N∧(k<=2->G=qx x∧N<=1000000)∧(3<=k->G=ru x (qx x) x.eqs.length)
theorem Vb.old {W:World} {ns:List ay} {i:Nat} {x:ay} {b o cb EB sb vb:Nat} {ov:Value} {D:List Nat} {k:Nat} {wr:World} (h:Vb W ns i x b o cb EB sb vb ov D k wr):Below W.heap.size W wr:=by
 obtain⟨G,C,L,N,h1,_⟩:=h
 exact h1.sc.old
set_option maxRecDepth 20000 in
set_option maxHeartbeats 8000000 in
theorem atl (Dq:DecA) (W w:World) (ns:List ay) (i:Nat) (x:ay) (b o cb EB:Nat) (sb vb:Nat) (ov:Value) (D:List Nat) (C L:List cu->Option Nat) (N:Nat) (h:Ck W w ns i x b o cb EB (qx x) sb vb ov D C L N) (hN:N<=1000000) (hin:i<=ns.length) (hns:∀j (hj:j<ns.length),At 5 o7 W b (o+j*5) ns[j]) (hnb:∀n,n∈ns->qw n=true) (hxb:qw x=true) (hsm:aaf x) (hE:∀e,e∈x.eqs->e.call.size=0->jh ns i e.call<0) :
  Calls Tryz.prog 47 #[.pointer (some ⟨cb,0,none⟩)] w fun e w'=>e=.returned (.tuple #[.int .i64 (Ri Dq ns i x).1,.int .i64 (Ri Dq ns i x).2])∧Below W.heap.size W w':=by
 have I7:=((yg x).1 hxb).1
 have hvl:(aj x).length<=500:=by
  unfold aj
  rw[List.length_append,List.length_append]
  exact I7.2.1
 have hnm:∀v,v∈aj x->v.name.size<=maxLen:=fun v hv=>by
  have h9:=Vz ((S9 v).1 (Nj hxb v hv)).1
  unfold maxLen
  omega
 have hst:∀{k:Nat} {wr w':World} {G:List Int} {C L:List cu->Option Nat} {N:Nat},Ck W wr ns i x b o cb EB G sb vb ov D C L N->Below wr.heap.size wr w'->Ck W w' ns i x b o cb EB G sb vb ov D C L N:=fun h1 h2=>h1.below h2
 have H0:Hid (∀wr,Vb W ns i x b o cb EB sb vb ov D 0 wr->Calls Tryz.prog 77 #[.pointer (some ⟨cb,0,none⟩)] wr fun e w'=>e=.returned (.tuple #[.int .i64 (Eo Dq ns i x 0).1,.int .i64 (Eo Dq ns i x 0).2])∧Hid (Below W.heap.size W w')∧Hid ((Eo Dq ns i x 0).1=0->Vb W ns i x b o cb EB sb vb ov D 1 w')):=fun wr ⟨G,C,L,N,h1,h2,h3⟩=>by
  refine(atm W wr ns i x b o cb EB G sb vb ov D C L N h1 (by omega) hnm).mono ?_
  rintro e w' ⟨rfl,hb⟩
  have hc:=h1.below hb
  exact⟨rfl,hc.sc.old,fun _=>⟨G,C,L,N,hc,fun _=>h2 (by omega),fun h9=>by omega⟩⟩
 have H1:Hid (∀wr,Vb W ns i x b o cb EB sb vb ov D 1 wr->Calls Tryz.prog 78 #[.pointer (some ⟨cb,0,none⟩)] wr fun e w'=>e=.returned (.tuple #[.int .i64 (Eo Dq ns i x 1).1,.int .i64 (Eo Dq ns i x 1).2])∧Hid (Below W.heap.size W w')∧Hid ((Eo Dq ns i x 1).1=0->Vb W ns i x b o cb EB sb vb ov D 2 w')):=fun wr ⟨G,C,L,N,h1,h2,h3⟩=>by
  refine(ap9 W wr ns i x b o cb EB G sb vb ov D C L N h1 (by omega)).mono ?_
  rintro e w' ⟨rfl,hb⟩
  have hc:=h1.below hb
  exact⟨rfl,hc.sc.old,fun _=>⟨G,C,L,N,hc,fun _=>h2 (by omega),fun h9=>by omega⟩⟩
 have H2:Hid (∀wr,Vb W ns i x b o cb EB sb vb ov D 2 wr->Calls Tryz.prog 79 #[.pointer (some ⟨cb,0,none⟩)] wr fun e w'=>e=.returned (.tuple #[.int .i64 (Eo Dq ns i x 2).1,.int .i64 (Eo Dq ns i x 2).2])∧Hid (Below W.heap.size W w')∧Hid ((Eo Dq ns i x 2).1=0->Vb W ns i x b o cb EB sb vb ov D 3 w')):=fun wr ⟨G,C,L,N,h1,h2,h3⟩=>by
  obtain⟨rfl,hN9⟩:=h2 (by omega)
  refine(ai1 W wr ns i x b o cb EB (qx x) sb vb ov D C L N h1 (adf x) hin hns hnb hxb (by omega)).mono ?_
  rintro e w' ⟨rfl,G',C',L',N',hc,_,hg⟩
  exact⟨rfl,hc.sc.old,fun hz=>⟨G',C',L',N',hc,fun h9=>by omega,fun _=>hg hz⟩⟩
 have H3:Hid (∀wr,Vb W ns i x b o cb EB sb vb ov D 3 wr->Calls Tryz.prog 80 #[.pointer (some ⟨cb,0,none⟩)] wr fun e w'=>e=.returned (.tuple #[.int .i64 (Eo Dq ns i x 3).1,.int .i64 (Eo Dq ns i x 3).2])∧Hid (Below W.heap.size W w')∧Hid ((Eo Dq ns i x 3).1=0->Vb W ns i x b o cb EB sb vb ov D 4 w')):=fun wr ⟨G,C,L,N,h1,h2,h3⟩=>by
  have hG:=h3 (by omega)
  subst hG
  refine(an2 W wr ns i x b o cb EB _ sb vb ov D C L N h1 (by omega)).mono ?_
  rintro e w' ⟨rfl,hb⟩
  have hc:=h1.below hb
  exact⟨rfl,hc.sc.old,fun _=>⟨_,C,L,N,hc,fun h9=>by omega,fun _=>rfl⟩⟩
 have H4:Hid (∀wr,Vb W ns i x b o cb EB sb vb ov D 4 wr->aar x (ru x (qx x) x.eqs.length)->Calls Tryz.prog 81 #[.pointer (some ⟨cb,0,none⟩)] wr fun e w'=>e=.returned (.tuple #[.int .i64 (Eo Dq ns i x 4).1,.int .i64 (Eo Dq ns i x 4).2])∧Hid (Below W.heap.size W w')∧Hid ((Eo Dq ns i x 4).1=0->Vb W ns i x b o cb EB sb vb ov D 5 w')):=fun wr ⟨G,C,L,N,h1,h2,h3⟩ hok=>by
  have hG:=h3 (by omega)
  subst hG
  refine(atd Dq W wr ns i x b o cb EB _ sb vb ov D C L N h1 hok).mono ?_
  rintro e w' ⟨rfl,hb⟩
  have hc:=h1.below hb
  exact⟨rfl,hc.sc.old,fun _=>⟨_,C,L,N,hc,fun h9=>by omega,fun _=>rfl⟩⟩
 have H5:Hid (∀wr,Vb W ns i x b o cb EB sb vb ov D 5 wr->Calls Tryz.prog 82 #[.pointer (some ⟨cb,0,none⟩)] wr fun e w'=>e=.returned (.tuple #[.int .i64 (Eo Dq ns i x 5).1,.int .i64 (Eo Dq ns i x 5).2])∧Hid (Below W.heap.size W w')∧Hid ((Eo Dq ns i x 5).1=0->Vb W ns i x b o cb EB sb vb ov D 6 w')):=fun wr ⟨G,C,L,N,h1,h2,h3⟩=>by
  have hG:=h3 (by omega)
  subst hG
  refine(ap3 W wr ns i x b o cb EB _ sb vb ov D C L N h1 hxb hsm hE).mono ?_
  rintro e w' ⟨rfl,hb⟩
  have hc:=h1.below hb
  exact⟨rfl,hc.sc.old,fun _=>⟨_,C,L,N,hc,fun h9=>by omega,fun _=>rfl⟩⟩
 have HLP:Hid ((Eo Dq ns i x 1).1=0->(Eo Dq ns i x 2).1=0->aar x (ru x (qx x) x.eqs.length)):=fun h1 h2=>anv hnb hxb (Nq (ab5 h1)) (ajh h2)
 have hAl:Below w.heap.size w (w.alloc (.cells #[.func (.func 77) #[.pointer (some ⟨cb,0,none⟩)] #[],.func (.func 78) #[.pointer (some ⟨cb,0,none⟩)] #[],.func (.func 79) #[.pointer (some ⟨cb,0,none⟩)] #[],.func (.func 80) #[.pointer (some ⟨cb,0,none⟩)] #[],.func (.func 81) #[.pointer (some ⟨cb,0,none⟩)] #[],.func (.func 82) #[.pointer (some ⟨cb,0,none⟩)] #[]] 147)):=(Below.refl _ _).alloc (Nat.le_refl _) _
 have J3:Hid (Vb W ns i x b o cb EB sb vb ov D 0 (w.alloc (.cells #[.func (.func 77) #[.pointer (some ⟨cb,0,none⟩)] #[],.func (.func 78) #[.pointer (some ⟨cb,0,none⟩)] #[],.func (.func 79) #[.pointer (some ⟨cb,0,none⟩)] #[],.func (.func 80) #[.pointer (some ⟨cb,0,none⟩)] #[],.func (.func 81) #[.pointer (some ⟨cb,0,none⟩)] #[],.func (.func 82) #[.pointer (some ⟨cb,0,none⟩)] #[]] 147))):=hide ⟨qx x,C,L,N,h.below hAl,fun _=>⟨rfl,hN⟩,fun h9=>by omega⟩
 have Gi:Hid (∀k,k<6->(Eo Dq ns i x k).1≠0->(∀j,j<k->(Eo Dq ns i x j).1=0)->Ri Dq ns i x=Eo Dq ns i x k):=fun k h1 h2 h3=>by
  unfold Ri
  rw[Fe h1 (by simpa using h2) (fun j hj=>by simpa using h3 j hj)]
 have Ox:Hid ((∀j,j<6->(Eo Dq ns i x j).1=0)->Ri Dq ns i x=(0,0)):=fun h3=>by
  unfold Ri
  rw[zk (fun j hj=>by simpa using h3 j hj)]
 obtain⟨PO,l7⟩:∃PO:Ending->World->Prop,PO=fun e w'=>e=.returned (.tuple #[.int .i64 (Ri Dq ns i x).1,.int .i64 (Ri Dq ns i x).2])∧Below W.heap.size W w':=⟨_,rfl⟩
 rw[←l7]
 have qy:=hide l7
 generalize hrs:Eo Dq ns i x=rs at *
 clear l7 h hns hnb hxb hsm hE hnm hst hAl hrs I7 hvl hin
 go_enter Tryz.func47,Tryz.ntmps47
 go_wp2
 go_loopg [23] 6 (fun gm iv wr=>∃k:Nat,k<=6∧gm=6-k∧iv=.int .i64 k∧Vb W ns i x b o cb EB sb vb ov D k wr∧∀j,j<k->(rs j).1=0)
 case atStart=>exact⟨0,Nat.zero_le _,rfl,rfl,uh J3,fun j hj=>absurd hj (Nat.not_lt_zero _)⟩
 case round =>
  obtain⟨k,hk,hg,rfl,hst,hno⟩:=hrel
  rename World=>wr
  have HG:=hide hg
  have HST:=hide hst
  have jo:=hide hno
  clear hg hno J3
  by_cases h6:k=6
  ·subst h6
   have gq:Hid (PO (.returned (.tuple #[.int .i64 0,.int .i64 0])) wr):=by
    rw[uh qy]
    refine hide ⟨?_,hst.old⟩
    rw[uh Ox (uh jo)]
   clear hst
   go_wp2
   exact uh gq
  by_cases h0:k=0
  ·subst h0
   have hix:=a06 cb wr
   have HC:=hide (uh H0 wr hst)
   have Fh:=hide (uh Gi 0 (by decide))
   have xw:Hid ((rs 0).1=0->∀j,j<1->(rs j).1=0):=fun h9 j hj=>by
    by_cases c:j=0
    ·rw[c];exact h9
    ·exact uh jo j (by omega)
   clear H0 H1 H2 H3 H4 H5 HLP Gi Ox hst hk
   generalize rs 0=r at HC Fh xw
   obtain⟨r1,r2⟩:=r
   simp only at HC Fh xw
   by_cases hz:r1=0
   ·have Gy:=hide (uh xw hz)
    subst hz
    clear Fh xw
    go_wp2_with fail
    refine(uh HC).mono ?_
    rintro e9 w3 ⟨rfl,HB3,Ee⟩
    have Rw:=hide (uh Ee (by first|trivial|rfl))
    clear HC Ee
    go_wp2
    go_roundg (6-1)
    case measure =>
     have h9:=uh HG
     omega
    case rel=>exact⟨1,by decide,rfl,by first|rfl|go_num,uh Rw,uh Gy⟩
   ·have V5:=hide (uh Fh hz (uh jo))
    have hne:(r1 == 0)=false:=by rw[beq_eq_false_iff_ne];exact hz
    have hnn:(r1 != 0)=true:=by rw[bne_iff_ne];exact hz
    clear Fh xw hz
    go_wp2_with fail
    refine(uh HC).mono ?_
    rintro e9 w3 ⟨rfl,HB3,Ee⟩
    have gq:Hid (PO (.returned (.tuple #[.int .i64 r1,.int .i64 r2])) w3):=by
     rw[uh qy]
     refine hide ⟨?_,uh HB3⟩
     rw[uh V5]
    clear HC Ee HB3
    go_wp2
    exact uh gq
  by_cases h1:k=1
  ·subst h1
   have hix:=a07 cb wr
   have HC:=hide (uh H1 wr hst)
   have Fh:=hide (uh Gi 1 (by decide))
   have xw:Hid ((rs 1).1=0->∀j,j<2->(rs j).1=0):=fun h9 j hj=>by
    by_cases c:j=1
    ·rw[c];exact h9
    ·exact uh jo j (by omega)
   clear H0 H1 H2 H3 H4 H5 HLP Gi Ox hst hk
   generalize rs 1=r at HC Fh xw
   obtain⟨r1,r2⟩:=r
   simp only at HC Fh xw
   by_cases hz:r1=0
   ·have Gy:=hide (uh xw hz)
    subst hz
    clear Fh xw
    go_wp2_with fail
    refine(uh HC).mono ?_
    rintro e9 w3 ⟨rfl,HB3,Ee⟩
    have Rw:=hide (uh Ee (by first|trivial|rfl))
    clear HC Ee
    go_wp2
    go_roundg (6-2)
    case measure =>
     have h9:=uh HG
     omega
    case rel=>exact⟨2,by decide,rfl,by first|rfl|go_num,uh Rw,uh Gy⟩
   ·have V5:=hide (uh Fh hz (uh jo))
    have hne:(r1 == 0)=false:=by rw[beq_eq_false_iff_ne];exact hz
    have hnn:(r1 != 0)=true:=by rw[bne_iff_ne];exact hz
    clear Fh xw hz
    go_wp2_with fail
    refine(uh HC).mono ?_
    rintro e9 w3 ⟨rfl,HB3,Ee⟩
    have gq:Hid (PO (.returned (.tuple #[.int .i64 r1,.int .i64 r2])) w3):=by
     rw[uh qy]
     refine hide ⟨?_,uh HB3⟩
     rw[uh V5]
    clear HC Ee HB3
    go_wp2
    exact uh gq
  by_cases h2:k=2
  ·subst h2
   have hix:=a08 cb wr
   have HC:=hide (uh H2 wr hst)
   have Fh:=hide (uh Gi 2 (by decide))
   have xw:Hid ((rs 2).1=0->∀j,j<3->(rs j).1=0):=fun h9 j hj=>by
    by_cases c:j=2
    ·rw[c];exact h9
    ·exact uh jo j (by omega)
   clear H0 H1 H2 H3 H4 H5 HLP Gi Ox hst hk
   generalize rs 2=r at HC Fh xw
   obtain⟨r1,r2⟩:=r
   simp only at HC Fh xw
   by_cases hz:r1=0
   ·have Gy:=hide (uh xw hz)
    subst hz
    clear Fh xw
    go_wp2_with fail
    refine(uh HC).mono ?_
    rintro e9 w3 ⟨rfl,HB3,Ee⟩
    have Rw:=hide (uh Ee (by first|trivial|rfl))
    clear HC Ee
    go_wp2
    go_roundg (6-3)
    case measure =>
     have h9:=uh HG
     omega
    case rel=>exact⟨3,by decide,rfl,by first|rfl|go_num,uh Rw,uh Gy⟩
   ·have V5:=hide (uh Fh hz (uh jo))
    have hne:(r1 == 0)=false:=by rw[beq_eq_false_iff_ne];exact hz
    have hnn:(r1 != 0)=true:=by rw[bne_iff_ne];exact hz
    clear Fh xw hz
    go_wp2_with fail
    refine(uh HC).mono ?_
    rintro e9 w3 ⟨rfl,HB3,Ee⟩
    have gq:Hid (PO (.returned (.tuple #[.int .i64 r1,.int .i64 r2])) w3):=by
     rw[uh qy]
     refine hide ⟨?_,uh HB3⟩
     rw[uh V5]
    clear HC Ee HB3
    go_wp2
    exact uh gq
  by_cases h3:k=3
  ·subst h3
   have hix:=a09 cb wr
   have HC:=hide (uh H3 wr hst)
   have Fh:=hide (uh Gi 3 (by decide))
   have xw:Hid ((rs 3).1=0->∀j,j<4->(rs j).1=0):=fun h9 j hj=>by
    by_cases c:j=3
    ·rw[c];exact h9
    ·exact uh jo j (by omega)
   clear H0 H1 H2 H3 H4 H5 HLP Gi Ox hst hk
   generalize rs 3=r at HC Fh xw
   obtain⟨r1,r2⟩:=r
   simp only at HC Fh xw
   by_cases hz:r1=0
   ·have Gy:=hide (uh xw hz)
    subst hz
    clear Fh xw
    go_wp2_with fail
    refine(uh HC).mono ?_
    rintro e9 w3 ⟨rfl,HB3,Ee⟩
    have Rw:=hide (uh Ee (by first|trivial|rfl))
    clear HC Ee
    go_wp2
    go_roundg (6-4)
    case measure =>
     have h9:=uh HG
     omega
    case rel=>exact⟨4,by decide,rfl,by first|rfl|go_num,uh Rw,uh Gy⟩
   ·have V5:=hide (uh Fh hz (uh jo))
    have hne:(r1 == 0)=false:=by rw[beq_eq_false_iff_ne];exact hz
    have hnn:(r1 != 0)=true:=by rw[bne_iff_ne];exact hz
    clear Fh xw hz
    go_wp2_with fail
    refine(uh HC).mono ?_
    rintro e9 w3 ⟨rfl,HB3,Ee⟩
    have gq:Hid (PO (.returned (.tuple #[.int .i64 r1,.int .i64 r2])) w3):=by
     rw[uh qy]
     refine hide ⟨?_,uh HB3⟩
     rw[uh V5]
    clear HC Ee HB3
    go_wp2
    exact uh gq
  by_cases h4:k=4
  ·subst h4
   have hix:=a1a cb wr
   have HC:=hide (uh H4 wr hst (uh HLP (uh jo 1 (by decide)) (uh jo 2 (by decide))))
   have Fh:=hide (uh Gi 4 (by decide))
   have xw:Hid ((rs 4).1=0->∀j,j<5->(rs j).1=0):=fun h9 j hj=>by
    by_cases c:j=4
    ·rw[c];exact h9
    ·exact uh jo j (by omega)
   clear H0 H1 H2 H3 H4 H5 HLP Gi Ox hst hk
   generalize rs 4=r at HC Fh xw
   obtain⟨r1,r2⟩:=r
   simp only at HC Fh xw
   by_cases hz:r1=0
   ·have Gy:=hide (uh xw hz)
    subst hz
    clear Fh xw
    go_wp2_with fail
    refine(uh HC).mono ?_
    rintro e9 w3 ⟨rfl,HB3,Ee⟩
    have Rw:=hide (uh Ee (by first|trivial|rfl))
    clear HC Ee
    go_wp2
    go_roundg (6-5)
    case measure =>
     have h9:=uh HG
     omega
    case rel=>exact⟨5,by decide,rfl,by first|rfl|go_num,uh Rw,uh Gy⟩
   ·have V5:=hide (uh Fh hz (uh jo))
    have hne:(r1 == 0)=false:=by rw[beq_eq_false_iff_ne];exact hz
    have hnn:(r1 != 0)=true:=by rw[bne_iff_ne];exact hz
    clear Fh xw hz
    go_wp2_with fail
    refine(uh HC).mono ?_
    rintro e9 w3 ⟨rfl,HB3,Ee⟩
    have gq:Hid (PO (.returned (.tuple #[.int .i64 r1,.int .i64 r2])) w3):=by
     rw[uh qy]
     refine hide ⟨?_,uh HB3⟩
     rw[uh V5]
    clear HC Ee HB3
    go_wp2
    exact uh gq
  by_cases h5:k=5
  ·subst h5
   have hix:=a1b cb wr
   have HC:=hide (uh H5 wr hst)
   have Fh:=hide (uh Gi 5 (by decide))
   have xw:Hid ((rs 5).1=0->∀j,j<6->(rs j).1=0):=fun h9 j hj=>by
    by_cases c:j=5
    ·rw[c];exact h9
    ·exact uh jo j (by omega)
   clear H0 H1 H2 H3 H4 H5 HLP Gi Ox hst hk
   generalize rs 5=r at HC Fh xw
   obtain⟨r1,r2⟩:=r
   simp only at HC Fh xw
   by_cases hz:r1=0
   ·have Gy:=hide (uh xw hz)
    subst hz
    clear Fh xw
    go_wp2_with fail
    refine(uh HC).mono ?_
    rintro e9 w3 ⟨rfl,HB3,Ee⟩
    have Rw:=hide (uh Ee (by first|trivial|rfl))
    clear HC Ee
    go_wp2
    go_roundg (6-6)
    case measure =>
     have h9:=uh HG
     omega
    case rel=>exact⟨6,by decide,rfl,by first|rfl|go_num,uh Rw,uh Gy⟩
   ·have V5:=hide (uh Fh hz (uh jo))
    have hne:(r1 == 0)=false:=by rw[beq_eq_false_iff_ne];exact hz
    have hnn:(r1 != 0)=true:=by rw[bne_iff_ne];exact hz
    clear Fh xw hz
    go_wp2_with fail
    refine(uh HC).mono ?_
    rintro e9 w3 ⟨rfl,HB3,Ee⟩
    have gq:Hid (PO (.returned (.tuple #[.int .i64 r1,.int .i64 r2])) w3):=by
     rw[uh qy]
     refine hide ⟨?_,uh HB3⟩
     rw[uh V5]
    clear HC Ee HB3
    go_wp2
    exact uh gq
  omega
end Go.Proofs.YtflcnhfakcgkeaaGreat
